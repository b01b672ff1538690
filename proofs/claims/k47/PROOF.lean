import PyProof.Rows.All
import PySem.PyData
import Wide.All
import OpenK.AllK
import Wide.FinOn
import Lean
import PyProof.EqAt
import PyProof.EqKinds
import PyProof.TupleCall
import PyProof.SetKind
import PyProof.TupleKey
import PyProof.IsRules
import PyProof.SetRoads
import PyProof.DictKinds
import PyProof.RaisesMany
import PyProof.RulesTry
import PyProof.ExcClass2
import KE.KTryMore
import PyProof.RulesAs
import PyProof.NsDelKeeps
import KE.KDictList
import PyProof.P3In
import PyProof.Rows.SortShellK
import PyProof.TupleOfSeq
import PyProof.WalkInts
import PyProof.SeqI3
import PyProof.SumAnyB
import PyProof.Rows.SeqWords
import PyProof.ListRange
import PyProof.DictValues
import PyProof.DictWalks
import PyProof.NeKinds
import PyProof.FactsAll.list_2
import PyProof.EvalArms
import PyProof.Rows.SetObj
import KE.KRevIter
import PyProof.Rows.IntMath
import PyProof.Draws
import PyProof.ZipIter
import PyProof.EnumMake
import Wide.Seal
import PyProof.FactsAll.tuple_1
import PySem.Challenge.RW_farhail_k47_shares_told
set_option linter.all false
local macro_rules | `(tactic| nofun) => `(tactic| first|exact Or.inl rfl|exact Or.inr (Or.inl rfl)|exact Or.inr (Or.inr rfl))
local macro_rules | `(tactic| ac_rfl) => `(tactic| exact⟨rfl,rfl,rfl,by decide +kernel,rfl,by decide +kernel,by decide +kernel⟩)
set_option genSizeOf false
set_option genInjectivity false
section
open PySem
abbrev Zn:=List (PyData×PyData)
abbrev Zo:=Array (Option Value)
abbrev Zp:=Value->Shared->Prop
abbrev Zq:=List Comprehension
abbrev Zr:=Str->Option Value
abbrev Zs:=List (Addr×Obj)
abbrev Zt:=Array DictEntry
abbrev Zu:=Int->Int->Bool
abbrev Zv:=List (Nat×Nat)
abbrev Zw:=List (Int×Int)
abbrev Zx:=PySem.W.Frag
abbrev Zy:=Option Value
abbrev Zz:=Array Value
abbrev A00:=List PyData
abbrev A01:=Option Addr
abbrev A02:=List Value
abbrev A03:=List Addr
abbrev A04:=List Bool
abbrev A05:=List Expr
abbrev A06:=List Stmt
abbrev A07:=List Nat
abbrev A08:=List Int
abbrev A09:=List Str
end
section
open PySem PySem.Spec PyProof.Rows PySem.W
def V0:=@wpAny_bind
def V1:=@wpS_bind
def V2:=@wpS_pure
def V3:=@List.mem_cons_self
def V4:=@List.length_map
def V5:=@Nat.le_refl
def V6:=@wpAny_pure
def V7:=@List.mem_singleton
def V8:=@List.mem_map
def V9:=@Bool.and_eq_true
def VA:=@List.mem_cons_of_mem
def VB:=@List.mem_cons
def VC:=@Heap.lt_size
def VD:=@List.length_range
def VE:=@List.getElem?_map
def VF:=@List.getElem?_range
def VG:=@List.map_map
def VH:=@List.length_append
def VI:=@List.length_cons
def VJ:=@List.all_cons
def VL:=@List.all_eq_true
def VM:=@List.size_toArray
def VN:=@List.map_cons
def VO:=@List.getD_eq_getElem?_getD
def VP:=@List.getElem?_eq_getElem
def VQ:=@Nat.ne_of_lt
def VR:=@List.map_append
def VS:=@List.mem_append
def VT:=@List.length_set
def VU:=@List.mem_range
def VV:=@Bool.false_ne_true
def VW:=@Heap.get?_push_of_some
def VX:=@List.map_congr_left
def VY:=@List.getElem?_eq_none
def VZ:=@List.mem_of_getElem?
def Vv:=@Nat.lt_of_lt_of_le
def Vw:=@decide_eq_true
def Vx:=@Nat.le_trans
def Vy:=@decide_eq_false
def Vz:=@List.append_assoc
def W0:=@List.not_mem_nil
def W2:=@List.mem_flatMap
def W3:=@wpS_mono
def W4:=@wpS_forRange
def W5:=@PassesOwn.leaving
def W6:=@List.nodup_cons
def W7:=@Nat.zero_le
def W8:=@Heap.get?_push_size
def W9:=@List.append_nil
def WA:=@List.ext_getElem?
def WB:=@Nat.lt_irrefl
def WC:=@wpAny_mono
def WD:=@List.length_nil
def WH:=@Array.toList_append
def WI:=@Int.mul_zero
def WJ:=@mg_none_of
def WK:=@List.sum_cons
def WM:=@Nat.lt_or_ge
def WN:=@List.mem_append_right
def WO:=@List.length_drop
def WQ:=@List.lookup_cons
def WR:=@wpS_modify
def WU:=@List.take_length
def WV:=@of_decide_eq_true
def WX:=@PySem.F.slot_list_append
def WY:=@PySem.F.type_list_append
def WZ:=@List.range_succ
def Wa:=@List.getElem?_set
def Wb:=@wpAny_holding
def Wc:=@Heap.get?_update_other
def Wd:=@List.nodup_nil
def We:=@Int.mul_comm
def Wf:=@List.mem_filter
def Wg:=@List.getElem?_set_ne
def Wi:=@PySem.W.kia_one
def Wj:=@List.length_take
def Wk:=@List.length_replicate
def Wl:=@wpAny_rule
def Wm:=@Int.mul_one
def Wn:=@True.intro
def Wo:=@or_false
def Wq:=@Bool.eq_iff_iff
def Wr:=@List.getElem?_set_self
def Ws:=@wpAny_field
def Wt:=@wpAny_newObj_type
def Wu:=@decide_eq_true_eq
def Wv:=@List.nodup_range
def Ww:=@if_false
def Wx:=@List.replicate_succ
def Wy:=@List.any_cons
def Wz:=@List.getElem?_of_mem
def X3:=@Nat.add_assoc
def X4:=@Int.mul_left_comm
def X5:=@List.getElem?_eq_some_iff
def X6:=@Array.length_toList
def X7:=@Prod.ext
def X8:=@wpAny_call_entry
def XA:=@eq_of_beq
def XD:=@call_meets
def XE:=@wpS_lift
def XF:=@List.take_succ
def XG:=@List.length_pos_iff
def XI:=@numAt_eq
def XJ:=@List.nil_append
def XM:=@PyProof.Rows.boot_list
def XN:=@Int.not_lt
def XO:=@Nat.not_lt_zero
def XQ:=@Int.le_refl
def XR:=@List.filterMap_cons
def XS:=@wpAny_truthy_bool
def XT:=@wpAny_passesOwn
def XU:=@Heap.get?_update_self
def XW:=@List.flatten_cons
def XX:=@Option.map_eq_some_iff
def XY:=@Bool.and_false
def XZ:=@List.Perm.append_left
def Xa:=@List.perm_append_comm
def Xb:=@List.take_of_length_le
def Xc:=@Array.getElem?_toList
def Xd:=@Nat.le_add_right
def Xe:=@Int.le_trans
def Xf:=@Nat.min_eq_left
def Xg:=@List.cons_append
def Xh:=@Int.mul_assoc
def Xi:=@Classical.byContradiction
def Xj:=@Int.zero_mul
def Xk:=@Int.le_of_eq
def Xl:=@Nat.ne_of_gt
def Xm:=@PyProof.Rows.callWith_type1
def Xn:=@List.getElem?_append_left
def Xo:=@List.find?_cons
def Xp:=@List.getElem_mem
def Xq:=@wpAny_setField
def Xr:=@Array.getElem?_eq_some_iff
def Xs:=@List.take_append_drop
def Xu:=@Nat.add_sub_cancel_left
def Xv:=@intItems_at
def Xw:=@List.sum_append
def Xx:=@decide_eq_true_iff
def Xy:=@List.map_take
def Xz:=@List.cons.injEq
def Y0:=@Int.mul_sub
def Y3:=@Int.le_of_lt
def Y4:=@List.filter_cons_of_pos
def Y5:=@List.contains_eq_mem
def Y6:=@Int.ofNat_lt
def Y7:=@Nat.le_of_lt
def Y8:=@wpAny_execs_nil
def Y9:=@codeAny_mono
def YA:=@PySem.mem_of_lookup
def YB:=@List.getElem?_append_right
def YC:=@wpAny_typeOf
def YD:=@tupleKind_room_in1
def YE:=@wpAny_attempt
def YF:=@Nat.le_of_eq
def YG:=@Obj.data_mapFields
def YH:=@Array.getElem?_eq_getElem
def YI:=@List.Perm.append_right
def YJ:=@List.drop_zero
def YK:=@Bool.false_eq_true
def YL:=@Nat.lt_succ_of_lt
def YM:=@Nat.lt_succ_self
def YN:=@Bool.not_eq_true'
def YO:=@PySem.F.plainAttrs_list
def YQ:=@List.find?_cons_of_pos
def YR:=@List.find?_cons_of_neg
def YS:=@PyProof.Rows.boot_tuple
def YT:=@Heap.SameBut.update
def YU:=@List.nodup_append
def YV:=@List.contains_iff_mem
def YW:=@List.cons_ne_nil
def YX:=@List.set_set
def YY:=@List.set_comm
def YZ:=@Nat.le_total
def Yb:=@Nat.min_eq_right
def Yc:=@Nat.lt_trichotomy
def Yd:=@Nat.mod_lt
def Ye:=@List.mem_map_of_mem
def Yg:=@List.eq_nil_of_length_eq_zero
def Yh:=@Int.natCast_nonneg
def Yi:=@wpAny_Call_Name_kw
def Yj:=@List.of_mem_zip
def Yk:=@List.getElem?_replicate
def Yl:=@Int.toNat_natCast
def Ym:=@wpAny_callSpecial?_slot
def Yn:=@PyProof.Rows.slot_tuple_getitem
def Yo:=@List.map_nil
def Yp:=@Obj.isFreed_of_fields
def Yq:=@List.drop_of_length_le
def Yr:=@Array.toList_push
def Ys:=@listItems_at
def Yt:=@Nat.sub_zero
def Yu:=@List.getElem?_zipIdx
def Yv:=@PyProof.Rows.boot_int
def Yw:=@PyProof.Rows.boot_isinstance
def Yx:=@wpAny_dictEntries
def Yy:=@F.slot_dict_valueiterator_next
def Yz:=@wpAny_typeNameOfWhole_valiter
def Z0:=@wpAny_typeNameOf_valiter
def Z1:=@Int.zero_add
def Z2:=@Nat.mul_le_mul
def Z3:=@List.flatMap_append
def Z4:=@List.flatMap_cons
def Z5:=@List.flatMap_nil
def Z6:=@List.find?_eq_none
def Z7:=@Int.add_zero
def Z8:=@Int.mul_nonpos_of_nonpos_of_nonneg
def Z9:=@Int.mul_le_mul_of_nonneg_right
def ZA:=@Nat.mod_eq_of_lt
def ZC:=@List.getElem?_inj
def ZD:=@List.filter_cons_of_neg
def ZE:=@List.contains_cons
def ZF:=@Heap.get?_none_of_le
def ZG:=@List.mem_append_left
def ZH:=@List.mem_filterMap
def ZI:=@Array.find?_toList
def ZJ:=@PySem.W.kitx_list
def ZK:=@Option.isSome_iff_exists
def ZL:=@Nat.min_le_right
def ZM:=@Calls.callWith_builtin
def ZN:=@Option.isSome_map
def ZO:=@wpAny_pyIter_list
def ZP:=@Option.bind_some
def ZQ:=@Array.toList_extract
def ZR:=@List.extract_eq_take_drop
def ZS:=@Array.toList_reverse
def ZT:=@List.reverse_perm
def ZU:=@Array.perm_iff_toList_perm
def ZV:=@PyProof.Rows.same_iff
def ZW:=@PyProof.Rows.boot_min
def ZX:=@wpAny_isOneOf_valiter
def ZY:=@List.filterMap_append
def ZZ:=@Decidable.not_not
def Za:=@Option.ne_none_iff_exists'
def Zb:=@List.mem_of_mem_drop
def Zc:=@Nat.add_mul_mod_self_left
def Zd:=@List.flatten_replicate_singleton
def Ze:=@List.filter_eq_nil_iff
def Zf:=@List.length_filter_le
def Zg:=@Nat.le_of_ble_eq_true
def Zh:=@PySem.F.slot_list_extend
def Zi:=@PySem.F.type_list_extend
def Zj:=@PyProof.Rows.slot_tuple_getitem.lookup
def Zk:=@F.entry_dict_valueiterator_next
def Zl:=@F.args_dict_valueiterator_next_1
def Zm:=@Int.mul_le_mul_of_nonneg_left
end
noncomputable section
namespace PySem.W.Fast
def tw10644729962751614032:=Nat
def tw12883131675380643113:=Nat
def tw10846161338847380034:=Nat
def tw1373676147840784501:=Nat
def tw8965749743114668114:=Nat
def tw15796134766803412746:=Nat
def tw4896246341483680211:=Nat
def tw5850708910287531061:=Nat
def tw11409318305011650143:=Nat
def tw5441624377492427820:=Nat
def tw16007965043970055165:=Nat
def tw10433995777814053148:=Nat
def tw4604118980668111022:=Nat
def tw10709194153115413809:=Nat
def tw13061746069178272964:=Nat
def tw16157806671197374077:=Nat
def tw16392832082953702521:=Nat
def tw6918928030802303342:=Nat
def tw4722399910973069351:=Nat
def tw17649258126042060914:=Nat
def tw15684244193672798006:=Nat
def tw9377100966288425836:=Nat
def tw9554872102120775095:=Nat
def tw14614444148040154081:=Nat
def tw7615886909200978348:=Nat
def tw9265481432273733946:=Nat
def tw9680456909779824889:=Nat
def tw14798933143890168131:=Nat
def tw9450055761152673484:=Nat
def tw3270927742249148456:=Nat
def tw1860785686940050665:=Nat
def tw9385766713390115568:=Nat
def tw12968404813376209695:=Nat
def tw8154134786570827959:=Nat
def tw10599639077682985428:=Nat
def tw2300631553757898890:=Nat
def tw504886339540038464:=Nat
def tw9607909309431904889:=Nat
def tw13310436776681968529:=Nat
def tw10523665507419135282:=Nat
def tw14979097482151019184:=Nat
def tw10021107461339940508:=Nat
def tw3790534746883249971:=Nat
def tw8234205697611356987:=Nat
def tw1660052119057802041:=Nat
def tw2940149062788739232:=Nat
def tw4258406052533197159:=Nat
def tw12846331753312364406:=Nat
def tw9254488131167963906:=Nat
def tw10827896544385610355:=Nat
def tw8937509932301716271:=Nat
def tw3201768208914721320:=Nat
def tw14937475064721755987:=Nat
def tw403634624321841194:=Nat
def tw9852326676526828447:=Nat
def tw7303872469234038816:=Nat
def tw11543802563128003090:=Nat
def tw1672483494656423540:=Nat
def tw3996728198888063384:=Nat
def tw569953382962140054:=Nat
end PySem.W.Fast
set_option Elab.async false
set_option linter.all false
set_option maxHeartbeats 4000000
set_option maxRecDepth 100000
namespace Dv
open PySem
inductive Kd where
 |sh|ow (p:Bool)|dp (p:Bool)|dk (p:Bool)|dt (p:Bool)|st (p:Bool)
 deriving DecidableEq
def lM (n:Nat) (i:Int):Option Nat:=if 0<=i then(if i<n then some i.toNat else none)else if-(n:Int)<=i then some (i+n).toNat else none
def mj:PyData->Bool
 |.int _ | .str _=>true
 |_=>false
instance Vt:DecidableEq PyData:=λa b=>Classical.propDecidable (a=b)
def cN (kvs:Zn)(k:PyData):Option PyData:=(kvs.find? λkv=>decide (kv.1=k)).map (·.2)
def putD (kvs:Zn)(k v:PyData):Zn:=if(kvs.any λkv=>decide (kv.1=k))=true then kvs.map (λkv=>if kv.1=k then(kv.1,v)else kv)else kvs++[(k,v)]
def hi0:Nat:=0
def hi1:Nat:=hi0
def hi2:Nat:=hi1
def Vl:Nat:=hi2
def Vh:Nat:=Vl
def Vb:Nat:=Vh
def UI:Nat:=Vb
def U0:Nat:=UI
def U7:Nat:=U0
def UJ:Nat:=U7
def UC:Nat:=UJ
def UB:Nat:=UC
def jX:Nat:=UB
abbrev En:=List (Option (Kd×PyData))
abbrev XC:=Str->PyData->Prop
abbrev xF:XC:=λ_ _=>False
abbrev DE:=XC->En->(En->Kd->PyData->Prop)->Prop
abbrev DT:=XC->En->(En->Bool->Prop)->Prop
abbrev DI:=XC->En->(En->A00->Prop)->Prop
structure fX where
 nx:En->Prop
 rt:En->Kd->PyData->Prop
 xc:XC
abbrev DS:=fX->En->Prop
abbrev bz:=A00->(A00->Kd->PyData->Prop)->XC->Prop
def lf:PyData->Bool
 |.none | .bool _ | .int _ | .str _=>true
 |.tuple ds=>lfs ds
 |.list _ | .dict _=>false
where lfs:A00->Bool
 |[]=>true
 |d::ds=>lf d&&lfs ds
theorem vq:∀ds:A00,lf.lfs ds=ds.all lf
 |[]=>by rw[lf.lfs];rfl
 |d::ds=>by rw[lf.lfs,vq ds];rfl
def Bx:PyData->Bool
 |.list _=>true
 |_=>false
noncomputable def flat:Kd->PyData->Bool
 |.sh,d=>lf d
 |.ow _,.list ds=>ds.all lf
 |.dp _,.list ds=>ds.all λd=>match d with | .list es=>es.all lf|d=>lf d
 |.dk _,.dict kvs=>kvs.all λkv=>lf kv.2
 |.dt _,.dict kvs=>kvs.all λkv=>lf kv.2
 |_,_=>false
def Kd.fz:Kd->Bool
 |.sh | .ow false | .dp false | .dk false | .dt false=>true
 |_=>false
def Kd.rd:Kd->Bool
 |.st _=>false
 |_=>true
def Kd.pin:Kd->Bool
 |.ow p | .dp p | .dk p | .dt p | .st p=>p
 |.sh=>false
def dI (E:En) (i:Nat):Option En:=match E[i]? with
 |some (some (k,d))=>if k.fz then some (E.set i (some (.sh,d)))else none
 |_=>none
def d8:A07->En->Option En
 |[],E=>some E
 |i::r,E=>(dI E i).bind (d8 r)
inductive Arg where
 |pk (i:Nat)|ev (d:DE)
def cL:List Arg->A07
 |[]=>[]
 |.pk i::r=>i::cL r
 |.ev _::r=>cL r
def here (E:En) (i:Nat):Bool:=match E[i]? with
 |some (some _)=>true
 |_=>false
noncomputable def fill:List Arg->En->List (Option PyData)->Option (A00)
 |[],_,[]=>some []
 |.pk i::r,E,none::os=>match E[i]? with
  |some (some (k,d))=>if k.rd then(fill r E os).map (d::·)else none
  |_=>none
 |.ev _::r,E,some v::os=>(fill r E os).map (v::·)
 |_,_,_=>none
def gm (E:En) (i:Nat):Bool:=match E[i]? with
 |some (some (.sh,_))=>true
 |_=>false
theorem zg{E:En}:∀{is:A07},is.all (gm E)=true->d8 is E=some E
 |[],_=>rfl
 |i::r,h=>by
  rw[VJ,V9]at h;have e:dI E i=some E:=by
   have h1:=h.1;unfold gm at h1;unfold dI;split at h1
   .rename_i d e;rw[e];show some (E.set i (some (.sh,d)))=some E;congr 1;refine WA λj=>?_;rw[Wa];by_cases c:i=j
    .subst c;rw[if_pos rfl,e];have l:i<E.length:=by rcases WM i E.length with z|z;{exact z};rw[VY z]at e;cases e
     rw[if_pos l]
    rw[if_neg c]
   cases h1
  show(dI E i).bind (d8 r)=some E;rw[e];exact zg h.2
def SH (as:List Arg)(E:En)(k:Kd)(v:PyData):Option En:=if((cL as).all (gm E)||flat k v)=true then some E else d8 (cL as) E
def t9{is:A07}{E E2:En}{b:Bool}(h:(if(is.all (gm E)||b)=true then some E else d8 is E)=some E2):(if b=true then some E else d8 is E)=some E2:=by
 cases hs:is.all (gm E)with
 |true=>rw[hs,Bool.true_or,if_pos rfl]at h;rw[zg hs,h,ite_self]
 |false=>rw[hs,Bool.false_or]at h;exact h
abbrev DR:=A00->(Kd->PyData->Prop)->Prop
def dC (v:PyData):DE:=λ_ E Q=>(λ_:Nat=>Q E .sh v) jX
noncomputable def tG:A04->List Arg->A00->En->Option En
 |[],[],[],E=>some E
 |false::ms,_::r,us,E=>tG ms r us E
 |true::ms,.pk i::r,u::us,E=>match E[i]? with
  |some (some (.ow p,.list _))=>if Bx u then tG ms r us (E.set i (some (.ow p,u)))else none
  |_=>none
 |_,_,_,_=>none
def lent:A04->List Arg->A07
 |true::ms,.pk i::r=>i::lent ms r
 |_::ms,_::r=>lent ms r
 |_,_=>[]
def kept:A04->List Arg->A07
 |false::ms,.pk i::r=>i::kept ms r
 |_::ms,_::r=>kept ms r
 |_,_=>[]
def shape:A04->List Arg->Bool
 |[],[]=>true
 |true::ms,.pk _::r=>shape ms r
 |false::ms,_::r=>shape ms r
 |_,_=>false
noncomputable def yj (ms:A04)(as:List Arg)(E:En):Bool:=shape ms as&&decide (lent ms as).Nodup&&(lent ms as).all (λi=>!(kept ms as).contains i&&(match E[i]? with|some (some (.ow _,.list _))=>true|_=>false))
def Nm (ms:A04)(as:List Arg)(us:A00)(E:En)(k:Kd)(v:PyData):Option En:=if((kept ms as).all (gm E)||(flat k v&&us.all (flat (.ow false))))=true then some E else d8 (kept ms as) E
def lB:PyData->Option Bool
 |.bool b=>some b
 |.int i=>some (!decide (i=0))
 |.none=>some false
 |.str _=>none
 |.list ds=>some !ds.isEmpty
 |.tuple ds=>some !ds.isEmpty
 |.dict _=>none
def OI (d:DE):DT:=λx E Q=>d x E λE' _ v=>∃b,lB v=some b/\Q E' b
def EL (t:DT):DT:=λx E Q=>(λ_:Nat=>t x E λE' b=>Q E' (!b)) jX
def Ou (a b:DE):DE:=λx E Q=>a x E λE1 _ v=>∃c,v=.bool c/\if c=true then b x E1 Q else Q E1 .sh (.bool false)
def SW (a b:DE):DE:=λx E Q=>a x E λE1 _ v=>∃c,v=.bool c/\if c=true then Q E1 .sh (.bool true)else b x E1 Q
def Nc (a:DE):DE:=λx E Q=>a x E λE1 _ v=>∃c,lB v=some c/\Q E1 .sh (.bool !c)
noncomputable def GN (f f':Zu)(a b c:DE):DE:=λx E Q=>a x E λE1 _ u=>∃i,u=.int i/\b x E1 λE2 _ v=>∃j,v=.int j/\if f i j=true then c x E2 λE3 _ w=>∃k,w=.int k/\Q E3 .sh (.bool (f' j k))else Q E2 .sh (.bool false)
def SA (c:DT)(a b:DE):DE:=λx E Q=>c x E λE1 t=>if t=true then a x E1 Q else b x E1 Q
def cU:DS:=λD E=>(λ_:Nat=>D.nx E) jX
def ao (a b:DS):DS:=λD E=>(λ_:Nat=>a { D with nx:=b D } E) jX
def sL (a b:DS):DS:=λD E=>∃J:En->Prop,a { D with nx:=J } E/\∀E',J E'->b D E'
def Px (c:DT)(a b:DS):DS:=λD E=>c D.xc E λE1 t=>if t=true then a D E1 else b D E1
def bI (E:En) (i:Nat):Bool:=match E[i]? with
 |some (some (k,_))=>!k.pin
 |some none=>true
 |none=>false
def OM (i:Nat)(e:DE):DS:=λD E=>e D.xc E λE' k v=>bI E' i=true/\D.nx (E'.set i (some (k,v)))
inductive Tg where
 |nm (i:Nat)|tp (is:A07)|nt (i:Nat)(is:A07)
def Tg.slots:Tg->A07
 |.nm i=>[i]
 |.tp is=>is
 |.nt i is=>i::is
def bL:A07->A00->En->Option En
 |[],[],E=>some E
 |i::is,d::ds,E=>if bI E i then bL is ds (E.set i (some (.sh,d)))else none
 |_,_,_=>none
def cX:Tg->PyData->En->Option En
 |.nm i,d,E=>bL [i] [d] E
 |.tp is,.tuple ds,E=>bL is ds E
 |.nt i is,.tuple [d,.tuple ds],E=>bL (i::is) (d::ds) E
 |_,_,_=>none
def bU (e:DE):DS:=λD E=>(λ_:Nat=>e D.xc E D.rt) jX
def jA (E:En) (i:Nat):Bool:=match E[i]? with
 |some (some (.ow _,.list _))=>true
 |_=>false
abbrev DM:=A00->A00->(A00->PyData->Prop)->Prop
def nU:Zn->Bool
 | (.none,_)::_=>false
 |_=>true
noncomputable def yW (most:Nat) (i:Nat)(e:DE):DS:=λD E=>jA E i=true/\e D.xc E λE1 k v=>k.fz=true/\∃p ds es,E1[i]?=some (some (.ow p,.list ds))/\v=.list es/\ds.length+es.length<=most/\D.nx (E1.set i (some (.ow p,.list (ds++es))))
noncomputable def yI (f:DM) (i:Nat)(j:DE) (n:Nat):DE:=λx E Q=>here E i=true/\j x E λE1 _ w=>∃a p ds m es k d E2,w=.int a/\E1[i]?=some (some (.dp p,.list ds))/\lM ds.length a=some m/\ds[m]?=some (.list es)/\E1[n]?=some (some (k,d))/\i≠n/\dI E1 n=some E2/\f es [d] λnew v=>Q (E2.set i (some (.dp p,.list (ds.set m (.list new))))) .sh v
def qd (c:Str):DS:=λD _=>(λ_:Nat=>D.xc c .none) jX
def b6 (e:DE):DS:=λD E=>(λ_:Nat=>e D.xc E λE' _ _=>D.nx E') jX
noncomputable def dQ (it:DI)(tg:Tg)(b:DS):DS:=λD E=>(λ_:Nat=>it D.xc E λE1 xs=>∃I:Nat->En->Prop,I 0 E1/\(∀i d E,xs[i]?=some d->I i E->∃E2,cX tg d E=some E2/\b { D with nx:=I (i+1) } E2)/\∀E,I xs.length E->D.nx E) jX
def qC (c:DT)(b:DS):DS:=λD E=>∃W:Nat->En->Prop,(∃m,W m E)/\∀m E,W m E->c D.xc E λE1 t=>if t=true then b { D with nx:=λE'=>∃m',m'<m/\W m' E' } E1 else D.nx E1
def items:PyData->Option (A00)
 |.list ds=>some ds
 |.tuple ds=>some ds
 |_=>none
def oE (e:DE):DI:=λx E Q=>e x E λE' k v=>k.fz=true/\∃ds,items v=some ds/\Q E' ds
def jG (ds:A00):A00:=ds.zipIdx.map λp=>.tuple [.int p.2,p.1]
def SO (e:DE):DI:=λx E Q=>e x E λE' k v=>k.fz=true/\∃ds,v=.list ds/\Q E' (jG ds)
def bM:A07->En->Option En
 |[],E=>some E
 |i::r,E=>if bI E i then bM r (E.set i none)else none
abbrev DC:=XC->A00->En->(A00->En->Prop)->Prop
def fT:DT:=λ_ E Q=>(λ_:Nat=>Q E true) jX
def cC (most:Nat)(e:DE):DC:=λx ys E Q=>e x E λE1 k v=>k.fz=true/\ys.length<most/\Q (ys++[v]) E1
noncomputable def SN (it:DI)(tg:Tg)(c:DT)(r:DC):DC:=λx ys E Q=>(λ_:Nat=>it x E λE1 xs=>∃I:Nat->A00->En->Prop,I 0 ys E1/\(∀i d ys E,xs[i]?=some d->I i ys E->∃E2,cX tg d E=some E2/\c x E2 λE3 b=>if b=true then r x ys E3 (I (i+1))else I (i+1) ys E3)/\∀ys E,I xs.length ys E->Q ys E) jX
noncomputable def cB (cs:A07)(it:DI)(tg:Tg)(c:DT)(r:DC):DE:=λx E Q=>(λ_:Nat=>it x E λE1 xs=>∃(E0:En)(I:Nat->A00->En->Prop),bM cs E1=some E0/\I 0 [] E0/\(∀i d ys E,xs[i]?=some d->I i ys E->∃E2,cX tg d E=some E2/\c xF E2 λE3 b=>if b=true then r xF ys E3 (I (i+1))else I (i+1) ys E3)/\∀ys E,I xs.length ys E->∃E2,bM cs E=some E2/\Q E2 (.ow false) (.list ys)) jX
noncomputable def qv (most:Nat)(cs:A07)(it:DI)(tg:Tg)(c:DT)(e:DE):DE:=λx E Q=>(λ_:Nat=>it x E λE1 xs=>∃(E0:En)(I:Nat->A00->En->Prop),bM cs E1=some E0/\I 0 [] E0/\(∀i d ys E,xs[i]?=some d->I i ys E->∃E2,cX tg d E=some E2/\c xF E2 λE3 b=>if b=true then e xF E3 (λE4 k v=>(∃p,k=.ow p)/\ys.length<most/\I (i+1) (ys++[v]) E4)else I (i+1) ys E3)/\∀ys E,I xs.length ys E->∃E2,bM cs E=some E2/\Q E2 (.dp false) (.list ys)) jX
def kq (lo:Int) (n:Nat):A00:=(List.range n).map λi:Nat=>PyData.int (lo+i)
def ay {α:Type}(o:Option α)(Q:α->Prop):Prop:=match o with
 |some a=>Q a
 |none=>False
def dg {α:Sort u}(b:Bool)(x y:α):α:=match b with
 |true=>x
 |false=>y
def bu:Option (Kd×PyData)->Bool
 |some (k,_)=>!k.pin
 |none=>true
def jd (E:En) (i:Nat):Bool:=match E[i]? with
 |some o=>bu o
 |none=>false
def bK (b:Bool)(P:Prop):Prop:=match b with
 |true=>P
 |false=>False
noncomputable def gH:List Arg->XC->En->(En->List (Option PyData)->Prop)->Prop
 |[],_,E,Q=>Q E []
 |.pk i::r,x,E,Q=>bK (here E i) (gH r x E λE' os=>Q E' (none::os))
 |.ev d::r,x,E,Q=>d x E λE1 k v=>bK k.fz (gH r x E1 λE' os=>Q E' (some v::os))
def sI (E:En) (i:Nat):Option En:=match E[i]? with
 |some (some (k,d))=>dg k.fz (some (E.set i (some (.sh,d)))) none
 |_=>none
def ic:A07->En->Option En
 |[],E=>some E
 |i::r,E=>(sI E i).bind (ic r)
noncomputable def cg:List Arg->En->List (Option PyData)->Option (A00)
 |[],_,[]=>some []
 |.pk i::r,E,none::os=>match E[i]? with
  |some (some (k,d))=>dg k.rd ((cg r E os).map (d::·)) none
  |_=>none
 |.ev _::r,E,some v::os=>(cg r E os).map (v::·)
 |_,_,_=>none
def tU (as:List Arg)(E:En)(k:Kd)(v:PyData):Option En:=dg ((cL as).all (gm E)||flat k v) (some E) (ic (cL as) E)
def Eh (E:En) (i:Nat)(Q:En->Kd->PyData->Prop):Prop:=match E[i]? with
 |some (some (_,d))=>ay (sI E i) λE'=>Q E' .sh d
 |_=>False
def zQ (r:DR)(as:List Arg)(E:En)(os:List (Option PyData))(Q:En->Kd->PyData->Prop):Prop:=ay (cg as E os) λds=>r ds λk v=>ay (tU as E k v) λE2=>Q E2 k v
def mF (i:Nat):A07->Bool
 |[]=>false
 |j::r=>i==j||mF i r
def qk:A07->A07->En->Bool
 |[],_,_=>true
 |i::r,ks,E=>(!mF i ks&&!mF i r&&jA E i)&&qk r ks E
def t8 (ms:A04)(as:List Arg)(E:En):Bool:=shape ms as&&qk (lent ms as) (kept ms as) E
noncomputable def kj:A04->List Arg->A00->En->Option En
 |[],[],[],E=>some E
 |false::ms,_::r,us,E=>kj ms r us E
 |true::ms,.pk i::r,u::us,E=>match E[i]? with
  |some (some (.ow p,.list _))=>dg (Bx u) (kj ms r us (E.set i (some (.ow p,u)))) none
  |_=>none
 |_,_,_,_=>none
def vd (ms:A04)(as:List Arg)(us:A00)(E:En)(k:Kd)(v:PyData):Option En:=dg ((kept ms as).all (gm E)||(flat k v&&us.all (flat (.ow false)))) (some E) (ic (kept ms as) E)
def EH (ms:A04)(as:List Arg)(E:En)(us:A00)(k:Kd)(v:PyData)(Q:En->Kd->PyData->Prop):Prop:=ay (kj ms as us E) λE2=>ay (vd ms as us E2 k v) λE3=>Q E3 k v
def FW (sp:bz)(ms:A04)(as:List Arg)(x:XC)(E:En)(os:List (Option PyData))(Q:En->Kd->PyData->Prop):Prop:=ay (cg as E os) λds=>bK (t8 ms as E) (sp ds (λus k v=>EH ms as E us k v Q) x)
def t7 (v:PyData)(Q:Bool->Prop):Prop:=ay (lB v) Q
def Ht (E:En) (i:Nat)(Q:En->Bool->Prop):Prop:=match E[i]? with
 |some (some (k,d))=>bK k.rd (t7 d (Q E))
 |_=>False
def AB (v:PyData)(Q:Bool->Prop):Prop:=match v with
 |.bool b=>Q b
 |_=>False
def rP (v:PyData)(Q:Int->Prop):Prop:=match v with
 |.int i=>Q i
 |_=>False
def JN (v:PyData)(Q:A00->Prop):Prop:=ay (items v) Q
def wH (v:PyData)(Q:A00->Prop):Prop:=match v with
 |.list xs=>Q xs
 |_=>False
def G3 (E:En) (i:Nat)(Q:En->Kd->PyData->Prop):Prop:=match E[i]? with
 |some (some (k,d))=>bK (!k.pin) (Q (E.set i none) k d)
 |_=>False
noncomputable def Gb (f:DM) (i:Nat)(as:List Arg)(E:En)(os:List (Option PyData))(Q:En->Kd->PyData->Prop):Prop:=ay (cg as E os) λargs=>match E[i]? with
 |some (some (.ow p,.list ds))=>f ds args λnew v=>Q (E.set i (some (.ow p,.list new))) .sh v
 |_=>False
def Qa (f:Int->Int->Int)(E:En) (i:Nat)(v:PyData)(Q:En->Prop):Prop:=match E[i]? with
 |some (some (_,.int a))=>rP v λb=>Q (E.set i (some (.sh,.int (f a b))))
 |_=>False
def stK:A07->A00->En->Option En
 |[],[],E=>some E
 |i::is,d::ds,E=>dg (jd E i) (stK is ds (E.set i (some (.sh,d)))) none
 |_,_,_=>none
def JS (is:A07)(v:PyData)(E:En)(Q:En->Prop):Prop:=match v with
 |.tuple ds=>ay (stK is ds E) Q
 |_=>False
def yE (n:Nat) (i:Int):Option Nat:=match i with
 |.ofNat k=>dg (Nat.blt k n) (some k) none
 |.negSucc k=>lM n (.negSucc k)
def br (i:Nat):DE:=λ_ E Q=>Eh E i Q
def aa (r:DR)(as:List Arg):DE:=λx E Q=>gH as x E λE1 os=>zQ r as E1 os Q
def aN (sp:bz)(ms:A04)(as:List Arg):DE:=λx E Q=>gH as x E λE1 os=>FW sp ms as x E1 os Q
def bD (d:DE):DT:=λx E Q=>d x E λE' _ v=>t7 v (Q E')
def JT (i:Nat):DT:=λ_ E Q=>Ht E i Q
def jl (a b:DE):DE:=λx E Q=>a x E λE1 _ v=>AB v λc=>dg c (b x E1 Q) (Q E1 .sh (.bool false))
def mw (a b:DE):DE:=λx E Q=>a x E λE1 _ v=>AB v λc=>dg c (Q E1 .sh (.bool true)) (b x E1 Q)
def lz (a:DE):DE:=λx E Q=>a x E λE1 _ v=>t7 v λc=>Q E1 .sh (.bool !c)
def qc (f f':Zu)(a b c:DE):DE:=λx E Q=>a x E λE1 _ u=>rP u λi=>b x E1 λE2 _ v=>rP v λj=>dg (f i j) (c x E2 λE3 _ w=>rP w λk=>Q E3 .sh (.bool (f' j k))) (Q E2 .sh (.bool false))
def xu (c:DT)(a b:DE):DE:=λx E Q=>c x E λE1 t=>dg t (a x E1 Q) (b x E1 Q)
def b8 (c:DT)(a b:DS):DS:=λD E=>c D.xc E λE1 t=>dg t (a D E1) (b D E1)
def aF (i:Nat)(e:DE):DS:=λD E=>e D.xc E λE' k v=>bK (jd E' i) (D.nx (E'.set i (some (k,v))))
def tL (is:A07)(e:DE):DS:=λD E=>e D.xc E λE' k v=>bK k.fz (JS is v E' D.nx)
def fW (i:Nat):DS:=λD E=>G3 E i D.rt
def iR (f:DM) (i:Nat)(es:List DE):DE:=λx E Q=>bK (jA E i) (gH (es.map .ev) x E λE1 os=>Gb f i (es.map .ev) E1 os Q)
def gS (i:Nat)(j:DE)(e:DE):DS:=λD E=>e D.xc E λE1 k v=>bK k.fz (bK (here E1 i) (j D.xc E1 λE2 k2 w=>bK k2.fz (setI E2 i w v D.nx)))
where setI (E:En) (i:Nat)(w v:PyData)(Q:En->Prop):Prop:=match E[i]?,w with
 |some (some (.ow p,.list ds)),.int a=>ay (yE ds.length a) λn=>Q (E.set i (some (.ow p,.list (ds.set n v))))
 |some (some (.dk p,.dict kvs)),w=>(mj w=true/\kvs.length<16777216)/\Q (E.set i (some (.dk p,.dict (putD kvs w v))))
 |some (some (.dt p,.dict (_::kvs))),.tuple ks=>(ks.all mj=true/\kvs.length<16777216)/\Q (E.set i (some (.dt p,.dict ((.none,.none)::putD kvs (.tuple ks) v))))
 |_,_=>False
def TQ (f:Int->Int->Int) (i:Nat)(e:DE):DS:=λD E=>bK (here E i) (e D.xc E λE1 _ v=>Qa f E1 i v D.nx)
def iE (e:DE):DI:=λx E Q=>e x E λE' k v=>bK k.fz (JN v λds=>Q E' ds)
def iX (g:A00->Option (A00))(as:List Arg):DI:=λx E Q=>gH as x E λE1 os=>ay (cg as E1 os) λds=>ay (g ds) λxs=>Q E1 xs
def uP (e:DE):DI:=λx E Q=>e x E λE' k v=>bK k.fz (wH v λds=>Q E' (jG ds))
def Gm (a b:DE):DI:=λx E Q=>a x E λE1 k v=>bK k.fz (b x E1 λE2 k2 v2=>bK k2.fz (wH v λds=>wH v2 λes=>Q E2 ((ds.zip es).map λp=>.tuple [p.1,p.2])))
def bq{α:Type}{o:Option α}{Q:α->Prop}:(∃a,o=some a/\Q a)=ay o Q:=by
 cases o with
 |none=>exact propext ⟨λ⟨a,e,_⟩=>(by cases e),λh=>h.elim⟩
 |some a=>exact propext ⟨λ⟨b,e,q⟩=>by cases e;exact q,λh=>⟨a,rfl,h⟩⟩
def cS{b:Bool}{P:Prop}:bK b P=(b=true/\P):=by
 cases b with
 |true=>exact propext ⟨λh=>⟨rfl,h⟩,λh=>h.2⟩
 |false=>exact propext ⟨λh=>h.elim,λh=>by cases h.1⟩
universe u
def bW{α:Sort u}{b:Bool}{x y:α}:dg b x y=if b=true then x else y:=by cases b<;>rfl
def AJ{E:En}{i:Nat}:sI E i=dI E i:=by unfold sI dI;split;{rw[bW]};rfl
theorem om:∀{is:A07}{E:En},ic is E=d8 is E
 |[],_=>rfl
 |i::r,E=>by rw[ic,d8,AJ];congr 1;funext E1;exact om
theorem dR:∀{as:List Arg}{E:En}{os:List (Option PyData)},cg as E os=fill as E os
 |[],_,[]=>rfl
 |[],_,_::_=>rfl
 |.pk i::r,E,none::os=>by rw[cg,fill,dR];split;{rw[bW]};rfl
 |.ev _::r,E,some v::os=>by rw[cg,fill,dR]
 |.pk _::_,_,[]=>rfl
 |.pk _::_,_,some _::_=>rfl
 |.ev _::_,_,[]=>rfl
 |.ev _::_,_,none::_=>rfl
def Bo{as:List Arg}{E:En}{k:Kd}{v:PyData}:tU as E k v=SH as E k v:=by unfold tU SH;rw[bW,om]
theorem vC{i:Nat}:∀{l:A07},mF i l=l.contains i
 |[]=>rfl
 |j::r=>by rw[mF,ZE,vC]
theorem Cb{ks:A07}{E:En}:∀{l:A07},qk l ks E=(decide l.Nodup&&l.all λi=>!ks.contains i&&jA E i)
 |[]=>rfl
 |i::r=>by
  rw[qk,Cb,vC,vC,VJ];have:decide (i::r).Nodup=(!r.contains i&&decide r.Nodup):=by rw[Wq];simp[Y5]
  rw[this];cases ks.contains i<;>cases r.contains i<;>cases jA E i<;>cases decide r.Nodup<;>rfl
def Iq{ms:A04}{as:List Arg}{E:En}:t8 ms as E=yj ms as E:=by unfold t8 yj;rw[Cb,Bool.and_assoc];rfl
theorem wA:∀{ms:A04}{as:List Arg}{us:A00}{E:En},kj ms as us E=tG ms as us E
 |[],[],[],E=>rfl
 |[],[],_::_,E=>rfl
 |[],_::_,_,E=>rfl
 |false::ms,_::r,us,E=>by rw[kj,tG,wA]
 |false::ms,[],us,E=>rfl
 |true::ms,[],us,E=>rfl
 |true::ms,.ev _::_,us,E=>rfl
 |true::ms,.pk i::r,[],E=>rfl
 |true::ms,.pk i::r,u::us,E=>by rw[kj,tG];split;{rw[bW,wA]};rfl
def Im{ms:A04}{as:List Arg}{us:A00}{E:En}{k:Kd}{v:PyData}:vd ms as us E k v=Nm ms as us E k v:=by unfold vd Nm;rw[bW,om]
def Dy{v:PyData}{Q:Bool->Prop}:(∃b,lB v=some b/\Q b)=t7 v Q:=bq
def JE{v:PyData}{Q:Bool->Prop}:(∃b,v=.bool b/\Q b)=AB v Q:=by
 cases v with
 |bool b=>exact propext ⟨λ⟨c,e,q⟩=>by cases e;exact q,λh=>⟨b,rfl,h⟩⟩
 |_=>exact propext ⟨λ⟨c,e,_⟩=>(by cases e),λh=>h.elim⟩
def Q3{v:PyData}{Q:Int->Prop}:(∃b,v=.int b/\Q b)=rP v Q:=by
 cases v with
 |int b=>exact propext ⟨λ⟨c,e,q⟩=>by cases e;exact q,λh=>⟨b,rfl,h⟩⟩
 |_=>exact propext ⟨λ⟨c,e,_⟩=>(by cases e),λh=>h.elim⟩
def Co{v:PyData}{Q:A00->Prop}:(∃b,v=.list b/\Q b)=wH v Q:=by
 cases v with
 |list b=>exact propext ⟨λ⟨c,e,q⟩=>by cases e;exact q,λh=>⟨b,rfl,h⟩⟩
 |_=>exact propext ⟨λ⟨c,e,_⟩=>(by cases e),λh=>h.elim⟩
def rK{E:En}{i:Nat}:jd E i=bI E i:=by unfold bI jd bu;generalize E[i]?=z;rcases z with _|_|⟨k,d⟩<;>rfl
theorem FZ:∀{is:A07}{ds:A00}{E:En},stK is ds E=bL is ds E
 |[],[],E=>rfl
 |[],_::_,E=>rfl
 |_::_,[],E=>rfl
 |i::is,d::ds,E=>by rw[stK,bL,bW,FZ,rK]
def yy{n:Nat}{i:Int}:yE n i=lM n i:=by
 cases i with
 |ofNat k=>unfold yE lM;show dg (Nat.blt k n) (some k) none=_;rw[if_pos (show(0:Int)<=Int.ofNat k from Yh k),bW];have:(Nat.blt k n=true)=((Int.ofNat k)<(n:Int)):=propext ⟨λh=>Y6.mpr (Nat.blt_eq.mp h),λh=>Nat.blt_eq.mpr (Y6.mp h)⟩;simp only[this];rfl
 |negSucc k=>rfl
def Lj{d:DE}:bD d=OI d:=by funext x E Q;unfold bD OI;simp only[Dy]
def A9{a b:DE}:jl a b=Ou a b:=by funext x E Q;unfold jl Ou;simp only[JE,bW]
def FO{a b:DE}:mw a b=SW a b:=by funext x E Q;unfold mw SW;simp only[JE,bW]
def Bu{a:DE}:lz a=Nc a:=by funext x E Q;unfold lz Nc;simp only[Dy]
def GV{f f':Zu}{a b c:DE}:qc f f' a b c=GN f f' a b c:=by funext x E Q;unfold qc GN;simp only[Q3,bW]
def NH{c:DT}{a b:DE}:xu c a b=SA c a b:=by funext x E Q;unfold xu SA;simp only[bW]
def Mz{c:DT}{a b:DS}:b8 c a b=Px c a b:=by funext D E;unfold b8 Px;simp only[bW]
def vS{i:Nat}{e:DE}:aF i e=OM i e:=by funext D E;unfold aF OM;simp only[cS,rK]
def Rb{e:DE}:iE e=oE e:=by funext x E Q;unfold iE oE;simp only[cS,bq];rfl
def Qc{e:DE}:uP e=SO e:=by funext x E Q;unfold uP SO;simp only[cS,Co]
end Dv
namespace L2
open PySem PySem.Spec PyProof.Rows
abbrev Key:=Sum Int Str
def q9:Key->Value->Bool
 |.inl k,v=>Value.isInt k v
 |.inr x,v=>Value.isStrOf x v
def Uh (w:World):Key->Int
 |.inl k=>hashInt k
 |.inr x=>hashStr w x
def cZ:∀{k:Key}{v:Value},q9 k v=true->(∃i t,k=Sum.inl i/\v=Value.int i t)\/(∃x t,k=Sum.inr x/\v=Value.str x t)
 |.inl i,v,h=>by obtain⟨t,e⟩:=Value.isInt_shape (k:=i) (v:=v) h;exact .inl ⟨i,t,rfl,e⟩
 |.inr x,v,h=>by obtain⟨t,e⟩:=Value.isStrOf_shape (x:=x) (v:=v) h;exact .inr ⟨x,t,rfl,e⟩
def Ew(i:Int)(t:Tok):q9 (.inl i) (.int i t)=true:=by simp[q9,Value.isInt]
def GA(x:Str)(t:Tok):q9 (.inr x) (.str x t)=true:=by simp[q9,Value.isStrOf]
def M6(a b:Int):decide ((Sum.inl a:Key)=Sum.inl b)=(a==b):=by by_cases e:a=b;{subst e;simp};have h:¬(Sum.inl a:Key)=Sum.inl b:=λq=>e (Sum.inl.inj q);rw[Vy h];exact(beq_eq_false_iff_ne.mpr e).symm
def Qx(a b:Str):decide ((Sum.inr a:Key)=Sum.inr b)=decide (a=b):=by by_cases e:a=b;{subst e;simp};have h:¬(Sum.inr a:Key)=Sum.inr b:=λq=>e (Sum.inr.inj q);rw[Vy h,Vy e]
def Oe(a:Int) (b:Str):decide ((Sum.inl a:Key)=Sum.inr b)=false:=Vy (λq=>nomatch q)
def Nj(a:Str) (b:Int):decide ((Sum.inr a:Key)=Sum.inl b)=false:=Vy (λq=>nomatch q)
noncomputable def dB (prog:Program)(w:World):PySem.KeyKind prog w Key where
 is:=q9
 hash:=Uh w
 inj:=λv a b ha hb=>by
  rcases cZ ha with⟨i,t,rfl,rfl⟩|⟨x,t,rfl,rfl⟩
  .rcases cZ hb with⟨j,u,rfl,e⟩|⟨y,u,rfl,e⟩
   .injection e with e1 _;rw[e1]
   .exact nomatch e
  .rcases cZ hb with⟨j,u,rfl,e⟩|⟨y,u,rfl,e⟩
   .exact nomatch e
   .injection e with e1 _;rw[e1]
 byValue:=λk v h=>by
  rcases cZ h with⟨i,t,rfl,rfl⟩|⟨x,t,rfl,rfl⟩<;>rfl
 pyHash:=λhv h=>by
  rcases cZ hv with⟨i,t,rfl,rfl⟩|⟨x,t,rfl,rfl⟩
  .exact wpAny_pyHash_int h
  .exact wpAny_pyHash_str h
 eqBool:=λhu hv h=>by
  rcases cZ hu with⟨i,t,rfl,rfl⟩|⟨x,t,rfl,rfl⟩
  .rcases cZ hv with⟨j,u,rfl,rfl⟩|⟨y,u,rfl,rfl⟩
   .rw[M6]at h;exact wpAny_eqBool_int h
   .rw[Oe]at h;exact SeqAt.EqAt.int_str i t y u _ _ _ _ h
  .rcases cZ hv with⟨j,u,rfl,rfl⟩|⟨y,u,rfl,rfl⟩
   .rw[Nj]at h;exact SeqAt.EqAt.str_int x t j u _ _ _ _ h
   .rw[Qx]at h;exact wpAny_eqBool_str h
 «strs»:=λk x t v h=>by
  rcases cZ h with⟨i,u,rfl,e⟩|⟨y,u,rfl,e⟩
  .exact nomatch e
  .injection e with e1 _
   subst e1;cases v<;>rfl
def Al(prog:Program)(w:World) (i:Int)(t:Tok):(dB prog w).is (.inl i) (.int i t)=true:=Ew i t
def Av(prog:Program)(w:World) (x:Str)(t:Tok):(dB prog w).is (.inr x) (.str x t)=true:=GA x t
set_option genInjectivity true in
inductive V where
 |aU|bl (b:Bool)|int (i:Int)|str (x:Str)|m8 (b:Array UInt8)|AF (b:UInt64)|ref (a:Addr)|ty (n:String)
 deriving DecidableEq
noncomputable def RelV:V->Value->Prop
 |.aU,u=>u=Value.none
 |.bl b,u=>u=Value.bool b
 |.int i,u=>∃t,u=Value.int i t
 |.str x,u=>∃t,u=Value.str x t
 |.m8 b,u=>∃t,u=Value.bytes b t
 |.AF b,u=>∃t,u=Value.float b t
 |.ref a,u=>u=Value.ref a
 |.ty n,u=>u=Value.type n
abbrev Vals:List V->A02->Prop:=Paired RelV
theorem Vals.length{xs:List V}{us:A02}(r:Vals xs us):xs.length=us.length:=Paired.length r
theorem Vals.get:∀{xs:List V}{us:A02}{i:Nat}{x:V},Vals xs us->xs[i]?=some x->∃u,us[i]?=some u/\RelV x u
 |_,_,_,_,.nil,e=>by simp at e
 |_,_,0,_,.cons r _,e=>by simp at e;subst e;exact⟨_,rfl,r⟩
 |_,_,i+1,x,.cons _ t,e=>by obtain⟨u,h1,h2⟩:=Vals.get (i:=i) (x:=x) t (by simpa using e);exact⟨u,by simpa using h1,h2⟩
theorem Vals.set{x:V}{u:Value}(r:RelV x u):∀{xs:List V}{us:A02} (i:Nat),Vals xs us->Vals (xs.set i x) (us.set i u)
 |_,_,_,.nil=>.nil
 |_,_,0,.cons _ t=>.cons r t
 |_,_,i+1,.cons q t=>.cons q (Vals.set r i t)
theorem Vals.append:∀{xs ys:List V}{us ws:A02},Vals xs us->Vals ys ws->Vals (xs++ys) (us++ws)
 |_,_,_,_,.nil,s=>s
 |_,_,_,_,.cons r t,s=>.cons r (Vals.append t s)
theorem Vals.take:∀{xs:List V}{us:A02} (n:Nat),Vals xs us->Vals (xs.take n) (us.take n)
 |_,_,0,_=>.nil
 |_,_,_+1,.nil=>.nil
 |_,_,n+1,.cons r t=>.cons r (Vals.take n t)
theorem Vals.drop:∀{xs:List V}{us:A02} (n:Nat),Vals xs us->Vals (xs.drop n) (us.drop n)
 |_,_,0,r=>r
 |_,_,_+1,.nil=>.nil
 |_,_,n+1,.cons _ t=>Vals.drop n t
def jq:Option V->Zy->Prop
 |some v,some u=>RelV v u
 |none,none=>True
 |_,_=>False
def KV {κ:Type}:List (κ×V)->List (κ×Value)->Prop:=Paired λ(p:κ×V)(q:κ×Value)=>p.1=q.1/\RelV p.2 q.2
def kV:Key->V
 |.inl i=>.int i
 |.inr x=>.str x
inductive HO where
 |lst (xs:List V)
 |tup (xs:List V)
 |dK (kvs:List (Key×V))|dT (kvs:List (List Key×V))
 |set (S:Int->Bool) (n:Nat)
 |ins (C dx:Addr)(fs:List (Str×V))
 |own (x:Addr)
 |xd (fs:List (Str×V))
 |met (f x:Addr)
 |sf (lo hi:Int)
 |dX (o:Obj)(u:HO)
 |wW (ps:Zz)
 |ext (φ:Heap->Prop)
abbrev Hp:=Addr->Option HO
def upd (H:Hp)(a:Addr)(o:HO):Hp:=λb=>if b=a then some o else H b
def aq{H:Hp}{a:Addr}{o:HO}:upd H a o a=some o:=by unfold upd;rw[if_pos rfl]
def aj{H:Hp}{a b:Addr}{o:HO}(h:b≠a):upd H a o b=H b:=by unfold upd;rw[if_neg h]
def JU{H:Hp}{a b:Addr}{o u:HO}(h:H a=some o)(h':H b=some u)(d:o≠u):a≠b:=by intro e;subst e;rw[h]at h';exact d (Option.some.inj h')
def gD{H:Hp}{a b:Addr}{o:HO}(h:H a=some o)(h':H b=none):a≠b:=by intro e;subst e;rw[h]at h';cases h'
section
variable(P:Program)(w:World)
noncomputable def bE (H:Hp)(h:Heap)(a:Addr):HO->Prop
 |.lst xs=>xs.length<=sizeLine/\∃(its:A02) (n:Nat),Vals xs its/\h.get? a=some { cls:=.type "list",data:=.seq its.toArray n }
 |.tup xs=>xs.length<=sizeLine/\∃its:A02,Vals xs its/\IsTup h a its.toArray
 |.dK kvs=>kvs.length<=sizeLine/\(a==sysModules)=false/\∃vs,KV kvs vs/\h.DictOf (dB P w) a vs
 |.dT kvs=>kvs.length<=sizeLine/\(a==sysModules)=false/\∃xs:List (List Key×Addr×Value),
   Paired (λ(p:List Key×V)(q:List Key×Addr×Value)=>p.1=q.1/\H q.2.1=some (.tup (p.1.map kV))/\RelV p.2 q.2.2) kvs xs /\
   ∃o es ep,h.get? a=some o/\o.ExactDict/\o.data=.dict es ep/\es.toList=xs.map (entryOfKey (tupleKind (dB P w)))/\(xs.map (·.1)).Nodup
 |.set S n=>h.SetOf (intKind P w) a S n
 |.ins C dx fs=>H dx=some (.own a)/\fs.length<=1000/\dx≠a/\h.get? a=some (PySem.W.instObj C dx) /\
   ∃mA,h.Ns1 dx mA/\(∀f,jq (fs.lookup f) (mA f))/\PySem.Within mA (fs.map (·.1))
 |.own _=>∃o,h.get? a=some o
 |.xd fs=>∃mA,h.Ns1 a mA/\∀f,jq (fs.lookup f) (mA f)
 |.sf lo hi=>∃t u v,h.get? a=some { cls:=.type "range",data:=.fields #[.int lo t,.int hi u,.int 1 v] }
 |.dX o u=>h.get? a=some o/\bE H h a u
 |.wW ps=>h.get? a=some { cls:=.none,data:=.fields ps }
 |.met f x=>h.get? a=some (PySem.W.methodObj (.ref f) (.ref x))
 |.ext φ=>φ h/\(∃o,h.get? a=some o)/\∀h1 h2:Heap,φ h1->(∀o,h1.get? a=some o->h2.get? a=some o)->φ h2
def dH (H:Hp)(h:Heap):Prop:=∀a o,H a=some o->bE P w H h a o
end
section
variable{P:Program}{w:World}{H H':Hp}{h h':Heap}{a:Addr}{o:HO}
theorem bE.lt(x:bE P w H h a o):a<h.objs.size:=by
 cases o with
 |lst xs=>obtain⟨_,_,_,_,e⟩:=x;exact VC e
 |tup xs=>obtain⟨_,_,_,p⟩:=x;exact p.lt
 |dK kvs=>obtain⟨_,_,_,_,o,_,_,e,_⟩:=x;exact VC e
 |dT kvs=>obtain⟨_,_,_,_,o,_,_,e,_⟩:=x;exact VC e
 |set S n=>obtain⟨o,_,_,_,e,_⟩:=x;exact VC e
 |ins C dx fs=>obtain⟨_,_,_,e,_⟩:=x;exact VC e
 |own y=>obtain⟨_,e⟩:=x;exact VC e
 |xd fs=>obtain⟨_,⟨_,_,_,e,_⟩,_⟩:=x;exact VC e
 |sf lo hi=>obtain⟨_,_,_,e⟩:=x;exact VC e
 |dX ob u=>obtain⟨e,_⟩:=x;exact VC e
 |wW ps=>exact VC (show h.get? a=some _ from x)
 |met f y=>exact VC (show h.get? a=some _ from x)
 |ext φ=>obtain⟨_,⟨_,e⟩,_⟩:=x;exact VC e
theorem Paired.Ii{α β:Type}{F G:α->β->Prop}:∀{l₁:List α}{l₂:List β},Paired F l₁ l₂->(∀a b,F a b->G a b)->Paired G l₁ l₂
 |_,_,.nil,_=>.nil
 |_,_,.cons r t,f=>.cons (f _ _ r) (Paired.Ii t f)
def bE.stay(x:bE P w H h a o)(k:∀b u,(b=a\/H b=some (.own a))->h.get? b=some u->h'.get? b=some u)(ho:∀b,H b=some (.own a)->H' b=some (.own a))(ht:∀b xs,H b=some (.tup xs)->H' b=some (.tup xs)):bE P w H' h' a o:=by
 induction o with
 |lst xs=>obtain⟨z,its,n,r,e⟩:=x;exact⟨z,its,n,r,k _ _ (.inl rfl) e⟩
 |tup xs=>obtain⟨z,its,r,ob,e,c⟩:=x;exact⟨z,its,r,ob,k _ _ (.inl rfl) e,c⟩
 |dK kvs=>obtain⟨z,y,vs,r,ob,es,ep,e,c⟩:=x;exact⟨z,y,vs,r,ob,es,ep,k _ _ (.inl rfl) e,c⟩
 |dT kvs=>obtain⟨z,y,xs,r,ob,es,ep,e,c⟩:=x;exact⟨z,y,xs,Paired.Ii r λp q z=>⟨z.1,ht _ _ z.2.1,z.2.2⟩,ob,es,ep,k _ _ (.inl rfl) e,c⟩
 |set S n=>obtain⟨ob,es,ep,t,e,c⟩:=x;exact⟨ob,es,ep,t,k _ _ (.inl rfl) e,c⟩
 |ins C dx fs=>obtain⟨d,z,ne,e,mA,⟨od,es,ep,e2,c⟩,r⟩:=x;exact⟨ho _ d,z,ne,k _ _ (.inl rfl) e,mA,⟨od,es,ep,k _ _ (.inr d) e2,c⟩,r⟩
 |own y=>obtain⟨ob,e⟩:=x;exact⟨ob,k _ _ (.inl rfl) e⟩
 |xd fs=>obtain⟨mA,⟨od,es,ep,e,c⟩,r⟩:=x;exact⟨mA,⟨od,es,ep,k _ _ (.inl rfl) e,c⟩,r⟩
 |sf lo hi=>obtain⟨t,u,v,e⟩:=x;exact⟨t,u,v,k _ _ (.inl rfl) e⟩
 |dX ob u ih=>obtain⟨e,q⟩:=x;exact⟨k _ _ (.inl rfl) e,ih q⟩
 |wW ps=>have e:h.get? a=some { cls:=.none,data:=.fields ps }:=x;show h'.get? a=some { cls:=.none,data:=.fields ps };exact k a _ (.inl rfl) e
 |met f y=>have e:h.get? a=some (PySem.W.methodObj (.ref f) (.ref y)):=x;show h'.get? a=some (PySem.W.methodObj (.ref f) (.ref y));exact k a _ (.inl rfl) e
 |ext φ=>obtain⟨p,⟨o,e⟩,st⟩:=x;exact⟨st _ _ p λo q=>k _ _ (.inl rfl) q,⟨o,k _ _ (.inl rfl) e⟩,st⟩
theorem dH.lt(x:dH P w H h)(e:H a=some o):a<h.objs.size:=(x a o e).lt
def dH.fresh(x:dH P w H h)(e:h.objs.size<=a):H a=none:=by
 cases q:H a with
 |none=>rfl
 |some u=>exact absurd (Vv (x.lt q) e) (WB _)
def dH.kept(x:dH P w H h)(k:∀b u,h.get? b=some u->h'.get? b=some u):dH P w H h':=λa o e=>
 (x a o e).stay (λb u _ q=>k b u q) (λ_ q=>q) λ_ _ q=>q
def dH.laid(x:dH P w H h)(k:∀b u,h.get? b=some u->h'.get? b=some u)(hp:h.objs.size<=a)(new:bE P w (upd H a o) h' a o):dH P w (upd H a o) h':=λb u e=>by have hn:=x.fresh hp;by_cases hb:b=a;{subst hb;rw[aq]at e;cases e;exact new};rw[aj hb]at e;exact(x b u e).stay (λc v _ q=>k c v q) (λc q=>by rw[aj (gD q hn)];exact q) λc xs q=>by rw[aj (gD q hn)];exact q
end
def Rd (H:Hp)(a:Addr)(u:HO):Prop:=H a=some u\/∃o,H a=some (.dX o u)
def Rd.ok{P:Program}{w:World}{H:Hp}{h:Heap}{a:Addr}{u:HO}(r:Rd H a u)(x:dH P w H h):bE P w H h a u:=by rcases r with r|⟨o,r⟩;{exact x a u r};obtain⟨_,q⟩:=x a _ r;exact q
def Ea:Option HO->Prop
 |some (.lst _)=>True
 |some (.dK _)=>True
 |some (.dT _)=>True
 |some (.set _ _)=>True
 |some (.ins _ _ _)=>True
 |some (.ext _)=>True
 |_=>False
section
variable{P:Program}{w:World}{H:Hp}{h h':Heap}{x e:Addr}{o':HO}
def dH.write(ok:dH P w H h)(mu:Ea (H x))(he:e=x\/H e=some (.own x))(k:∀b u,b≠e->h.get? b=some u->h'.get? b=some u)(heo:∃u,h'.get? e=some u)(new:bE P w (upd H x o') h' x o'):dH P w (upd H x o') h':=λb u q=>by
 have nown:∀c y,H c=some (.own y)->c≠x:=λc y r z=>by subst z;rw[r]at mu;exact mu
 have ntup:∀c xs,H c=some (.tup xs)->c≠x:=λc xs r z=>by subst z;rw[r]at mu;exact mu
 by_cases hb:b=x;{subst hb;rw[aq]at q;cases q;exact new};rw[aj hb]at q;by_cases hbe:b=e
 .have q':H b=some (.own x):=by rcases he with z|z;{exact absurd (hbe.trans z) hb};rw[hbe];exact z
  rw[q]at q';cases q';obtain⟨v,hv⟩:=heo;exact⟨v,by rw[hbe];exact hv⟩
 refine(ok b u q).stay (λc v hc r=>k c v ?_ r) (λc r=>by rw[aj (nown c b r)];exact r) λc xs r=>by rw[aj (ntup c xs r)];exact r
 rcases hc with rfl|hc;{exact hbe};rintro rfl;rcases he with z|z;{exact nown c b hc z};rw[hc]at z;cases z;exact hb rfl
end
structure Un(fs ex:A03)(H H':Hp)(h h':Heap):Prop where
 keep:∀b o,h.get? b=some o->H b=none->b∉fs->b∉ex->h'.get? b=some o
 slot:∀b o,h.get? b=some o->H b=none->b∈fs->b∉ex->∃sl,h'.get? b=some { o with slots:=sl }
 free:∀b o,h.get? b=some o->H b=none->b∉ex->H' b=none
 there:∀b o,h.get? b=some o->b∉ex->∃o',h'.get? b=some o'
 tups:∀b xs,H b=some (.tup xs)->H' b=some (.tup xs)
 ju:∀b o u,H b=some (.dX o u)->H' b=some (.dX o u)
 j4:∀b ps,H b=some (.wW ps)->∃more,H' b=some (.wW (ps++more))
section
variable{fs fs' ex ex':A03}{H H1 H2:Hp}{h h1 h2 h':Heap}{a x e:Addr}{o:HO}
def Un.any(u:Un fs ex H H1 h h1){b:Addr}{ob:Obj}(q:h.get? b=some ob)(n:H b=none)(hx:b∉ex):∃sl,h1.get? b=some { ob with slots:=sl }:=by by_cases hb:b∈fs;{exact u.slot b ob q n hb hx};exact⟨ob.slots,u.keep b ob q n hb hx⟩
def Un.kept(k:∀b u,h.get? b=some u->h'.get? b=some u):Un fs ex H H h h':=
 ⟨λb ob q _ _ _=>k b ob q,λb ob q _ _ _=>⟨ob.slots,k b ob q⟩,λ_ _ _ n _=>n,λb ob q _=>⟨ob,k b ob q⟩,λ_ _ q=>q,λ_ _ _ q=>q,λ_ ps q=>⟨#[],by rw[q];simp⟩⟩
def Un.refl:Un fs ex H H h h:=Un.kept λ_ _ q=>q
def Un.laid(k:∀b u,h.get? b=some u->h'.get? b=some u)(hp:h.objs.size<=a)(hn:H a=none):Un fs ex H (upd H a o) h h' where
 keep:=λb u q _ _ _=>k b u q
 slot:=λb u q _ _ _=>⟨u.slots,k b u q⟩
 free:=λb u q n _=>by rw[aj (VQ (Vv (VC q) hp))];exact n
 there:=λb u q _=>⟨u,k b u q⟩
 tups:=λb xs q=>by rw[aj (gD q hn)];exact q
 ju:=λb u xs q=>by rw[aj (gD q hn)];exact q
 j4:=λb ps q=>⟨#[],by rw[aj (gD q hn),q];simp⟩
def Un.write(mu:Ea (H x))(he:e=x\/H e=some (.own x))(k:∀b u,b≠e->h.get? b=some u->h'.get? b=some u)(heo:∃u,h'.get? e=some u):Un fs ex H (upd H x o) h h':=by
 have hx:∀b,H b=none->b≠x:=λb n z=>by subst z;rw[n]at mu;exact mu
 have hb:∀b,H b=none->b≠e:=λb n z=>by subst z;rcases he with r|r;{exact hx b n r};rw[n]at r;cases r
 have hm:∀b u,H b=some u->¬Ea (some u)->b≠x:=λb u q nm z=>by subst z;rw[q]at mu;exact nm mu
 refine⟨λb u q n _ _=>k b u (hb b n) q,λb u q n _ _=>⟨u.slots,k b u (hb b n) q⟩,λb u q n _=>by rw[aj (hx b n)];exact n,λb u q _=>?_,
  λb xs q=>by rw[aj (hm b _ q λz=>z)];exact q,λb u xs q=>by rw[aj (hm b _ q λz=>z)];exact q,λb ps q=>⟨#[],by rw[aj (hm b _ q λz=>z),q];simp⟩⟩
 by_cases hbe:b=e;{subst hbe;exact heo};exact⟨u,k b u hbe q⟩
end
def JV (h:Heap)(H:Hp):A03:=(List.range h.objs.size).filter λa=>(H a).isSome
def oS (h:Heap)(H:Hp):Heap:=PySem.W.hideAll h (JV h H)
def GZ(h:Heap)(H:Hp):(oS h H).objs.size=h.objs.size:=PySem.W.hideAll_size _ _
def IB{h:Heap}{H:Hp}{b:Addr}{o:Obj}(e:h.get? b=some o)(n:H b=none):(oS h H).get? b=some o:=
 PySem.W.hideAll_get _ e λhm=>by have q:(H b).isSome=true:=(Wf.mp hm).2;rw[n]at q;simp at q
def LJ{h:Heap}{H:Hp}{b:Addr}{o:Obj}(e:(oS h H).get? b=some o):h.get? b=some o/\H b=none:=by
 have e':h.get? b=some o:=PySem.W.of_hideAll (JV h H) e;refine⟨e',?_⟩;cases q:H b with
 |none=>rfl
 |some x=>have hm:b∈JV h H:=Wf.mpr ⟨VU.mpr (VC e'),by simp[q]⟩;have z:(oS h H).get? b=none:=PySem.W.hideAll_none (JV h H) hm;rw[z]at e;cases e
structure Mod(K:Zx)(mg:Zr)(base:Heap):Prop where
 ET:K.In base
 glob:base.Ns mainGlobals mg
 blt:∃mb,base.Ns builtinsNs mb/\∀x:Str,x≠"__name__"->mb x=bootBuiltins x
 nolimit:base.NoLimit
structure Cx where
 prog:Program
 w:World
 K:Zx
 mg:Zr
 base:Heap
 A:Around
 N:A09
 s₀:Shared
 H₀:Hp
 env:Env
 outer:List Env
 stack:List Env
 ex:A03
 fn:Str->Bool
 calm:Bool
 pn:Zs
 xe:Zp
def frs (l:List Env):A03:=l.filterMap (·.frame)
abbrev Cx.fs (X:Cx):A03:=frs X.outer
def gU (sc:Scope) (x:Str):Prop:=sc.names.lookup x=some .local\/sc.names.lookup x=some .cell\/sc.names.lookup x=some .free
def Loc (sc:Scope) (x:Str):Prop:=sc.names.lookup x=some .local\/sc.names.lookup x=some .cell
noncomputable def Look (env:Env)(h:Heap)(m:Zr) (x:Str)(u:Value):Prop:=
 (env.kindOf x=some .local/\m x=some u)\/((env.kindOf x=some .cell\/env.kindOf x=some .free)/\∃c,env.cells.lookup x=some c/\h.IsCell c (some u))
structure Cx.Ok(X:Cx):Prop where
 mod:Mod X.K X.mg X.base
 kind:X.env.scope.kind=.function
 glob:X.env.globals=mainGlobals
 blt:X.env.builtins=builtinsNs
 above:X.s₀.heap.objs.size<=X.env.locals
 inj:∀x y c,X.env.cells.lookup x=some c->X.env.cells.lookup y=some c->x=y
 has:∀x,(X.env.kindOf x=some .cell\/X.env.kindOf x=some .free)->∃c,X.env.cells.lookup x=some c
 yx:∀x c,X.fn x=true->X.env.cells.lookup x=some c->X.s₀.heap.objs.size<=c
 hd:X.calm=true->X.A.handled=none
 frames:X.A.frames=some X.stack
 stk:X.stack=X.outer\/(X.stack=X.env::X.outer/\X.env.frame=some X.env.locals)
 JB:∀b∈X.ex,b≠X.env.locals/\∀x c,X.env.cells.lookup x=some c->c≠b
 bs:∀b o,X.base.get? b=some o->X.s₀.heap.get? b=some o/\X.H₀ b=none
 uv:X.base.objs.size<=X.s₀.heap.objs.size
 sJ:∀b o,X.base.get? b=some o->b∉X.ex
 vQ:∀b∈X.ex,b∉X.fs
 jm:X.s₀.heap.FunFrames X.base X.outer
 wL:∀b∈X.fs,X.H₀ b=none
structure Inv(X:Cx)(pins:Zs)(U:List (Option V))(H:Hp)(s:Shared):Prop where
 ok:X.Ok
 os:s.os=X.s₀.os
 bare:AllBare s.gens
 base:Un X.fs X.ex X.H₀ H X.s₀.heap s.heap
 loc:∃m,s.heap.Ns X.env.locals m/\∀(i:Nat) (x:Str) (v:V),X.N[i]?=some x->U[i]?=some (some v)->gU X.env.scope x->∃u,RelV v u/\Look X.env s.heap m x u
 cell:∀x c,X.env.cells.lookup x=some c->∃v,s.heap.IsCell c v
 free:H X.env.locals=none
 eU:∀x c,X.env.cells.lookup x=some c->H c=none
 pin:∀p∈X.pn++pins,s.heap.get? p.1=some p.2/\H p.1=none/\p.1≠X.env.locals/\p.1∉X.fs/\∀v,p.2.data≠.cell v
 hok:dH X.prog X.w H s.heap
 len:U.length=X.N.length
section
variable{X:Cx}{pins:Zs}{U:List (Option V)}{H H':Hp}{s:Shared}{h':Heap}
def Cx.Ok.TU(ok:X.Ok){b:Addr}{o:Obj}(e:X.base.get? b=some o):b∉X.fs:=λhb=>by have:=(ok.jm.mem hb).1;rw[e]at this;cases this
theorem Inv.bs(I:Inv X pins U H s):∀b o,X.base.get? b=some o->s.heap.get? b=some o/\H b=none:=λb o e=>
 ⟨I.base.keep b o (I.ok.bs b o e).1 (I.ok.bs b o e).2 (I.ok.TU e) (I.ok.sJ b o e),I.base.free b o (I.ok.bs b o e).1 (I.ok.bs b o e).2 (I.ok.sJ b o e)⟩
def Inv.bk(I:Inv X pins U H s):∀b o,X.base.get? b=some o->s.heap.get? b=some o:=λb o e=>(I.bs b o e).1
theorem Inv.mod(I:Inv X pins U H s):Mod X.K X.mg X.base:=I.ok.mod
def Inv.dG(I:Inv X pins U H s):X.K.In s.heap:=I.ok.mod.ET.keeps I.bk
theorem Inv.lt(I:Inv X pins U H s):X.env.locals<s.heap.objs.size:=let⟨_,hn,_⟩:=I.loc;hn.lt
def Inv.sz(I:Inv X pins U H s):X.s₀.heap.objs.size<=s.heap.objs.size:=Vx I.ok.above (Y7 I.lt)
def Inv.Pf(I:Inv X pins U H s){a:Addr}(h:s.heap.objs.size<=a):a∉X.fs:=λhb=>by obtain⟨_,o,ho,_⟩:=I.ok.jm.mem hb;exact absurd (Vv (VC ho) (Vx I.sz h)) (WB _)
def Inv.uX(I:Inv X pins U H s):∀x c,X.env.cells.lookup x=some c->c≠X.env.locals:=λx c e z=>by obtain⟨v,o,ho,hd⟩:=I.cell x c e;obtain⟨m,⟨o',es,ep,ho',hd',_⟩,_⟩:=I.loc;rw[z,ho']at ho;cases ho;rw[hd']at hd;cases hd
theorem Inv.jm(I:Inv X pins U H s):s.heap.FunFrames X.base X.outer:=by
 have all:∀(l:List Env),(∀b∈frs l,b∈X.fs)->X.s₀.heap.FunFrames X.base l->s.heap.FunFrames X.base l:=by
  intro l;induction l with
  |nil=>intro _ _;trivial
  |cons env r ih=>intro hs hl;obtain⟨hk,⟨L,o,hf,hn,ho,hd⟩,hr⟩:=hl;have hL:L∈X.fs:=hs L (by unfold frs;rw[XR,hf];exact V3);obtain⟨sl,e⟩:=I.base.slot L o ho (I.ok.wL L hL) hL λz=>I.ok.vQ L z hL;exact⟨hk,⟨L,_,hf,hn,e,hd⟩,ih (λb hb=>hs b (by unfold frs;rw[XR,hf];exact VA _ hb)) hr⟩
 exact all X.outer (λ_ hb=>hb) I.ok.jm
theorem Inv.stack(I:Inv X pins U H s):s.heap.FunFrames X.base X.stack:=by rcases I.ok.stk with e|⟨e,hf⟩;{rw[e];exact I.jm};rw[e];obtain⟨m,hn,_⟩:=I.loc;refine .cons (by rw[I.ok.kind];decide) hf hn ?_ I.jm;exact ZF (Vx I.ok.uv I.ok.above)
def Inv.mW(I:Inv X pins U H s):∀b∈frs X.stack,b∈X.env.locals::X.fs:=λb hb=>by rcases I.ok.stk with e|⟨e,hf⟩;{rw[e]at hb;exact VA _ hb};rw[e]at hb;unfold frs at hb;rw[XR,hf]at hb;exact hb
def Inv.rA(I:Inv X pins U H s):∀b∈frs X.stack,H b=none:=λb hb=>by rcases VB.mp (I.mW b hb)with e|hb;{rw[e];exact I.free};obtain⟨_,o,ho,_⟩:=I.ok.jm.mem hb;exact I.base.free b o ho (I.ok.wL b hb) λz=>I.ok.vQ b z hb
def Inv.step{g':Array GenState}{t':Nat}{d':Drawn}{ch:A03}(I:Inv X pins U H s)(hch:∀b∈ch,(b∈X.ex\/X.s₀.heap.objs.size<=b)/\b≠X.env.locals/\(∀x c,X.env.cells.lookup x=some c->c≠b)/\∀p∈X.pn++pins,p.1≠b)(keep:∀b o,b≠X.env.locals->b∉X.fs->b∉ch->s.heap.get? b=some o->H b=none->h'.get? b=some o)(slot:∀b o,b≠X.env.locals->b∈X.fs->b∉ch->s.heap.get? b=some o->H b=none->∃sl,h'.get? b=some { o with slots:=sl })(free:∀b o,b∉ch->s.heap.get? b=some o->H b=none->H' b=none)(there:∀b o,b∉ch->s.heap.get? b=some o->∃o',h'.get? b=some o')(tups:∀b xs,H b=some (.tup xs)->H' b=some (.tup xs))(ju:∀b o u,H b=some (.dX o u)->H' b=some (.dX o u))(j4:∀b ps,H b=some (.wW ps)->∃more,H' b=some (.wW (ps++more)))(ns:∀m,s.heap.Ns X.env.locals m->h'.Ns X.env.locals m)(hok:dH X.prog X.w H' h')(hg:AllBare g') : Inv X pins U H' { s with heap:=h',gens:=g',drawn:=d',toks:=t' }:=by
 have neL:∀b o,X.s₀.heap.get? b=some o->b≠X.env.locals:=λb o e=>VQ (Vv (VC e) I.ok.above);have neC:∀b o,X.s₀.heap.get? b=some o->b∉X.ex->b∉ch:=λb o e hx hb=>by rcases(hch b hb).1 with z|z;{exact hx z};exact absurd (Vv (VC e) z) (WB _)
 have cellK:∀x c,X.env.cells.lookup x=some c->∀v,s.heap.IsCell c v->h'.IsCell c v:=λx c e v ⟨o,ho,hd⟩=>by have nch:c∉ch:=λz=>(hch c z).2.2.1 x c e rfl;by_cases hc:c∈X.fs;{obtain⟨sl,q⟩:=slot c o (I.uX x c e) hc nch ho (I.eU x c e);exact⟨_,q,hd⟩};exact⟨o,keep c o (I.uX x c e) hc nch ho (I.eU x c e),hd⟩
 refine⟨I.ok,I.os,hg,⟨λb o e n hb hx=>?_,λb o e n hb hx=>?_,λb o e n hx=>?_,λb o e hx=>?_,λb xs e=>tups b xs (I.base.tups b xs e),λb o xs e=>ju b o xs (I.base.ju b o xs e),λb ps e=>?_⟩,?_,λx c e=>?_,?_,λx c e=>?_,λp hp=>?_,hok,I.len⟩;{exact keep b o (neL b o e) hb (neC b o e hx) (I.base.keep b o e n hb hx) (I.base.free b o e n hx)};{obtain⟨sl,e1⟩:=I.base.slot b o e n hb hx;obtain⟨sl',e2⟩:=slot b _ (neL b o e) hb (neC b o e hx) e1 (I.base.free b o e n hx);exact⟨sl',e2⟩};{obtain⟨o',e1⟩:=I.base.there b o e hx;exact free b o' (neC b o e hx) e1 (I.base.free b o e n hx)};{obtain⟨o',e1⟩:=I.base.there b o e hx;exact there b o' (neC b o e hx) e1};{obtain⟨m1,e1⟩:=I.base.j4 b ps e;obtain⟨m2,e2⟩:=j4 b _ e1;exact⟨m1++m2,by rw[e2,Array.append_assoc]⟩};{obtain⟨m,hn,hl⟩:=I.loc;refine⟨m,ns m hn,λi x v e1 e2 e3=>?_⟩;obtain⟨u,r,l⟩:=hl i x v e1 e2 e3;refine⟨u,r,?_⟩;rcases l with l|⟨k,c,e,z⟩;{exact .inl l};exact .inr ⟨k,c,e,cellK x c e _ z⟩};{obtain⟨v,z⟩:=I.cell x c e;exact⟨v,cellK x c e v z⟩};{obtain⟨m,⟨o,_,_,ho,_⟩,_⟩:=I.loc;exact free _ o (λz=>(hch _ z).2.1 rfl) ho I.free};{obtain⟨v,o,ho,hd⟩:=I.cell x c e;exact free c o (λz=>(hch c z).2.2.1 x c e rfl) ho (I.eU x c e)};obtain⟨e,n,ne,nf,d⟩:=I.pin p hp;have nch:p.1∉ch:=λz=>(hch p.1 z).2.2.2 p hp rfl;exact⟨keep p.1 p.2 ne nf nch e n,free p.1 p.2 nch e n,ne,nf,d⟩
def Inv.un{t':Nat}(I:Inv X pins U H s)(u:Un X.fs [] H H' s.heap h')(hok:dH X.prog X.w H' h'):Inv X pins U H' { s with heap:=h',toks:=t' }:=by
 obtain⟨m,⟨o,es,ep,ho,r⟩,_⟩:=id I.loc;obtain⟨sl,hL⟩:=u.any ho I.free (by simp);exact I.step (g':=s.gens) (d':=s.drawn) (ch:=[]) (λ_ z=>nomatch z) (λb o _ hb _ e n=>u.keep b o e n hb (by simp)) (λb o _ hb _ e n=>u.slot b o e n hb (by simp)) (λb o _ e n=>u.free b o e n (by simp)) (λb o _ e=>u.there b o e (by simp)) u.tups u.ju u.j4 (λm' hm=>by
  obtain⟨o',es',ep',ho',r'⟩:=hm;rw[ho]at ho';cases ho';exact⟨_,es',ep',hL,r'⟩) hok I.bare
def Inv.call{g':Array GenState}{t':Nat}{d':Drawn}{ch:A03}(I:Inv X pins U H s)(u:Un (frs X.stack) ch H H' s.heap h')(hok:dH X.prog X.w H' h')(hg:AllBare g')(hch:∀b∈ch,(b∈X.ex\/X.s₀.heap.objs.size<=b)/\b≠X.env.locals/\(∀x c,X.env.cells.lookup x=some c->c≠b)/\∀p∈X.pn++pins,p.1≠b) : Inv X pins U H' { s with heap:=h',gens:=g',drawn:=d',toks:=t' }:=by
 obtain⟨m,⟨o,es,ep,ho,r⟩,_⟩:=id I.loc;obtain⟨sl,hL⟩:=u.any ho I.free λz=>(hch _ z).2.1 rfl;exact I.step (ch:=ch) hch (λb o hL hb hc e n=>u.keep b o e n (λz=>(VB.mp (I.mW b z)).elim hL hb) hc) (λb o _ _ hc e n=>u.any e n hc) (λb o hc e n=>u.free b o e n hc) (λb o hc e=>u.there b o e hc) u.tups u.ju u.j4 (λm' hm=>by
  obtain⟨o',es',ep',ho',r'⟩:=hm;rw[ho]at ho';cases ho';exact⟨_,es',ep',hL,r'⟩) hok hg
def Inv.turned{t':Nat}{it:Addr}(I:Inv X pins U H s)(k:∀b o,b≠it->s.heap.get? b=some o->h'.get? b=some o)(hn:H it=none)(hL:it≠X.env.locals)(h1:it∈X.ex\/X.s₀.heap.objs.size<=it)(h2:∀x c,X.env.cells.lookup x=some c->c≠it)(h3:∀p∈X.pn++pins,p.1≠it):Inv X pins U H { s with heap:=h',toks:=t' }:=by
 have nit:∀b u,H b=some u->b≠it:=λb u e z=>by rw[z,hn]at e;cases e
 refine I.step (g':=s.gens) (d':=s.drawn) (ch:=[it]) (λb hb=>?_) (λb o _ _ hc e _=>k b o (λz=>hc (by simp[z])) e) (λb o _ _ hc e _=>⟨o.slots,k b o (λz=>hc (by simp[z])) e⟩) (λ_ _ _ _ n=>n)
  (λb o hc e=>⟨o,k b o (λz=>hc (by simp[z])) e⟩) (λ_ _ e=>e) (λ_ _ _ e=>e) (λb ps e=>⟨#[],by rw[e];simp⟩) (λm hm=>?_) (λb u e=>?_) I.bare
 .have e:b=it:=by simpa using hb
  subst e;exact⟨h1,hL,h2,h3⟩
 .obtain⟨o,es,ep,ho,r⟩:=hm;exact⟨o,es,ep,k _ o (Ne.symm hL) ho,r⟩
 refine(I.hok b u e).stay (λc v hc q=>k c v ?_ q) (λ_ q=>q) λ_ _ q=>q;rcases hc with z|z;{rw[z];exact nit b u e};exact nit c _ z
def Inv.tok(I:Inv X pins U H s) (t:Nat):Inv X pins U H { s with toks:=t }:=I.un (h':=s.heap) (t':=t) Un.refl I.hok
theorem Inv.kept{t':Nat}(I:Inv X pins U H s)(k:∀b u,s.heap.get? b=some u->h'.get? b=some u):Inv X pins U H { s with heap:=h',toks:=t' }:=I.un (Un.kept k) (I.hok.kept k)
theorem Inv.laid{a:Addr}{o:HO}{t':Nat}(I:Inv X pins U H s)(k:∀b u,s.heap.get? b=some u->h'.get? b=some u)(hp:s.heap.objs.size<=a)(new:bE X.prog X.w (upd H a o) h' a o) : Inv X pins U (upd H a o) { s with heap:=h',toks:=t' }:=I.un (Un.laid k hp (I.hok.fresh hp)) (I.hok.laid k hp new)
theorem Inv.write{x e:Addr}{o:HO}{t':Nat}(I:Inv X pins U H s)(mu:Ea (H x))(he:e=x\/H e=some (.own x))(k:∀b u,b≠e->s.heap.get? b=some u->h'.get? b=some u)(heo:∃u,h'.get? e=some u)(new:bE X.prog X.w (upd H x o) h' x o):Inv X pins U (upd H x o) { s with heap:=h',toks:=t' }:=I.un (Un.write mu he k heo) (I.hok.write mu he k heo new)
def Inv.nA{pins':Zs}(I:Inv X pins U H s)(h:∀p∈pins',s.heap.get? p.1=some p.2/\H p.1=none/\p.1≠X.env.locals/\p.1∉X.fs/\∀v,p.2.data≠.cell v):Inv X pins' U H s:=
 ⟨I.ok,I.os,I.bare,I.base,I.loc,I.cell,I.free,I.eU,λp hp=>(VS.mp hp).elim (λz=>I.pin p (ZG _ z)) (h p),I.hok,I.len⟩
def sY{N:A09}(hN:N.Nodup){i j:Nat}{x:Str}(a:N[i]?=some x)(b:N[j]?=some x):i=j:=by obtain⟨h1,e1⟩:=X5.mp a;obtain⟨h2,e2⟩:=X5.mp b;exact(List.getElem_inj hN).mp (e1.trans e2.symm)
def xm{M:Model}{A:Around}{E:Zp}{i:Nat}{x:Str}{v:V}{u:Value}{Q:Unit->Shared->Prop}(I:Inv X pins U H s)(hN:X.N.Nodup)(hi:X.N[i]?=some x)(hx:Loc X.env.scope x)(r:RelV v u)(h:∀s',Inv X pins (U.set i (some v)) H s'->(∃a,Heap.SameBut a s.heap s'.heap/\(a=X.env.locals\/X.env.cells.lookup x=some a))->Q () s')(hf:X.fn x=true\/X.env.scope.names.lookup x=some .local:=by first|exact .inl rfl|exact .inr rfl|assumption):wpAny M A (storeName X.env x u) Q E s:=by
 obtain⟨m,hn,hl⟩:=id I.loc;have hcls:(X.env.scope.kind == .class||(X.env.scope.kind == .module&&X.env.locals != X.env.globals))=false:=by rw[I.ok.kind];rfl
 have hiσ:i<U.length:=by rw[I.len];exact(X5.mp hi).1
 have uX:=I.uX;have tracked:∀{a:Addr}{h':Heap},(∃o,s.heap.get? a=some o/\H a=none)->Heap.SameBut a s.heap h'->dH X.prog X.w H h':=λ{a h'} ha hs b ob e=>by obtain⟨_,_,hfree⟩:=ha;refine(I.hok b ob e).stay (λc w' hc q=>(hs.2 c ?_).trans q) (λ_ q=>q) λ_ _ q=>q;rintro rfl;rcases hc with rfl|hc;{rw[hfree]at e;cases e};rw[hfree]at hc;cases hc
 rcases hx with hk|hk;{refine wpAny_storeName_local hk hn (λh' hn' hs=>?_) hcls;obtain⟨oL,_,_,hoL,_⟩:=id hn;refine h _ ⟨I.ok,I.os,I.bare,⟨λb o e n hb hx=>?_,λb o e n hb hx=>?_,I.base.free,λb o e hx=>?_,I.base.tups,I.base.ju,I.base.j4⟩,⟨_,hn',λj y v' e1 e2 e3=>?_⟩,λy c e=>?_,I.free,I.eU,λp hp=>?_,tracked ⟨oL,hoL,I.free⟩ hs,by simpa using I.len⟩ ⟨_,hs,.inl rfl⟩;{exact(hs.2 b (VQ (Vv (VC e) I.ok.above))).trans (I.base.keep b o e n hb hx)};{obtain⟨sl,e1⟩:=I.base.slot b o e n hb hx;exact⟨sl,(hs.2 b (VQ (Vv (VC e) I.ok.above))).trans e1⟩};{obtain⟨o',e1⟩:=I.base.there b o e hx;exact⟨o',(hs.2 b (VQ (Vv (VC e) I.ok.above))).trans e1⟩};{by_cases hj:j=i;{subst hj;rw[hi]at e1;cases e1;rw[Wr hiσ]at e2;cases e2;exact⟨u,r,.inl ⟨hk,by simp⟩⟩};rw[Wg (Ne.symm hj)]at e2;obtain⟨u',r',q⟩:=hl j y v' e1 e2 e3;refine⟨u',r',?_⟩;rcases q with⟨k,e⟩|⟨k,c,e,z⟩;{refine .inl ⟨k,?_⟩;have:y≠x:=λe=>hj (sY hN e1 (e▸hi));simp[this,e]};exact .inr ⟨k,c,e,z.sameBut hs (uX y c e)⟩};{obtain⟨w',z⟩:=I.cell y c e;exact⟨w',z.sameBut hs (uX y c e)⟩};obtain⟨e,n,ne,nf,d⟩:=I.pin p hp;exact⟨(hs.2 p.1 ne).trans e,n,ne,nf,d⟩};have hfn:X.fn x=true:=by rcases hf with z|z;{exact z};rw[z]at hk;cases hk
 obtain⟨c,hc⟩:=I.ok.has x (.inl hk);obtain⟨w',z⟩:=I.cell x c hc;refine wpAny_storeName_cell I.ok.kind hk hc z (λh' hc' hs=>?_);obtain⟨oc,hoc,hocd⟩:=id z;refine h { s with heap:=h' } ⟨I.ok,I.os,I.bare,⟨λb o e n hb hx=>?_,λb o e n hb hx=>?_,I.base.free,λb o e hx=>?_,I.base.tups,I.base.ju,I.base.j4⟩,⟨m,hn.sameBut hs (Ne.symm (uX x c hc)),λj y v' e1 e2 e3=>?_⟩,λy c' e=>?_,I.free,I.eU,λp hp=>?_,tracked ⟨oc,hoc,I.eU x c hc⟩ hs,by simpa using I.len⟩ ⟨c,hs,.inr hc⟩;{exact(hs.2 b (VQ (Vv (VC e) (I.ok.yx x c hfn hc)))).trans (I.base.keep b o e n hb hx)};{obtain⟨sl,e1⟩:=I.base.slot b o e n hb hx;exact⟨sl,(hs.2 b (VQ (Vv (VC e) (I.ok.yx x c hfn hc)))).trans e1⟩};{obtain⟨o',e1⟩:=I.base.there b o e hx;exact⟨o',(hs.2 b (VQ (Vv (VC e) (I.ok.yx x c hfn hc)))).trans e1⟩};{by_cases hj:j=i;{subst hj;rw[hi]at e1;cases e1;rw[Wr hiσ]at e2;cases e2;exact⟨u,r,.inr ⟨.inl hk,c,hc,hc'⟩⟩};rw[Wg (Ne.symm hj)]at e2;obtain⟨u',r',q⟩:=hl j y v' e1 e2 e3;refine⟨u',r',?_⟩;rcases q with q|⟨k,c',e,z'⟩;{exact .inl q};refine .inr ⟨k,c',e,z'.sameBut hs ?_⟩;rintro rfl;exact hj (sY hN e1 (I.ok.inj _ _ _ e hc▸hi))};{by_cases hcc:c'=c;{subst hcc;exact⟨_,hc'⟩};obtain⟨w2,z2⟩:=I.cell y c' e;exact⟨w2,z2.sameBut hs hcc⟩};obtain⟨e,n,ne,nf,d⟩:=I.pin p hp;refine⟨(hs.2 p.1 ?_).trans e,n,ne,nf,d⟩;intro q;rw[q,hoc]at e;have q':oc=p.2:=Option.some.inj e;exact d w' (by rw[<-q'];exact hocd)
def kU{M:Model}{A:Around}{E:Zp}{i:Nat}{x:Str}{v:V}{u:Value}{Q:Unit->Shared->Prop}(I:Inv X pins U H s)(hN:X.N.Nodup)(hi:X.N[i]?=some x)(hx:Loc X.env.scope x)(r:RelV v u)(h:∀s',Inv X pins (U.set i (some v)) H s'->Q () s')(hf:X.fn x=true\/X.env.scope.names.lookup x=some .local:=by first|exact .inl rfl|exact .inr rfl|assumption):wpAny M A (storeName X.env x u) Q E s:=
 xm I hN hi hx r (λs' I' _=>h s' I') hf
def Inv.Cq{s':Shared}{ch:A03}(I:Inv X pins U H s)(ho:s'.os=s.os)(u:Un (frs X.stack) ch H H' s.heap s'.heap)(hok:dH X.prog X.w H' s'.heap)(hg:AllBare s'.gens)(hch:∀b∈ch,(b∈X.ex\/X.s₀.heap.objs.size<=b)/\b≠X.env.locals/\(∀x c,X.env.cells.lookup x=some c->c≠b)/\∀p∈X.pn++pins,p.1≠b):Inv X pins U H' s':=by obtain⟨h',g',d',t',o'⟩:=s';have e:o'=s.os:=ho;subst e;exact I.call (g':=g') (t':=t') (d':=d') u hok hg hch
end
abbrev XK:=Value->A01->Hp->Prop
abbrev St:=List (Option V)
abbrev VK:=V->Hp->Prop
abbrev TE:=St->Hp->VK->Prop
abbrev TT:=St->Hp->(Bool->Hp->Prop)->Prop
abbrev TA:=St->Hp->(List V->Hp->Prop)->Prop
structure Ends where
 nx:St->Hp->Prop
 rt:VK
 bk:St->Hp->Prop:=λ_ _=>False
 ct:St->Hp->Prop:=λ_ _=>False
abbrev TS:=Ends->St->Hp->Prop
def EP (X:Cx)(pins:Zs)(U:St)(Q:VK)(u:Value)(s':Shared):Prop:=∃v H',Inv X pins U H' s'/\RelV v u/\Q v H'
def TP (X:Cx)(pins:Zs)(U:St)(Q:Bool->Hp->Prop)(b:Bool)(s':Shared):Prop:=∃H',Inv X pins U H' s'/\Q b H'
def AP (X:Cx)(pins:Zs)(U:St)(Q:List V->Hp->Prop)(us:A02)(s':Shared):Prop:=∃vs H',Inv X pins U H' s'/\Vals vs us/\Q vs H'
noncomputable def SP (X:Cx)(pins:Zs)(D:Ends)(f:Flow)(s':Shared):Prop:=
 match f with
 |.next=>∃σ' H',Inv X pins σ' H' s'/\D.nx σ' H'
 |.brk=>∃σ' H',Inv X pins σ' H' s'/\D.bk σ' H'
 |.cont=>∃σ' H',Inv X pins σ' H' s'/\D.ct σ' H'
 |.ret u=>∃v σ' H',Inv X pins σ' H' s'/\RelV v u/\D.rt v H'
def PE (X:Cx)(e:Expr)(t:TE):Prop:=
 ∀(pins:Zs)(s:Shared)(U:St)(H:Hp)(Q:VK),Inv X pins U H s->t U H Q->wpAny (model X.prog X.w) X.A (eval e X.env) (EP X pins U Q) X.xe s
noncomputable def PT (X:Cx)(e:Expr)(t:TT):Prop:=
 ∀(pins:Zs)(s:Shared)(U:St)(H:Hp)(Q:Bool->Hp->Prop),Inv X pins U H s->t U H Q->wpAny (model X.prog X.w) X.A (isTrue e X.env (eval e X.env)) (TP X pins U Q) X.xe s
noncomputable def PW (X:Cx)(e:Expr)(t:TT):Prop:=
 ∀(whole:Sem Value)(pins:Zs)(s:Shared)(U:St)(H:Hp)(Q:Bool->Hp->Prop),Inv X pins U H s->t U H Q->wpAny (model X.prog X.w) X.A (isTrue e X.env whole) (TP X pins U Q) X.xe s
def PW.pt{X:Cx}{e:Expr}{t:TT}(h:PW X e t):PT X e t:=h _
noncomputable def PA (X:Cx)(es:A05)(t:TA):Prop:=
 ∀(pos:Pos)(pins:Zs)(s:Shared)(U:St)(H:Hp)(Q:List V->Hp->Prop),Inv X pins U H s->t U H Q->wpAny (model X.prog X.w) X.A (spliced (backTo pos (starEach es X.env))) (AP X pins U Q) X.xe s
def PS (X:Cx)(st:Stmt)(t:TS):Prop:=
 ∀(pins:Zs)(s:Shared)(U:St)(H:Hp)(D:Ends),Inv X pins U H s->t D U H->wpAny (model X.prog X.w) X.A (exec st X.env) (SP X pins D) X.xe s
def l8 (X:Cx)(st:A06)(t:TS):Prop:=
 ∀(pins:Zs)(s:Shared)(U:St)(H:Hp)(D:Ends),Inv X pins U H s->t D U H->wpAny (model X.prog X.w) X.A (execs st X.env) (SP X pins D) X.xe s
def aM{α:Type}{t:Sem α}{Q Q':α->Shared->Prop}{M:Model}{A:Around}{E:Zp}{s:Shared}(h:wpAny M A t Q E s)(hQ:∀a s,Q a s->Q' a s):wpAny M A t Q' E s:=WC h hQ λ_ _ x=>x
section
variable{X:Cx}
inductive J7(i:Nat)(U:St)(H:Hp)(Q:VK):Prop
 |mk:∀v,(U[i]?=some (some v))->(Q v H)->J7 i U H Q
def lQ (i:Nat):TE:=λU H Q=>J7 i U H Q
def tC (v:V):TE:=λ_ H Q=>Q v H
def cH{i:Nat}{x:Str}{pos:Pos}(hN:X.N[i]?=some x)(hv:gU X.env.scope x)(hd:(x==("__debug__":Str))=false:=by decide)(hcd:(x==("__classdict__":Str))=false:=by decide):PE X (.Name x pos) (lQ i):=by intro pins s U H Q I h;obtain⟨v,e,h⟩:=h;obtain⟨m,hn,hl⟩:=I.loc;obtain⟨u,r,l⟩:=hl i x v hN e hv;have fin:EP X pins U Q u s:=⟨v,H,I,r,h⟩;rcases l with⟨hk,hm⟩|⟨hk,c,hc,hcell⟩;{exact wpAny_Name (wpAny_loadName_local I.ok.kind hk hn hm fin) hd};rcases hk with hk|hk;{exact wpAny_Name (wpAny_loadName_cell I.ok.kind hk hc hcell fin) hd};exact wpAny_Name (wpAny_loadName_free I.ok.kind hk hc hcell fin hcd) hd
def k7{i j pos}:PE X (.Constant (.int i) j pos) (tC (.int i)):=λ_ _ _ H _ I h=>wpAny_Constant_int ⟨.int i,H,I.tok _,⟨_,rfl⟩,h⟩
def QX{b j pos}:PE X (.Constant (.bool b) j pos) (tC (.bl b)):=λ_ _ _ H _ I h=>Constant_bool ⟨.bl b,H,I,rfl,h⟩
def PF{j pos}:PE X (.Constant .none j pos) (tC .aU):=λ_ _ _ H _ I h=>Constant_none ⟨.aU,H,I,rfl,h⟩
def GW{x j pos}:PE X (.Constant (.str x) j pos) (tC (.str x)):=λ_ _ _ H _ I h=>Calls.Constant_str ⟨.str x,H,I.tok _,⟨_,rfl⟩,h⟩
def Gl (X:Cx) (x:Str):Prop:=X.env.kindOf x=some .globalImplicit
def nI{E:Zp}{pins:Zs}{s:Shared}{U:St}{H:Hp}{x:Str}{u:Value}{pos:Pos}{Q:Zp}(I:Inv X pins U H s)(hg:Gl X x)(hm:X.mg x=some u)(h:Q u s)(hd:(x==("__debug__":Str))=false:=by decide):wpAny (model X.prog X.w) X.A (eval (.Name x pos) X.env) Q E s:=
 Calls.Name_function_global I.ok.kind hg (Calls.loadGlobal_global (by rw[I.ok.glob];exact I.mod.glob.keeps I.bk) hm h) hd
def jP{E:Zp}{pins:Zs}{s:Shared}{U:St}{H:Hp}{x:Str}{u:Value}{pos:Pos}{Q:Zp}(I:Inv X pins U H s)(hg:Gl X x)(hm:X.mg x=none)(hv:bootBuiltins x=some u)(h:Q u s)(hn:x≠"__name__":=by decide)(hd:(x==("__debug__":Str))=false:=by decide):wpAny (model X.prog X.w) X.A (eval (.Name x pos) X.env) Q E s:=by obtain⟨mb,h1,h2⟩:=I.mod.blt;exact Calls.Name_function_global I.ok.kind hg (Calls.loadGlobal_builtin (by rw[I.ok.glob];exact I.mod.glob.keeps I.bk) hm (by rw[I.ok.blt];exact h1.keeps I.bk) ((h2 x hn).trans hv) h) hd
def vz{x:Str}{v:V}{u:Value}{pos:Pos}(hg:Gl X x)(hm:X.mg x=some u)(r:RelV v u)(hd:(x==("__debug__":Str))=false:=by decide):PE X (.Name x pos) (tC v):=
 λ_ _ _ H _ I h=>nI I hg hm ⟨v,H,I,r,h⟩ hd
def rj{x:Str}{v:V}{u:Value}{pos:Pos}(hg:Gl X x)(hm:X.mg x=none)(hv:bootBuiltins x=some u)(r:RelV v u)(hn:x≠"__name__":=by decide)(hd:(x==("__debug__":Str))=false:=by decide):PE X (.Name x pos) (tC v):=
 λ_ _ _ H _ I h=>jP I hg hm hv ⟨v,H,I,r,h⟩ hn hd
variable{a b:Expr}{ta tb:TE}{pos:Pos}
variable{tA tB':TT}{rest:A05}
def TH (t u:TT):TT:=λU H Q=>t U H λc H1=>if c=true then u U H1 Q else Q false H1
def UT (t u:TT):TT:=λU H Q=>t U H λc H1=>if c=true then Q true H1 else u U H1 Q
def TN (t:TT):TT:=λU H Q=>t U H λc H1=>Q (!c) H1
def pw_and1(ha:PT X a tA):PW X (.BoolOp .And [a] pos) tA:=by
 intro wh pins s U H Q I h;refine isTrue_and (aM (ha pins s U H Q I h) λc s1 e=>?_);cases c with
 |true=>exact isTrue_and_nil e
 |false=>exact e
def pw_or1(ha:PT X a tA):PW X (.BoolOp .Or [a] pos) tA:=by
 intro wh pins s U H Q I h;refine isTrue_or (aM (ha pins s U H Q I h) λc s1 e=>?_);cases c with
 |false=>exact isTrue_or_nil e
 |true=>exact e
def pw_and(ha:PT X a tA)(hb:PW X (.BoolOp .And (b::rest) pos) tB'):PW X (.BoolOp .And (a::b::rest) pos) (TH tA tB'):=by
 intro wh pins s U H Q I h;refine isTrue_and (aM (ha pins s U H _ I h) λc s1 ⟨H1,I1,q1⟩=>?_);cases c with
 |true=>exact hb wh pins s1 U H1 Q I1 q1
 |false=>exact⟨H1,I1,q1⟩
def pw_or(ha:PT X a tA)(hb:PW X (.BoolOp .Or (b::rest) pos) tB'):PW X (.BoolOp .Or (a::b::rest) pos) (UT tA tB'):=by
 intro wh pins s U H Q I h;refine isTrue_or (aM (ha pins s U H _ I h) λc s1 ⟨H1,I1,q1⟩=>?_);cases c with
 |true=>exact⟨H1,I1,q1⟩
 |false=>exact hb wh pins s1 U H1 Q I1 q1
def ER(ha:PT X a tA):PT X (.UnaryOp .Not a pos) (TN tA):=by intro pins s U H Q I h;exact isTrue_not (ha pins s U H (λc H1=>Q (!c) H1) I h)
inductive EW(tb:TE)(U:St)(Q:VK) (x:V)(H1:Hp):Prop
 |mk:∀c,(x=.bl c)->(if c=true then tb U H1 Q else Q (.bl false) H1)->EW tb U Q x H1
def RX (ta tb:TE):TE:=λU H Q=>ta U H λx H1=>EW tb U Q x H1
inductive Kn(tb:TE)(U:St)(Q:VK) (x:V)(H1:Hp):Prop
 |mk:∀c,(x=.bl c)->(if c=true then Q (.bl true) H1 else tb U H1 Q)->Kn tb U Q x H1
def Uj (ta tb:TE):TE:=λU H Q=>ta U H λx H1=>Kn tb U Q x H1
def Pk{op}{t:TE}(h:PE X a t):PE X (.BoolOp op [a] pos) t:=λpins s U H Q I hw=>BoolOp_one (h pins s U H Q I hw)
def M9(ha:PE X a ta)(hb:PE X (.BoolOp .And (b::rest) pos) tb):PE X (.BoolOp .And (a::b::rest) pos) (RX ta tb):=by
 intro pins s U H Q I h;refine BoolOp_and (aM (ha pins s U H _ I h) λv s1 ⟨x,H1,I1,r1,q1⟩=>?_);obtain⟨c,rfl,q1⟩:=q1;cases r1;refine XS ?_;cases c with
 |true=>exact hb pins s1 U H1 Q I1 q1
 |false=>exact⟨.bl false,H1,I1,rfl,q1⟩
def Rr(ha:PE X a ta)(hb:PE X (.BoolOp .Or (b::rest) pos) tb):PE X (.BoolOp .Or (a::b::rest) pos) (Uj ta tb):=by
 intro pins s U H Q I h;refine BoolOp_or (aM (ha pins s U H _ I h) λv s1 ⟨x,H1,I1,r1,q1⟩=>?_);obtain⟨c,rfl,q1⟩:=q1;cases r1;refine XS ?_;cases c with
 |false=>exact hb pins s1 U H1 Q I1 q1
 |true=>exact⟨.bl true,H1,I1,rfl,q1⟩
def UL (t:TT)(ta tb:TE):TE:=λU H Q=>t U H λc H1=>if c=true then ta U H1 Q else tb U H1 Q
def HS{c:Expr}(hc:PT X c tA)(ha:PE X a ta)(hb:PE X b tb):PE X (.IfExp c a b pos) (UL tA ta tb):=by
 intro pins s U H Q I h;refine wpAny_IfExp (aM (hc pins s U H _ I h) λd s1 ⟨H1,I1,q1⟩=>?_);cases d with
 |true=>exact ha pins s1 U H1 Q I1 q1
 |false=>exact hb pins s1 U H1 Q I1 q1
end
noncomputable def bF (K:Zx)(H:Hp)(a:Addr)(xs:List V):Prop:=
 Rd H a (.lst xs) \/
  ∃(o:Obj)(its:Zz) (n:Nat),K.lookup a=some o/\o.cls=.type "list"/\o.dict=none/\o.data=.seq its n/\its.size<=sizeLine/\Vals xs its.toList
def bO (K:Zx)(H:Hp)(a:Addr)(xs:List V):Prop:=
 Rd H a (.tup xs) \/
  ∃(o:Obj)(its:Zz) (n:Nat),K.lookup a=some o/\o.cls=.type "tuple"/\o.data=.seq its n/\its.size<=sizeLine/\Vals xs its.toList
noncomputable def Tu:Value->Option V
 |.none=>some .aU
 |.bool b=>some (.bl b)
 |.int i _=>some (.int i)
 |.str x _=>some (.str x)
 |.bytes b _=>some (.m8 b)
 |.float b _=>some (.AF b)
 |.ref a=>some (.ref a)
 |.type n=>some (.ty n)
 |_=>none
def RelV.abs{x:V}{u:Value}(r:RelV x u):Tu u=some x:=by
 cases x with
 |aU=>cases r;rfl
 |bl _=>cases r;rfl
 |int _=>obtain⟨t,rfl⟩:=r;rfl
 |str _=>obtain⟨t,rfl⟩:=r;rfl
 |m8 _=>obtain⟨t,rfl⟩:=r;rfl
 |AF _=>obtain⟨t,rfl⟩:=r;rfl
 |ref _=>cases r;rfl
 |ty _=>cases r;rfl
theorem RelV.inj{x y:V}{u:Value}(r:RelV x u)(q:RelV y u):x=y:=Option.some.inj (r.abs.symm.trans q.abs)
theorem Vals.inj{xs ys:List V}{us:A02}(h:Vals xs us)(h':Vals ys us):xs=ys:=by
 induction h generalizing ys with
 |nil=>cases h';rfl
 |cons r t ih=>cases h' with|cons r' t'=>rw[r.inj r',ih t']
section
variable{X:Cx}{pins:Zs}{U:St}{H:Hp}{s:Shared}{a:Addr}{xs ys:List V}
def bF.of{K:Zx}(h:H a=some (.lst xs)):bF K H a xs:=.inl (.inl h)
def bO.of{K:Zx}(h:H a=some (.tup xs)):bO K H a xs:=.inl (.inl h)
def Inv.list(I:Inv X pins U H s)(h:bF X.K H a xs):∃its:A02,Vals xs its/\PlainL s.heap a its.toArray/\xs.length<=sizeLine:=by rcases h with h|⟨o,its,n,hk,hc,hd,hs,hz,r⟩;{obtain⟨z,its,n,r,e⟩:=h.ok I.hok;exact⟨its,r,⟨_,n,e,rfl,rfl,rfl⟩,z⟩};refine⟨its.toList,r,⟨o,n,I.dG a o hk,hc,hd,by simpa using hs⟩,?_⟩;have e:=r.length;simp only[X6]at e;lia
def Inv.tuple(I:Inv X pins U H s)(h:bO X.K H a xs):∃its:A02,Vals xs its/\IsTup s.heap a its.toArray/\xs.length<=sizeLine:=by rcases h with h|⟨o,its,n,hk,hc,hs,hz,r⟩;{obtain⟨z,its,r,p⟩:=h.ok I.hok;exact⟨its,r,p,z⟩};refine⟨its.toList,r,⟨o,I.dG a o hk,hc,n,by simpa using hs⟩,?_⟩;have e:=r.length;simp only[X6]at e;lia
def Inv.n6(I:Inv X pins U H s)(h:bF X.K H a xs)(h':bF X.K H a ys):xs=ys:=by
 obtain⟨its,r,⟨o,n,e,_,_,d⟩,_⟩:=I.list h;obtain⟨its',r',⟨o',n',e',_,_,d'⟩,_⟩:=I.list h';rw[e]at e';cases e';rw[d]at d';injection d' with d1 _;have:its=its':=by simpa using congrArg Array.toList d1
 subst this;exact r.inj r'
def Inv.Ep(I:Inv X pins U H s)(h:bO X.K H a xs)(h':bO X.K H a ys):xs=ys:=by
 obtain⟨its,r,⟨o,e,_,n,d⟩,_⟩:=I.tuple h;obtain⟨its',r',⟨o',e',_,n',d'⟩,_⟩:=I.tuple h';rw[e]at e';cases e';rw[d]at d';injection d' with d1 _;have:its=its':=by simpa using congrArg Array.toList d1
 subst this;exact r.inj r'
end
section
variable{X:Cx}{st:Stmt}{rest:A06}{t u:TS}{e:Expr}{te:TE}{pos:Pos}
def Rt:TS:=λD U H=>D.nx U H
def TZ (t u:TS):TS:=λD U H=>t { D with nx:=u D } U H
def Lx:l8 X [] Rt:=λ_ _ U H _ I h=>Y8 ⟨U,H,I,h⟩
def zF(h1:PS X st t)(h2:l8 X rest u):l8 X (st::rest) (TZ t u):=by
 intro pins s U H D I h;refine wpAny_execs_cons (aM (h1 pins s U H { D with nx:=u D } I h) λf s1 q=>?_);cases f with
 |next=>obtain⟨σ',H',I',q⟩:=q;exact h2 pins s1 σ' H' D I' q
 |ret v=>exact q
 |brk=>exact q
 |cont=>exact q
def Bc(h1:PS X st t):l8 X [st] t:=by
 intro pins s U H D I h;refine wpAny_execs_cons (aM (h1 pins s U H D I h) λf s1 q=>?_);cases f with
 |next=>exact Y8 q
 |ret v=>exact q
 |brk=>exact q
 |cont=>exact q
def Inv.quiet{pins:Zs}{U:St}{H:Hp}{s:Shared}(I:Inv X pins U H s):interactive X.env=false:=by simp[interactive,I.ok.kind]
def Si (te:TE):TS:=λD U H=>te U H λ_ H1=>D.nx U H1
def AL(he:PE X e te)(hs:swapsWith e none pos.line X.env=pure false:=by rfl):PS X (.Expr e pos) (Si te):=by intro pins s U H D I h;exact wpAny_Expr_any (aM (he pins s U H _ I h) λv s1 ⟨x,H1,I1,r1,q1⟩=>⟨U,H1,I1,q1⟩) I.quiet hs
def UA (te:TE):TS:=λD U H=>te U H D.rt
def Gd(he:PE X e te):PS X (.Return (some e) pos) (UA te):=by intro pins s U H D I h;exact wpAny_Return_some (aM (he pins s U H _ I h) λv s1 ⟨x,H1,I1,r1,q1⟩=>⟨x,U,H1,I1,r1,q1⟩)
def Ua (c:TT)(t u:TS):TS:=λD U H=>c U H λb H1=>if b=true then t D U H1 else u D U H1
def Q0{c:Expr}{a b:A06}{tc:TT}(hc:PT X c tc)(ha:l8 X a t)(hb:l8 X b u):PS X (.If c a b pos) (Ua tc t u):=by
 intro pins s U H D I h;refine wpAny_If (aM (hc pins s U H _ I h) λd s1 ⟨H1,I1,q1⟩=>?_);cases d with
 |true=>exact ha pins s1 U H1 D I1 q1
 |false=>exact hb pins s1 U H1 D I1 q1
end
abbrev TG:=V->St->Hp->(St->Hp->Prop)->Prop
abbrev su:=List V->St->Hp->(St->Hp->Prop)->Prop
noncomputable def PG (X:Cx)(target:Expr)(t:TG):Prop:=
 ∀(pins:Zs)(s:Shared)(U:St)(H:Hp) (v:V)(u:Value)(Q:St->Hp->Prop),Inv X pins U H s->RelV v u->t v U H Q->
  wpAny (model X.prog X.w) X.A (assign target X.env u) (λ_ s'=>∃σ' H',Inv X pins σ' H' s'/\Q σ' H') X.xe s
noncomputable def Fi (X:Cx)(ts:A05)(t:su):Prop:=
 ∀(pins:Zs)(s:Shared)(U:St)(H:Hp)(vs:List V)(us:A02)(Q:St->Hp->Prop),Inv X pins U H s->Vals vs us->t vs U H Q->
  wpAny (model X.prog X.w) X.A (assignInOrder ((assignEach ts X.env).map (·.2)) us) (λ_ s'=>∃σ' H',Inv X pins σ' H' s'/\Q σ' H') X.xe s
abbrev Cj:=V->V->V->Hp->(Hp->Prop)->Prop
noncomputable def HK (X:Cx)(t:Cj):Prop:=
 ∀(pins:Zs)(s:Shared)(U:St)(H:Hp) (o i v:V)(ov iv u:Value)(Q:Hp->Prop),Inv X pins U H s->RelV o ov->RelV i iv->RelV v u->t o i v H Q->
  wpAny (model X.prog X.w) X.A (setItem ov iv u) (λ_ s'=>∃H',Inv X pins U H' s'/\Q H') X.xe s
abbrev KR:=V->V->Hp->VK->Prop
noncomputable def SG (X:Cx)(op:Operator)(t:KR):Prop:=
 ∀(pins:Zs)(s:Shared)(U:St)(H:Hp) (x y:V)(v u:Value)(Q:VK),Inv X pins U H s->RelV x v->RelV y u->t x y H Q->
  wpAny (model X.prog X.w) X.A (inplaceOp op v u) (EP X pins U Q) X.xe s
section
variable{X:Cx}{pos:Pos}
def rH (i:Nat):TG:=λv U H Q=>Q (U.set i (some v)) H
def wg{i:Nat}{x:Str}(hN:X.N.Nodup)(hi:X.N[i]?=some x)(hx:Loc X.env.scope x)(hf:X.fn x=true\/X.env.scope.names.lookup x=some .local:=by first|exact .inl rfl|exact .inr rfl|assumption):PG X (.Name x pos) (rH i):=by intro pins s U H v u Q I r h;exact wpAny_assign_Name (kU I hN hi hx r (λs' I'=>⟨_,H,I',h⟩) hf)
def IY:su:=λvs U H Q=>vs=[]/\Q U H
inductive El(t:TG)(u:su)(vs:List V)(U:St)(H:Hp)(Q:(St->Hp->Prop)):Prop
 |mk:∀v r,(vs=v::r)->(t v U H λσ' H'=>u r σ' H' Q)->El t u vs U H Q
def DH (t:TG)(u:su):su:=λvs U H Q=>El t u vs U H Q
def Cf:Fi X [] IY:=by intro pins s U H vs us Q I r h;obtain⟨e,h⟩:=h;subst e;cases r;exact assignInOrder_nil ⟨U,H,I,h⟩
def sR{e:Expr}{es:A05}{t:TG}{u:su}(h1:PG X e t)(h2:Fi X es u)(hs:(assignEach (e::es) X.env).map (·.2)=assign e X.env::(assignEach es X.env).map (·.2):=by rfl):Fi X (e::es) (DH t u):=by
 intro pins s U H vs us Q I r h;obtain⟨v,vr,e1,h⟩:=h;subst e1;cases r with
 |cons r rr=>rw[hs];refine assignInOrder_cons (aM (h1 pins s U H _ _ _ I r h) λ_ s1 ⟨σ1,H1,I1,q1⟩=>?_);exact h2 pins s1 σ1 H1 _ _ Q I1 rr q1
inductive KC(K:Zx) (n:Nat)(t:su) (v:V)(U:St)(H:Hp)(Q:(St->Hp->Prop)):Prop
 |mk:∀a xs,(v=.ref a)->(bO K H a xs)->(xs.length=n)->(t xs U H Q)->KC K n t v U H Q
def fc (K:Zx) (n:Nat)(t:su):TG:=λv U H Q=>KC K n t v U H Q
def ya{es:A05}{k:Nat}{t:su}{n:Nat}(hc:X.calm=true)(h:Fi X es t)(hn:(assignEach es X.env).length=n:=by rfl)(hst:(assignEach es X.env).findIdx? (·.1)=none:=by rfl):PG X (.Tuple es k pos) (fc X.K n t):=by intro pins s U H v u Q I r hw;obtain⟨a,xs,e1,hq,hl,hw⟩:=hw;subst e1;cases r;obtain⟨its,rv,ht,hz⟩:=I.tuple hq;refine assign_Tuple_tuple (I.ok.hd hc) ht (by simp[hn,<-hl,rv.length]) hst λh' hx=>?_;have I1:Inv X pins U H { s with heap:=h' }:=I.kept (t':=s.toks) λb o e=>hx b o (VQ (VC e)) e;exact h pins _ U H xs _ Q I1 (by simpa using rv) hw
def n9 (to ti:TE)(t:Cj):TG:=λv U H Q=>to U H λo H1=>ti U H1 λi H2=>t o i v H2 λH3=>Q U H3
def Na{o i:Expr}{to ti:TE}{t:Cj}(ho:PE X o to)(hi:PE X i ti)(hs:HK X t)
  (ha:∀v,assign (.Subscript o i pos) X.env v=(do
   let ov <-holding [v] (eval o X.env)
   let iv <-holding [v,ov] (eval i X.env)
   standAt pos
   holding [v,ov,iv] (setItem ov iv v)
   release [v,ov,iv] []):=by intro _;rfl):PG X (.Subscript o i pos) (n9 to ti t):=by
 intro pins s U H v u Q I r h;rw[ha];refine V0 (Wb (aM (ho pins s U H _ I h) λov s1 ⟨x,H1,I1,r1,q1⟩=>?_))
 refine V0 (Wb (aM (hi pins s1 U H1 _ I1 q1) λiv s2 ⟨y,H2,I2,r2,q2⟩=>?_))
 refine V0 (wpAny_standAt (V0 (Wb (aM (hs pins s2 U H2 x y v ov iv u _ I2 r1 r2 r q2) λ_ s3 ⟨H3,I3,q3⟩=>?_))))
 exact wpAny_release ⟨U,H3,I3,q3⟩
def HL (te:TE)(g:TG):TS:=λD U H=>te U H λx H1=>g x U H1 D.nx
def HA{tg e:Expr}{te:TE}{g:TG}(he:PE X e te)(hg:PG X tg g)(hs:swapsWithSole [tg] e pos.line X.env=pure false:=by rfl)(hw:swappedStores [tg] e X.env=pure none:=by rfl)(h1:(assignEach [tg] X.env).map (·.2)=[assign tg X.env]:=by rfl):PS X (.Assign [tg] e pos) (HL te g):=by intro pins s U H D I h;refine wpAny_Assign_stores (aM (he pins s U H _ I h) λv s1 ⟨x,H1,I1,r1,q1⟩=>?_) hs hw;rw[h1];exact aM (hg pins s1 U H1 x v _ I1 r1 q1) λ_ s2 q=>q
def OP{i:Nat}{x:Str}{e:Expr}{te:TE}{pos':Pos}(hN:X.N.Nodup)(hi:X.N[i]?=some x)(hx:Loc X.env.scope x)(he:PE X e te)(hs:swapsWith e (some (.Name x pos')) pos.line X.env=pure false:=by rfl)(hf:X.fn x=true\/X.env.scope.names.lookup x=some .local:=by first|exact .inl rfl|exact .inr rfl|assumption) : PS X (.Assign [.Name x pos'] e pos) (HL te (rH i)):=by intro pins s U H D I h;refine wpAny_Assign_Name (aM (he pins s U H _ I h) λv s1 ⟨y,H1,I1,r1,q1⟩=>?_) hs;exact kU I1 hN hi hx r1 (λs2 I2=>⟨_,H1,I2,q1⟩) hf
def Tr (i:Nat)(te:TE)(ti:KR):TS:=λD U H=>∃x,U[i]?=some (some x)/\te U H λy H1=>ti x y H1 λz H2=>D.nx (U.set i (some z)) H2
def NO{i:Nat}{x:Str}{e:Expr}{te:TE}{op:Operator}{ti:KR}{pos':Pos}(hN:X.N.Nodup)(hi:X.N[i]?=some x)(hx:Loc X.env.scope x)(he:PE X e te)(ho:SG X op ti)(hf:X.fn x=true\/X.env.scope.names.lookup x=some .local:=by first|exact .inl rfl|exact .inr rfl|assumption) : PS X (.AugAssign (.Name x pos') op e pos) (Tr i te ti):=by
 intro pins s U H D I h;obtain⟨v,e1,h⟩:=h;obtain⟨m,hn,hl⟩:=I.loc;have vis:gU X.env.scope x:=by rcases hx with k|k;exact .inl k;exact .inr (.inl k)
 obtain⟨u,r,l⟩:=hl i x v hi e1 vis;refine wpAny_AugAssign_Name ?_;have go:wpAny (model X.prog X.w) X.A (eval e X.env) (λw s₂=>wpAny (model X.prog X.w) X.A (inplaceOp op u w) (λr s₃=>wpAny (model X.prog X.w) X.A (storeName X.env x r) (λ_=>SP X pins D .next) X.xe s₃) X.xe s₂) X.xe s:=by refine aM (he pins s U H _ I h) λw s1 ⟨y,H1,I1,r1,q1⟩=>?_;refine aM (ho pins s1 U H1 v y u w _ I1 r r1 q1) λz s2 ⟨zv,H2,I2,r2,q2⟩=>?_;exact kU I2 hN hi hx r2 (λs3 I3=>⟨_,H2,I3,q2⟩) hf
 rcases l with⟨hk,hm⟩|⟨hk,c,hc,hcell⟩;{exact wpAny_loadName_local I.ok.kind hk hn hm go};rcases hk with hk|hk;{exact wpAny_loadName_cell I.ok.kind hk hc hcell go};rcases hx with k|k;{have:X.env.scope.names.lookup x=some .free:=hk;rw[k]at this;cases this};have:X.env.scope.names.lookup x=some .free:=hk;rw[k]at this;cases this
noncomputable def MY (c:TT)(tb:TS):TS:=λD U H=>∃W:Nat->St->Hp->Prop,(∃m,W m U H)/\∀m U H,W m U H->
 c U H λb H1=>if b=true then ∃N:St->Hp->Prop,(∀σ' H',N σ' H'->∃m',m'<m/\W m' σ' H')/\tb { D with nx:=N,ct:=N,bk:=D.nx } U H1 else D.nx U H1
def Jj{c:Expr}{body:A06}{tc:TT}{tb:TS}(hp:PassesOwn (model X.prog X.w) X.A X.env X.xe)(hc:PT X c tc)(hb:l8 X body tb):PS X (.While c body [] pos) (MY tc tb):=by
 intro pins s U H D I h;obtain⟨W,⟨m0,w0⟩,turn⟩:=h;refine wpAny_While (codeAny_whileLoop (λn s'=>∃σ' H',Inv X pins σ' H' s'/\W n σ' H') ?_ m0 ⟨U,H,I,w0⟩);rintro n s1⟨σ1,H1,I1,w1⟩;refine XT hp (aM (hc pins s1 σ1 H1 _ I1 (turn n σ1 H1 w1)) λb s2 ⟨H2,I2,q2⟩=>?_);cases b with
 |true=>
  obtain⟨N,hN,q2⟩:=q2;rw[if_pos rfl];refine XT hp (aM (hb pins s2 σ1 H2 _ I2 q2) λf s3 q3=>?_);cases f with
  |next=>obtain⟨σ3,H3,I3,n3⟩:=q3;obtain⟨m',hm,w3⟩:=hN σ3 H3 n3;exact⟨m',hm,σ3,H3,I3,w3⟩
  |cont=>obtain⟨σ3,H3,I3,n3⟩:=q3;obtain⟨m',hm,w3⟩:=hN σ3 H3 n3;exact⟨m',hm,σ3,H3,I3,w3⟩
  |brk=>exact q3
  |ret v=>exact q3
 |false=>rw[if_neg VV];exact Y8 ⟨σ1,H2,I2,q2⟩
end
structure It where
 go:Nat->Hp->Prop
 rR:Nat->Hp->V->Hp->Prop
 stop:Nat->Hp->Prop
def ji (X:Cx)(pins:Zs)(H:Hp)(b:Addr):Prop:=
 H b=none/\b≠X.env.locals/\b∉X.fs/\(b∈X.ex\/X.s₀.heap.objs.size<=b)/\(∀x c,X.env.cells.lookup x=some c->c≠b)/\∀p∈X.pn++pins,p.1≠b
def Inv.vK{X:Cx}{pins:Zs}{U:St}{H H':Hp}{s:Shared}{b:Addr}(I:Inv X pins U H s)(hb:s.heap.objs.size<=b)(hn:H' b=none):ji X pins H' b:=by refine⟨hn,Xl (Vv I.lt hb),I.Pf hb,.inr (Vx I.sz hb),λx c e z=>?_,λp hp z=>?_⟩;{obtain⟨v,q⟩:=I.cell x c e;exact absurd (Vv q.lt (by rw[z];exact hb)) (WB _)};exact absurd (Vv (VC (I.pin p hp).1) (by rw[z];exact hb)) (WB _)
structure Turn(P:Program)(w:World)(K:Zx)(tg:Expr)(J:It)(fp:A03)(it:Addr)(tn:Nat->Heap->Prop):Prop where
 mem:it∈fp
 obj:∀i h,tn i h->∀b∈fp,∃o,h.get? b=some o/\∀v,o.data≠.cell v
 keep:∀i h h',tn i h->(∀b∈fp,∀o,h.get? b=some o->h'.get? b=some o)->tn i h'
 item:∀(X:Cx),X.prog=P->X.w=w->X.K=K->X.calm=true->∀(i:Nat)(pins:Zs)(s:Shared)(U:St)(H:Hp)(E:Zp),Inv X pins U H s->(∀b∈fp,ji X pins H b)->tn i s.heap->J.go i H->
  wpAny (model P w) X.A (pyNext (.ref it)) (λr s1=>∃u,r=some u /\
   wpAny (model P w) X.A (letOwnedTupleGo tg (.ref it) u) (λ_ s2=>∃x H',Inv X pins U H' s2/\RelV x u/\J.rR i H x H'/\tn (i+1) s2.heap/\∀b∈fp,H' b=none) E s1) E s
 done:∀(X:Cx),X.prog=P->X.w=w->X.K=K->X.calm=true->∀(i:Nat)(pins:Zs)(s:Shared)(U:St)(H:Hp)(E:Zp),Inv X pins U H s->(∀b∈fp,ji X pins H b)->tn i s.heap->J.stop i H->
  wpAny (model P w) X.A (pyNext (.ref it)) (λr s1=>r=none/\Inv X pins U H s1) E s
 self:∀(A:Around) (i:Nat)(s:Shared)(Q:Zp)(E:Zp),tn i s.heap->Q (.ref it) s->wpAny (model P w) A (pyIter (.ref it)) Q E s
abbrev TI:=St->Hp->(It->Hp->Prop)->Prop
noncomputable def KQ (X:Cx)(pins:Zs)(U:St)(tg:Expr)(R:It->Hp->Prop)(itv:Value)(s2:Shared):Prop:=
 ∃(it:Addr)(fp:A03)(tn:Nat->Heap->Prop)(J:It)(H':Hp),itv=.ref it/\Inv X pins U H' s2/\Turn X.prog X.w X.K tg J fp it tn/\tn 0 s2.heap/\(∀b∈fp,ji X pins H' b)/\R J H'
noncomputable def PI (X:Cx)(tg iter:Expr)(wi:TI):Prop:=
 ∀(pins:Zs)(s:Shared)(U:St)(H:Hp)(R:It->Hp->Prop),Inv X pins U H s->wi U H R->
  wpAny (model X.prog X.w) X.A (eval iter X.env) (λv s1=>wpAny (model X.prog X.w) X.A (pyIter v) (KQ X pins U tg R) X.xe s1) X.xe s
def DQ{M:Model}{A:Around}{E:Zp}{s:Shared}{tg:Expr}{it:Addr}{u:Value}{o:Obj}{n:String}{vs:Zz}{Q:Unit->Shared->Prop}(ho:s.heap.get? it=some o)(hc:o.cls=.type n)(hd:o.data=.fields vs)(hn:["enumerate","zip","dict_itemiterator","dict_reverseitemiterator","odict_iterator","itertools.zip_longest","itertools.pairwise"].contains n=false)(hQ:Q () s):wpAny M A (letOwnedTupleGo tg (.ref it) u) Q E s:=by
 unfold letOwnedTupleGo;cases tg<;>first
  |exact V6 hQ
  | (cases u<;>first
    |exact V6 hQ
    | (refine V0 (wpAny_load ho ?_)
       rw[hc,hd];show wpAny M A (if(["enumerate","zip","dict_itemiterator","dict_reverseitemiterator","odict_iterator","itertools.zip_longest","itertools.pairwise"].contains n&&vs[0]? == some (rawInt _))=true then _ else _) Q E s
       rw[if_neg (by intro h;rw[hn,Bool.false_and]at h;cases h)]
       exact V6 hQ))
def JD (K:Zx)(a:Addr):It:=
 ⟨λi H=>∃xs x,bF K H a xs/\xs[i]?=some x,λi H x H'=>H'=H/\∀xs,bF K H a xs->xs[i]?=some x,λi H=>∃xs,bF K H a xs/\xs.length<=i⟩
def KZ (K:Zx)(a:Addr):It:=
 ⟨λi H=>∃xs x,bO K H a xs/\xs[i]?=some x,λi H x H'=>H'=H/\∀xs,bO K H a xs->xs[i]?=some x,λi H=>∃xs,bO K H a xs/\xs.length<=i⟩
def Gx (lo:Int) (n:Nat):It:=⟨λi _=>i<n,λi H x H'=>H'=H/\x=.int (lo+i),λi _=>n<=i⟩
def ED{P:Program}{w:World}{K:Zx}{tg:Expr}(a it:Addr):Turn P w K tg (JD K a) [it] it (λi h=>h.IsListIter it a i) where
 mem:=by simp
 obj:=λi h st b hb=>by
  have e:b=it:=by simpa using hb
  subst e;obtain⟨o,e,c,d⟩:=st;exact⟨o,e,λv z=>by rw[d]at z;cases z⟩
 keep:=λi h h' st k=>st.at λo e=>k it (by simp) o e
 item:=by
  intro X hP hw hK hc i pins s U H E I hf st hg;subst hP hw hK;obtain⟨xs,x,hq,hx⟩:=hg;obtain⟨its,rv,p,hz⟩:=I.list hq;obtain⟨u,hu,ru⟩:=rv.get hx;obtain⟨f0,f1,f2,f3,f4,f5⟩:=hf it (by simp)
  refine wpAny_pyNext_list_item st p.isList (x:=u) (by simpa using hu) λh' st' sb=>?_
  have I1:Inv X pins U H { s with heap:=h' }:=I.turned (t':=s.toks) (λb o hb e=>(sb.2 b hb).trans e) f0 f1 f3 f4 f5
  obtain⟨o,e,c,d⟩:=id st';exact⟨u,rfl,DQ (s:={ s with heap:=h' }) e c d (by decide) ⟨x,H,I1,ru,⟨rfl,λys hy=>by rw[I.n6 hy hq];exact hx⟩,st',λb hb=>(hf b hb).1⟩⟩
 done:=by
  intro X hP hw hK hc i pins s U H E I hf st hg;subst hP hw hK;obtain⟨xs,hq,hx⟩:=hg;obtain⟨its,rv,p,hz⟩:=I.list hq;obtain⟨f0,f1,f2,f3,f4,f5⟩:=hf it (by simp)
  have hl:=rv.length;exact wpAny_pyNext_list_end (I.ok.hd hc) st p.isList (by simp;lia) λh' eb=>⟨rfl,I.turned (t':=s.toks) (λb o hb e=>eb b o hb e) f0 f1 f3 f4 f5⟩
 self:=λ_ _ _ _ _ st h=>wpAny_pyIter_listiter st h
def CC{P:Program}{w:World}{K:Zx}{tg:Expr}(a it:Addr):Turn P w K tg (KZ K a) [it] it (λi h=>h.IsTupleIter it a i) where
 mem:=by simp
 obj:=λi h st b hb=>by
  have e:b=it:=by simpa using hb
  subst e;obtain⟨o,e,c,d⟩:=st;exact⟨o,e,λv z=>by rw[d]at z;cases z⟩
 keep:=λi h h' st k=>st.at λo e=>k it (by simp) o e
 item:=by
  intro X hP hw hK hc i pins s U H E I hf st hg;subst hP hw hK;obtain⟨xs,x,hq,hx⟩:=hg;obtain⟨its,rv,p,hz⟩:=I.tuple hq;obtain⟨u,hu,ru⟩:=rv.get hx;obtain⟨f0,f1,f2,f3,f4,f5⟩:=hf it (by simp)
  refine wpAny_pyNext_tuple_item st (show s.heap.IsTuple a its.toArray from p) (x:=u) (by simpa using hu) λh' st' sb=>?_
  have I1:Inv X pins U H { s with heap:=h' }:=I.turned (t':=s.toks) (λb o hb e=>(sb.2 b hb).trans e) f0 f1 f3 f4 f5
  obtain⟨o,e,c,d⟩:=id st';exact⟨u,rfl,DQ (s:={ s with heap:=h' }) e c d (by decide) ⟨x,H,I1,ru,⟨rfl,λys hy=>by rw[I.Ep hy hq];exact hx⟩,st',λb hb=>(hf b hb).1⟩⟩
 done:=by
  intro X hP hw hK hc i pins s U H E I hf st hg;subst hP hw hK;obtain⟨xs,hq,hx⟩:=hg;obtain⟨its,rv,p,hz⟩:=I.tuple hq;obtain⟨f0,f1,f2,f3,f4,f5⟩:=hf it (by simp)
  have hl:=rv.length;exact wpAny_pyNext_tuple_end (I.ok.hd hc) st (show s.heap.IsTuple a its.toArray from p) (by simp;lia) λh' eb=>⟨rfl,I.turned (t':=s.toks) (λb o hb e=>eb b o hb e) f0 f1 f3 f4 f5⟩
 self:=λ_ _ _ _ _ st h=>wpAny_pyIter_tupleiter st h
def DK{P:Program}{w:World}{K:Zx}{tg:Expr}(it:Addr) (lo:Int) (n:Nat):Turn P w K tg (Gx lo n) [it] it (λi h=>IsRangeIter h it (lo+(i:Nat)*1) ((n:Int)-(i:Nat)) 1) where
 mem:=by simp
 obj:=λi h st b hb=>by
  have e:b=it:=by simpa using hb
  subst e;exact⟨_,st,λv z=>by
   have z':Data.fields _=Data.cell v:=z;cases z'⟩
 keep:=λi h h' st k=>k it (by simp) _ st
 item:=by
  intro X hP hw hK hc i pins s U H E I hf st hg;subst hP hw hK;obtain⟨f0,f1,f2,f3,f4,f5⟩:=hf it (by simp)
  have W:=Walks.range (prog:=X.prog) (w:=X.w) (I.ok.hd hc) it lo 1 n;refine W.item i s _ _ hg st λv h' tk hv st' kk=>?_
  obtain⟨t,rfl⟩:=hv;have I1:Inv X pins U H { s with heap:=h',toks:=tk }:=I.turned (λb o hb e=>kk b o (by simpa using hb) e) f0 f1 f3 f4 f5
  refine⟨_,rfl,DQ (s:={ s with heap:=h',toks:=tk }) (n:="range_iterator") st' rfl rfl (by decide) ⟨.int (lo+i),H,I1,⟨t,?_⟩,⟨rfl,rfl⟩,st',λb hb=>(hf b hb).1⟩⟩
  rw[Wm]
 done:=by
  intro X hP hw hK hc i pins s U H E I hf st hg;subst hP hw hK;obtain⟨f0,f1,f2,f3,f4,f5⟩:=hf it (by simp)
  exact wpAny_pyNext_range_end (I.ok.hd hc) st (by have:n<=i:=hg;lia) λh' eb=>⟨rfl,I.turned (t':=s.toks) (λb o hb e=>eb b o hb e) f0 f1 f3 f4 f5⟩
 self:=λ_ _ _ _ _ st h=>wpAny_pyIter_rangeiter st h
section
variable{X:Cx}{tg:Expr}
def zf{pins:Zs}{U:St}{H:Hp}{s:Shared}{R:It->Hp->Prop}{E:Zp}{lo hi:Int}{t u v:Tok}{tk:Nat}(I:Inv X pins U H s)(h1:-(2^62)<=lo)(h2:lo<2^62)(h3:-(2^62)<=hi)(h4:hi<2^62)(q:R (Gx lo (hi-lo).toNat) H):wpAny (model X.prog X.w) X.A (pyIter (.ref s.heap.objs.size)) (KQ X pins U tg R) E { s with heap:=s.heap.push { cls:=.type "range",data:=.fields #[.int lo t,.int hi u,.int 1 v] },toks:=tk }:=by
 refine wpAny_pyIter_range (IsRange.new ..) (small_one h1 h2 h3 h4) ?_;have I1:Inv X pins U H { s with heap:=s.heap.push { cls:=.type "range",data:=.fields #[.int lo t,.int hi u,.int 1 v] },toks:=tk }:=I.kept λb o e=>VW _ e;refine⟨(s.heap.push { cls:=.type "range",data:=.fields #[.int lo t,.int hi u,.int 1 v] }).objs.size,[(s.heap.push { cls:=.type "range",data:=.fields #[.int lo t,.int hi u,.int 1 v] }).objs.size],_,_,H,rfl,
  I1.kept (t':=tk) λb o e=>VW _ e,DK _ lo (hi-lo).toNat,?_,λb hb=>?_,q⟩
 .have e1:lo+((0:Nat):Int)*1=lo:=by simp
  have e2:(((hi-lo).toNat:Nat):Int)-((0:Nat):Int)=Builtin.Range.rangeSize lo hi 1:=by rw[rangeSize_one];split<;>lia
  show IsRangeIter _ _ (lo+((0:Nat):Int)*1) ((((hi-lo).toNat:Nat):Int)-((0:Nat):Int)) 1;rw[e1,e2];exact W8 _ rfl
 have e:b=(s.heap.push { cls:=.type "range",data:=.fields #[.int lo t,.int hi u,.int 1 v] }).objs.size:=by simpa using hb
 subst e;exact I1.vK (V5 _) (I1.hok.fresh (V5 _))
inductive GI(R:(It->Hp->Prop))(vs:List V)(H1:Hp):Prop
 |mk:∀j:Int,(vs=[.int j])->(-(2^62)<=j)->(j<2^62)->(R (Gx 0 j.toNat) H1)->GI R vs H1
def QT (ta:TA):TI:=λU H R=>ta U H λvs H1=>GI R vs H1
inductive Fx(R:(It->Hp->Prop))(vs:List V)(H1:Hp):Prop
 |mk:∀i j:Int,(vs=[.int i,.int j])->((-(2^62)<=i/\i<2^62/\-(2^62)<=j/\j<2^62))->(R (Gx i (j-i).toNat) H1)->Fx R vs H1
def Q6 (ta:TA):TI:=λU H R=>ta U H λvs H1=>Fx R vs H1
def Eb{a:Expr}{ta:TA}{p pos:Pos}(hg:Gl X "range")(hm:X.mg "range"=none)(ha:PA X [a] ta)(hs:starEach [a] X.env=[(false,eval a X.env)]:=by rfl):PI X tg (.Call (.Name "range" p) [a] [] pos) (QT ta):=by
 intro pins s U H R I h;refine Call_ (jP I hg hm boot_range (Xm (aM (ha pos pins s U H _ I h) λus s1 ⟨vs,H1,I1,r1,q1⟩=>?_) hs rfl));obtain⟨j,e,q1,q2,q⟩:=q1;subst e;cases r1 with
 |cons r rr=>cases rr;obtain⟨t,rfl⟩:=r;exact call_range_1 (zf I1 (by lia) (by lia) q1 q2 (by simpa using q))
def GB{a b:Expr}{ta:TA}{p pos:Pos}(hg:Gl X "range")(hm:X.mg "range"=none)(ha:PA X [a,b] ta)(hs:starEach [a,b] X.env=[(false,eval a X.env),(false,eval b X.env)]:=by rfl)(hs2:starEach [b] X.env=[(false,eval b X.env)]:=by rfl) : PI X tg (.Call (.Name "range" p) [a,b] [] pos) (Q6 ta):=by
 intro pins s U H R I h;refine Call_ (jP I hg hm boot_range (Xm (aM (ha pos pins s U H _ I h) λus s1 ⟨vs,H1,I1,r1,q1⟩=>?_) (by rw[hs,hs2]) (by rw[hs2];rfl)));obtain⟨i,j,e,⟨q1,q2,q3,q4⟩,q⟩:=q1;subst e;cases r1 with
 |cons r rr=>
  cases rr with
  |cons r' rr=>cases rr;obtain⟨t,rfl⟩:=r;obtain⟨t',rfl⟩:=r';exact call_range_2 (zf I1 q1 q2 q3 q4 q)
noncomputable def Uv (wi:TI)(g:TG)(tb:TS):TS:=λD U H=>wi U H λJ H1=>∃W:Nat->Nat->St->Hp->Prop,(∃m,W 0 m U H1)/\∀i m U H,W i m U H->
 (J.stop i H/\D.nx U H)\/(J.go i H/\∃N:St->Hp->Prop,(∀σ' H',N σ' H'->∃m',m'<m/\W (i+1) m' σ' H')/\∀x H',J.rR i H x H'->g x U H' λσ2 H2=>tb { D with nx:=N,ct:=N,bk:=D.nx } σ2 H2)
def lC (fp:A03)(h:Heap):Zs:=fp.filterMap λb=>(h.get? b).map λo=>(b,o)
def kE{fp:A03}{h:Heap}{b:Addr}{o:Obj}(hb:b∈fp)(e:h.get? b=some o):(b,o)∈lC fp h:=ZH.mpr ⟨b,hb,by rw[e];rfl⟩
def wI{fp:A03}{h:Heap}{p:Addr×Obj}(hp:p∈lC fp h):p.1∈fp/\h.get? p.1=some p.2:=by
 obtain⟨b,hb,e⟩:=ZH.mp hp;cases q:h.get? b with
 |none=>rw[q]at e;cases e
 |some o=>rw[q]at e;have e':(b,o)=p:=Option.some.inj e;subst e';exact⟨hb,q⟩
def Inv.pinned{pins:Zs}{U:St}{H:Hp}{s:Shared}{fp:A03}(I:Inv X pins U H s)(hf:∀b∈fp,ji X pins H b)(ho:∀b∈fp,∃o,s.heap.get? b=some o/\∀v,o.data≠.cell v):Inv X (pins++lC fp s.heap) U H s:=
 I.nA λp hp=>(VS.mp hp).elim (λz=>I.pin p (WN _ z)) λz=>by obtain⟨hb,e⟩:=wI z;obtain⟨f0,f1,f2,_⟩:=hf p.1 hb;obtain⟨o,e',d⟩:=ho p.1 hb;rw[e]at e';cases e';exact⟨e,f0,f1,f2,d⟩
def Inv.sP{pins pl:Zs}{U:St}{H:Hp}{s:Shared}(I:Inv X (pins++pl) U H s):Inv X pins U H s:=I.nA λp hp=>I.pin p (WN _ (ZG _ hp))
def Qp{iter:Expr}{body:A06}{wi:TI}{g:TG}{tb:TS}{pos:Pos}(hp:PassesOwn (model X.prog X.w) X.A X.env X.xe)(hc:X.calm=true)(hi:PI X tg iter wi)(hg:PG X tg g)(hb:l8 X body tb)(hs:∀x,foldedSetIterable iter X.env x=pure x:=by intro _;rfl):PS X (.For tg iter body [] pos) (Uv wi g tb):=by
 intro pins s U H D I h;refine wpAny_For (aM (hi pins s U H _ I h) λv s1 h1=>aM h1 λitv s2 h2=>?_) hs
 obtain⟨it,fp,tn,J,H2,e,I2,T,st2,f2,W,⟨m0,w0⟩,turn⟩:=h2;subst e
 -- what stays true of the iterator's objects through the loop
 have stat:∀{H':Hp},(∀b∈fp,H' b=none)->∀b∈fp,ji X pins H' b:=λhn b hb=>⟨hn b hb,(f2 b hb).2⟩
 refine codeAny_forLoop_any (λn s'=>∃i σ' H',Inv X pins σ' H' s'/\tn i s'.heap/\(∀b∈fp,H' b=none)/\W i n σ' H') ?_ m0 ⟨0,U,H2,I2,st2,λb hb=>(f2 b hb).1,w0⟩
 rintro n s3⟨i,σ3,H3,I3,st3,fr3,w3⟩;rcases turn i n σ3 H3 w3 with⟨stop,qn⟩|⟨go,N,hN,step⟩
 .refine XT hp (aM (T.done X rfl rfl rfl hc i pins s3 σ3 H3 X.xe I3 (stat fr3) st3 stop) λr s4 ⟨hr,I4⟩=>?_)
  subst hr;exact Y8 ⟨σ3,H3,I4,qn⟩
 .refine XT hp (aM (T.item X rfl rfl rfl hc i pins s3 σ3 H3 X.xe I3 (stat fr3) st3 go) λr s4 ⟨u,hr,h4⟩=>?_)
  subst hr;refine XT hp (aM h4 λ_ s5 ⟨x,H5,I5,r5,y5,st5,fr5⟩=>?_)
  have I5':=I5.pinned (stat fr5) (T.obj _ _ st5);refine XT hp (aM (hg _ s5 σ3 H5 x u _ I5' r5 (step x H5 y5)) λ_ s6 ⟨σ6,H6,I6,q6⟩=>?_)
  refine XT hp (aM (hb _ s6 σ6 H6 _ I6 q6) λf s7 q7=>?_)
  have again:∀{σ7:St}{H7:Hp},Inv X (pins++lC fp s5.heap) σ7 H7 s7->N σ7 H7->∃m,m<n/\∃i σ' H',Inv X pins σ' H' s7/\tn i s7.heap/\(∀b∈fp,H' b=none)/\W i m σ' H':=λ{σ7 H7} I7 n7=>by
   obtain⟨m',hm,w7⟩:=hN σ7 H7 n7;refine⟨m',hm,i+1,σ7,H7,I7.sP,T.keep _ _ _ st5 λb hb o e=>(I7.pin (b,o) (WN _ (WN _ (kE hb e)))).1,λb hb=>?_,w7⟩
   obtain⟨o,e,d⟩:=T.obj _ _ st5 b hb;exact(I7.pin (b,o) (WN _ (WN _ (kE hb e)))).2.1
  cases f with
  |next=>obtain⟨σ7,H7,I7,n7⟩:=q7;exact again I7 n7
  |cont=>obtain⟨σ7,H7,I7,n7⟩:=q7;exact again I7 n7
  |brk=>obtain⟨σ7,H7,I7,q7⟩:=q7;exact⟨σ7,H7,I7.sP,q7⟩
  |ret v=>obtain⟨x7,σ7,H7,I7,r7,q7⟩:=q7;exact⟨x7,σ7,H7,I7.sP,r7,q7⟩
end
abbrev R2:=V->V->Hp->VK->Prop
noncomputable def bN (X:Cx)(f:Value->Value->Sem Value)(r:R2):Prop:=
 ∀(pins:Zs)(s:Shared)(U:St)(H:Hp) (x y:V)(v u:Value)(Q:VK),Inv X pins U H s->RelV x v->RelV y u->r x y H Q->
  wpAny (model X.prog X.w) X.A (f v u) (EP X pins U Q) X.xe s
noncomputable def JR (X:Cx)(f:Value->Sem Value)(r:V->Hp->VK->Prop):Prop:=
 ∀(pins:Zs)(s:Shared)(U:St)(H:Hp) (x:V)(v:Value)(Q:VK),Inv X pins U H s->RelV x v->r x H Q->
  wpAny (model X.prog X.w) X.A (f v) (EP X pins U Q) X.xe s
noncomputable def b5 (X:Cx)(f:Value)(r:List V->Hp->VK->Prop):Prop:=
 ∀(pins:Zs)(s:Shared)(U:St)(H:Hp)(xs:List V)(us:A02)(Q:VK),Inv X pins U H s->Vals xs us->r xs H Q->
  wpAny (model X.prog X.w) X.A (call f us) (EP X pins U Q) X.xe s
noncomputable def Ud (X:Cx)(r:V->Hp->(Bool->Hp->Prop)->Prop):Prop:=
 ∀(pins:Zs)(s:Shared)(U:St)(H:Hp) (x:V)(v:Value)(Q:Bool->Hp->Prop),Inv X pins U H s->RelV x v->r x H Q->
  wpAny (model X.prog X.w) X.A (truthy v) (TP X pins U Q) X.xe s
def OU (r:R2)(ta tb:TE):TE:=λU H Q=>ta U H λx H1=>tb U H1 λy H2=>r x y H2 Q
def Ve (r:V->Hp->VK->Prop)(ta:TE):TE:=λU H Q=>ta U H λx H1=>r x H1 Q
inductive S6(C:Int->Int->Prop)(g:Int->Int->V) (x:V) (y:V)(H:Hp)(Q:VK):Prop
 |mk:∀i j,(x=.int i)->(y=.int j)->(C i j)->(Q (g i j) H)->S6 C g x y H Q
def rI (C:Int->Int->Prop)(g:Int->Int->V):R2:=λx y H Q=>S6 C g x y H Q
inductive OX(g:Int->Int->V) (x:V) (y:V)(H:Hp)(Q:VK):Prop
 |mk:∀i j,(x=.int i)->(y=.int j)->(Q (g i j) H)->OX g x y H Q
def pO (g:Int->Int->V):R2:=λx y H Q=>OX g x y H Q
inductive Tp(g:Int->V) (x:V)(H:Hp)(Q:VK):Prop
 |mk:∀i,(x=.int i)->(Q (g i) H)->Tp g x H Q
def rU (g:Int->V):V->Hp->VK->Prop:=λx H Q=>Tp g x H Q
section
variable{X:Cx}{a b c:Expr}{ta tb tc:TE}{pos:Pos}
def HN(ha:PE X a ta)(hb:PE X b tb){pins:Zs}{s:Shared}{U:St}{H:Hp}{R:V->V->Hp->Prop}(I:Inv X pins U H s)(h:ta U H λx H1=>tb U H1 λy H2=>R x y H2){Q:Zp}{f:Value->Value->Sem Value}(hf:∀v u s2 x y H2,Inv X pins U H2 s2->RelV x v->RelV y u->R x y H2->wpAny (model X.prog X.w) X.A (f v u) Q X.xe s2) : wpAny (model X.prog X.w) X.A (eval a X.env) (λv s₁=>wpAny (model X.prog X.w) X.A (eval b X.env) (λu s₂=>wpAny (model X.prog X.w) X.A (f v u) Q X.xe s₂) X.xe s₁) X.xe s:=by refine aM (ha pins s U H _ I h) λv s1 ⟨x,H1,I1,r1,q1⟩=>?_;refine aM (hb pins s1 U H1 _ I1 q1) λu s2 ⟨y,H2,I2,r2,q2⟩=>?_;exact hf v u s2 x y H2 I2 r1 r2 q2
def R8{op:Operator}{r:R2}(ho:bN X (binaryOp op) r)(ha:PE X a ta)(hb:PE X b tb):PE X (.BinOp a op b pos) (OU r ta tb):=by intro pins s U H Q I h;exact wpAny_BinOp (HN ha hb I h λv u s2 x y H2 I2 rx ry q=>ho pins s2 U H2 x y v u Q I2 rx ry q)
def RB{op:UnaryOp}{r:V->Hp->VK->Prop}(ho:JR X (unaryOp op) r)(ha:PE X a ta):PE X (.UnaryOp op a pos) (Ve r ta):=by intro pins s U H Q I h;exact UnaryOp_ (aM (ha pins s U H _ I h) λv s1 ⟨x,H1,I1,r1,q1⟩=>ho pins s1 U H1 x v Q I1 r1 q1)
def Cc{f:Value->Value->Sem Value}{C:Int->Int->Prop}{g:Int->Int->Int}(rule:∀(i j:Int)(t u:Tok)(s:Shared)(Q:Zp)(E:Zp),C i j->Q (.int (g i j) s.toks) { s with toks:=s.toks+1 }->wpAny (model X.prog X.w) X.A (f (.int i t) (.int j u)) Q E s) : bN X f (rI C λi j=>.int (g i j)):=by intro pins s U H x y v u Q I rx ry h;obtain⟨i,j,rfl,rfl,hc,q⟩:=h;obtain⟨t,rfl⟩:=rx;obtain⟨t',rfl⟩:=ry;exact rule i j t t' s _ _ hc ⟨.int (g i j),H,I.tok _,⟨_,rfl⟩,q⟩
def MV{f:Value->Value->Sem Value}{g:Int->Int->Int}(rule:∀(i j:Int)(t u:Tok)(s:Shared)(Q:Zp)(E:Zp),Q (.int (g i j) s.toks) { s with toks:=s.toks+1 }->wpAny (model X.prog X.w) X.A (f (.int i t) (.int j u)) Q E s) : bN X f (pO λi j=>.int (g i j)):=by intro pins s U H x y v u Q I rx ry h;obtain⟨i,j,rfl,rfl,q⟩:=h;obtain⟨t,rfl⟩:=rx;obtain⟨t',rfl⟩:=ry;exact rule i j t t' s _ _ ⟨.int (g i j),H,I.tok _,⟨_,rfl⟩,q⟩
def CI{f:Value->Value->Sem Value}{g:Zu}(rule:∀(i j:Int)(t u:Tok)(s:Shared)(Q:Zp)(E:Zp),Q (.bool (g i j)) s->wpAny (model X.prog X.w) X.A (f (.int i t) (.int j u)) Q E s) : bN X f (pO λi j=>.bl (g i j)):=by intro pins s U H x y v u Q I rx ry h;obtain⟨i,j,rfl,rfl,q⟩:=h;obtain⟨t,rfl⟩:=rx;obtain⟨t',rfl⟩:=ry;exact rule i j t t' s _ _ ⟨.bl (g i j),H,I,rfl,q⟩
def yU (i j:Int):Prop:=0<=j/\j<=1000000/\i.natAbs<2^64
def vI (i j:Int):Prop:=(-(2^64)<i/\i<2^64)\/(-(2^64)<j/\j<2^64)
def vI.ok{i j:Int}(h:vI i j):IntMulOk i j:=by rcases h with⟨h1,h2⟩|⟨h1,h2⟩;{exact .of_left (intBits_le_64 h1 h2)};exact .of_right (intBits_le_64 h1 h2)
def Oi:bN X (binaryOp .Add) (pO λi j=>.int (i+j)):=MV λ_ _ _ _ _ _ _ q=>add_int q
def NZ:bN X (binaryOp .Sub) (pO λi j=>.int (i-j)):=MV λ_ _ _ _ _ _ _ q=>sub_int q
def QE:bN X (binaryOp .Mult) (rI vI λi j=>.int (i*j)):=Cc λ_ _ _ _ _ _ _ hc q=>mul_int q hc.ok
def OV:bN X (binaryOp .Mod) (rI (λ_ j=>0<j) λi j=>.int (i%j)):=Cc λi j _ _ _ _ _ hc q=>by have h1:(0:Int)<j:=hc;exact mod_int' (by lia) (by rw[Int.fmod_eq_emod_of_nonneg i (by lia)];exact q)
def Qz:bN X (binaryOp .Pow) (rI yU λi j=>.int (i^j.toNat)):=Cc λ_ _ _ _ _ _ _ hc q=>pow_int_small hc.1 hc.2.1 hc.2.2 q
def U3{f:Value->Sem Value}{g:Int->Int}(rule:∀(i:Int)(t:Tok)(s:Shared)(Q:Zp)(E:Zp),Q (.int (g i) s.toks) { s with toks:=s.toks+1 }->wpAny (model X.prog X.w) X.A (f (.int i t)) Q E s) : JR X f (rU λi=>.int (g i)):=by intro pins s U H x v Q I rx h;obtain⟨i,rfl,q⟩:=h;obtain⟨t,rfl⟩:=rx;exact rule i t s _ _ ⟨.int (g i),H,I.tok _,⟨_,rfl⟩,q⟩
def PZ:JR X (unaryOp .USub) (rU λi=>.int (-i)):=U3 λ_ _ _ _ _ q=>neg_int q
end
noncomputable def IW:V->V->Bool
 |.aU,.aU=>true | .aU,.int _=>true | .int _,.aU=>true | .aU,.bl _=>true | .bl _,.aU=>true | .aU,.str _=>true | .str _,.aU=>true
 |.int _,.int _=>true | .bl _,.bl _=>true | .str _,.str _=>true | .m8 _,.m8 _=>true
 |.int _,.str _=>true | .str _,.int _=>true | .bl _,.str _=>true | .str _,.bl _=>true
 |_,_=>false
def SK:R2:=λx y H Q=>IW x y=true/\Q (.bl (decide (x=y))) H
def S7:R2:=λx y H Q=>IW x y=true/\Q (.bl (!decide (x=y))) H
def Ce{i j:Int}:decide (V.int i=V.int j)=(i==j):=by rw[Wq];simp
def Ey{i j:Bool}:decide (V.bl i=V.bl j)=(i==j):=by rw[Wq];simp
def BY{i j:Str}:decide (V.str i=V.str j)=(i==j):=by rw[Wq];simp
def AX{i j:Array UInt8}:decide (V.m8 i=V.m8 j)=(i.toList==j.toList):=by rw[Wq];cases i;cases j;simp
section
variable{X:Cx}{a b c:Expr}{ta tb tc:TE}{pos:Pos}
def bx{pins:Zs}{U:St}{H:Hp}{s:Shared}{Q:VK}{k k':Bool}(I:Inv X pins U H s)(q:Q (.bl k) H)(e:k=k'):EP X pins U Q (.bool k') s:=by subst e;exact⟨.bl k,H,I,rfl,q⟩
def Q5:bN X (compareOp .Eq) SK:=by
 intro pins s U H x y v u Q I rx ry h;obtain⟨hs,q⟩:=h;cases x with
 |aU=>
  cases rx;cases y with
  |aU=>cases ry;exact PySem.EqNone.eq_none_none (bx I q (by simp))
  |bl j=>cases ry;exact PySem.EqNone.eq_none_bool (bx I q (by simp))
  |int j=>obtain⟨t',rfl⟩:=ry;exact PySem.EqNone.eq_none_int (bx I q (by simp))
  |str j=>obtain⟨t',rfl⟩:=ry;exact PySem.EqNone.eq_none_str (bx I q (by simp))
  |_=>exact absurd (show false=true from hs) VV
 |bl i=>
  cases rx;cases y with
  |aU=>cases ry;exact PySem.EqNone.eq_bool_none (bx I q (by simp))
  |bl j=>cases ry;exact eq_bool (bx I q Ey)
  |str j=>obtain⟨t',rfl⟩:=ry;exact PySem.EqMixed.eq_bool_str (bx I q (by simp))
  |_=>exact absurd (show false=true from hs) VV
 |int i=>
  obtain⟨t,rfl⟩:=rx;cases y with
  |aU=>cases ry;exact PySem.EqNone.eq_int_none (bx I q (by simp))
  |int j=>obtain⟨t',rfl⟩:=ry;exact eq_int (bx I q Ce)
  |str j=>obtain⟨t',rfl⟩:=ry;exact PySem.EqMixed.eq_int_str (bx I q (by simp))
  |_=>exact absurd (show false=true from hs) VV
 |str i=>
  obtain⟨t,rfl⟩:=rx;cases y with
  |aU=>cases ry;exact PySem.EqNone.eq_str_none (bx I q (by simp))
  |bl j=>cases ry;exact PySem.EqMixed.eq_str_bool (bx I q (by simp))
  |int j=>obtain⟨t',rfl⟩:=ry;exact PySem.EqMixed.eq_str_int (bx I q (by simp))
  |str j=>obtain⟨t',rfl⟩:=ry;exact eq_str (bx I q BY)
  |_=>exact absurd (show false=true from hs) VV
 |m8 i=>
  obtain⟨t,rfl⟩:=rx;cases y with
  |m8 j=>obtain⟨t',rfl⟩:=ry;exact PySem.W.eq_bytes (bx I q AX)
  |_=>exact absurd (show false=true from hs) VV
 |_=>cases y<;>exact absurd (show false=true from hs) VV
def Rq:bN X (compareOp .NotEq) S7:=by
 intro pins s U H x y v u Q I rx ry h;obtain⟨hs,q⟩:=h;cases x with
 |aU=>
  cases rx;cases y with
  |aU=>cases ry;exact PySem.EqNone.ne_none_none (bx I q (by simp))
  |bl j=>cases ry;exact PySem.EqNone.ne_none_bool (bx I q (by simp))
  |int j=>obtain⟨t',rfl⟩:=ry;exact PySem.EqNone.ne_none_int (bx I q (by simp))
  |str j=>obtain⟨t',rfl⟩:=ry;exact PySem.EqNone.ne_none_str (bx I q (by simp))
  |_=>exact absurd (show false=true from hs) VV
 |bl i=>
  cases rx;cases y with
  |aU=>cases ry;exact PySem.EqNone.ne_bool_none (bx I q (by simp))
  |bl j=>cases ry;exact ne_bool (bx I q (congrArg not Ey))
  |str j=>obtain⟨t',rfl⟩:=ry;exact PySem.EqMixed.ne_bool_str (bx I q (by simp))
  |_=>exact absurd (show false=true from hs) VV
 |int i=>
  obtain⟨t,rfl⟩:=rx;cases y with
  |aU=>cases ry;exact PySem.EqNone.ne_int_none (bx I q (by simp))
  |int j=>obtain⟨t',rfl⟩:=ry;exact ne_int (bx I q (congrArg not Ce))
  |str j=>obtain⟨t',rfl⟩:=ry;exact PySem.EqMixed.ne_int_str (bx I q (by simp))
  |_=>exact absurd (show false=true from hs) VV
 |str i=>
  obtain⟨t,rfl⟩:=rx;cases y with
  |aU=>cases ry;exact PySem.EqNone.ne_str_none (bx I q (by simp))
  |bl j=>cases ry;exact PySem.EqMixed.ne_str_bool (bx I q (by simp))
  |int j=>obtain⟨t',rfl⟩:=ry;exact PySem.EqMixed.ne_str_int (bx I q (by simp))
  |str j=>obtain⟨t',rfl⟩:=ry;exact ne_str (bx I q (congrArg not BY))
  |_=>exact absurd (show false=true from hs) VV
 |m8 i=>
  obtain⟨t,rfl⟩:=rx;cases y with
  |m8 j=>obtain⟨t',rfl⟩:=ry;exact PySem.W.ne_bytes (bx I q (congrArg not AX))
  |_=>exact absurd (show false=true from hs) VV
 |_=>cases y<;>exact absurd (show false=true from hs) VV
def CV:bN X (compareOp .Lt) (pO λi j=>.bl (decide (i<j))):=CI λ_ _ _ _ _ _ _ q=>lt_int q
def RM:bN X (compareOp .LtE) (pO λi j=>.bl (decide (i<=j))):=CI λ_ _ _ _ _ _ _ q=>le_int q
def RV:bN X (compareOp .Gt) (pO λi j=>.bl (decide (j<i))):=CI λ_ _ _ _ _ _ _ q=>gt_int q
def Rf:bN X (compareOp .GtE) (pO λi j=>.bl (decide (j<=i))):=CI λ_ _ _ _ _ _ _ q=>ge_int q
def Nb:bN X (compareOp .Is) (λx y H Q=>y=.aU/\Q (.bl (decide (x=.aU))) H):=by
 intro pins s U H x y v u Q I rx ry h;obtain⟨rfl,q⟩:=h;cases ry;refine is_none_gen (bx I q ?_);cases x<;>first
  | (cases rx;rfl)
  | (obtain⟨t,rfl⟩:=rx;rfl)
def bN.or{f:Value->Value->Sem Value}{r r':R2}(h:bN X f r)(h':bN X f r'):bN X f (λx y H Q=>r x y H Q\/r' x y H Q):=by intro pins s U H x y v u Q I rx ry q;rcases q with q|q;{exact h pins s U H x y v u Q I rx ry q};exact h' pins s U H x y v u Q I rx ry q
def gY(b:Expr){op:CmpOp}(h:op≠.In:=by decide)(h2:op≠.NotIn:=by decide):behindInMarks op b=false:=by
 have e1:(op==CmpOp.In)=false:=by cases op<;>first|rfl|exact absurd rfl h
 have e2:(op==CmpOp.NotIn)=false:=by cases op<;>first|rfl|exact absurd rfl h2
 cases b<;>simp[behindInMarks,e1,e2]
def Lw{op:CmpOp}{r:R2}(ho:bN X (compareOp op) r)(ha:PE X a ta)(hb:PE X b tb)(hm:behindInMarks op b=false):PE X (.Compare a [op] [b] pos) (OU r ta tb):=by intro pins s U H Q I h;exact wpAny_Compare1 (HN ha hb I h λv u s2 x y H2 I2 rx ry q=>ho pins s2 U H2 x y v u Q I2 rx ry q) hm
inductive Gu(Q:(Bool->Hp->Prop)) (x:V)(H':Hp):Prop
 |mk:∀k,(x=.bl k)->(Q k H')->Gu Q x H'
def Se (t:TE):TT:=λU H Q=>t U H λx H'=>Gu Q x H'
def Nv (r r':R2)(ta tb tc:TE):TE:=λU H Q=>ta U H λx H1=>tb U H1 λy H2=>r x y H2 λz H3=>∃k,z=.bl k /\
 (if k=true then tc U H3 λw' H4=>r' y w' H4 Q else Q (.bl false) H3)
def I0{op op':CmpOp}{r r':R2}(ho:bN X (compareOp op) r)(ho':bN X (compareOp op') r')(ha:PE X a ta)(hb:PE X b tb)(hc:PE X c tc)(hm:lastMarks [op,op'] [b,c]=false:=by with_unfolding_all rfl):PT X (.Compare a [op,op'] [b,c] pos) (Se (Nv r r' ta tb tc)):=by
 intro pins s U H Q I h;refine isTrue_chain (aM (ha pins s U H _ I h) λv s1 ⟨x,H1,I1,r1,q1⟩=>test_link (aM (hb pins s1 U H1 _ I1 q1) λu s2 ⟨y,H2,I2,r2,q2⟩=>
  aM (ho pins s2 U H2 x y v u _ I2 r1 r2 q2) λd s3 ⟨z,H3,I3,r3,k,e,q3⟩=>?_)) hm
 subst e;cases r3;refine XS ?_;cases k with
 |false=>obtain⟨k',e',q'⟩:=q3;cases e';exact ite_ff ⟨H3,I3,q'⟩
 |true=>refine ite_tt (test_last (aM (hc pins s3 U H3 _ I3 q3) λw' s4 ⟨z',H4,I4,r4,q4⟩=>aM (ho' pins s4 U H4 y z' u w' _ I4 r2 r4 q4) λd' s5 ⟨z2,H5,I5,r5,k2,e2,q5⟩=>?_));subst e2;cases r5;exact XS ⟨H5,I5,q5⟩
noncomputable def sV (K:Zx) (x:V)(H:Hp)(k:Bool):Prop:=
 match x with
 |.aU=>k=false
 |.bl b=>k=b
 |.int i=>k=(i != 0)
 |.str y=>y.length<=sizeLine/\k=((y.length:Int) != 0)
 |.m8 y=>y.size<=sizeLine/\k=((y.size:Int) != 0)
 |.ref p=>(∃xs,bF K H p xs/\k=!xs.isEmpty)\/(∃xs,bO K H p xs/\k=!xs.isEmpty)\/∃kvs,H p=some (.dK kvs)/\k=!kvs.isEmpty
 |_=>False
def DJ{κ:Type}{kvs:List (κ×V)}{vs:List (κ×Value)}(r:KV kvs vs):(!vs.isEmpty)=!kvs.isEmpty:=by cases r<;>rfl
def uL{xs:List V}{its:A02}(r:Vals xs its):(!its.toArray.isEmpty)=!xs.isEmpty:=by cases r<;>simp
def nP:(sizeLine:Nat)<2^63:=by rw[sizeLine_eq];decide
def yg:Ud X (λx H Q=>∃k,sV X.K x H k/\Q k H):=by
 intro pins s U H x v Q I rx h;obtain⟨k,e,q⟩:=h;have hl:=nP;have hs:sizeLine=16777216:=sizeLine_eq;cases x with
 |aU=>cases rx;have e':k=false:=e;subst e';exact truthy_none ⟨H,I,q⟩
 |bl b=>cases rx;have e':k=b:=e;subst e';exact XS ⟨H,I,q⟩
 |int i=>obtain⟨t,rfl⟩:=rx;have e':k=(i != 0):=e;subst e';exact PySem.P.truthy_int ⟨H,I,q⟩
 |str y=>obtain⟨t,rfl⟩:=rx;obtain⟨hy,e'⟩:y.length<=sizeLine/\k=((y.length:Int) != 0):=e;subst e';exact PySem.P.truthy_str (by lia) ⟨H,I.tok _,q⟩
 |m8 y=>obtain⟨t,rfl⟩:=rx;obtain⟨hy,e'⟩:y.size<=sizeLine/\k=((y.size:Int) != 0):=e;subst e';exact PySem.W.truthy_bytes (by lia) ⟨H,I.tok _,q⟩
 |ref p=>cases rx;have e':(∃xs,bF X.K H p xs/\k=!xs.isEmpty)\/(∃xs,bO X.K H p xs/\k=!xs.isEmpty)\/∃kvs,H p=some (.dK kvs)/\k=!kvs.isEmpty:=e;rcases e' with⟨xs,hx,e'⟩|⟨xs,hx,e'⟩|⟨kvs,hx,e'⟩;{subst e';obtain⟨its,r,pl,hz⟩:=I.list hx;have hlen:=r.length;exact wpAny_truthy_list pl.isList (by simp only[VM];lia) ⟨H,I.tok _,by rw[uL r];exact q⟩};{subst e';obtain⟨its,r,pl,hz⟩:=I.tuple hx;have hlen:=r.length;exact truthy_tuple pl (by simp only[VM];lia) ⟨H,I.tok _,by rw[uL r];exact q⟩};subst e';obtain⟨hz,hS,vs,r,m⟩:kvs.length<=sizeLine/\(p==sysModules)=false/\∃vs,KV kvs vs/\s.heap.DictOf (dB X.prog X.w) p vs:=I.hok p _ hx;have hlen:kvs.length=vs.length:=Paired.length r;exact wpAny_truthy_dict hS m (by lia) ⟨H,I.tok _,by rw[DJ r];exact q⟩
 |_=>exact(show False from e).elim
def yS(ha:PE X a ta)(he:∀whole,isTrue a X.env whole=(do let v <-whole;standAt a.pos;holding [v] (truthy v))) :
  PT X a (λU H Q=>ta U H λx H'=>∃k,sV X.K x H' k/\Q k H'):=by
 intro pins s U H Q I h;exact isTrue_plain (aM (ha pins s U H _ I h) λv s1 ⟨x,H1,I1,r1,q1⟩=>yg pins s1 U H1 x v Q I1 r1 q1) (he _)
def D7:bN X (binaryOp .Add) (λx y H Q=>∃i j,x=.str i/\y=.str j/\i.length+j.length<=sizeLine/\Q (.str (i++j)) H):=by intro pins s U H x y v u Q I rx ry h;obtain⟨i,j,rfl,rfl,hz,q⟩:=h;obtain⟨t,rfl⟩:=rx;obtain⟨t',rfl⟩:=ry;exact add_str (λt' tk=>⟨.str (i++j),H,I.tok _,⟨_,rfl⟩,q⟩) hz
def vals1{x:V}{us:A02}(r:Vals [x] us):∃u,us=[u]/\RelV x u:=by
 cases r with
 |cons r1 r2=>cases r2;exact⟨_,rfl,r1⟩
def vals2{x y:V}{us:A02}(r:Vals [x,y] us):∃u w',us=[u,w']/\RelV x u/\RelV y w':=by
 cases r with
 |cons r1 r2=>
  cases r2 with
  |cons r3 r4=>cases r4;exact⟨_,_,rfl,r1,r3⟩
def HE(hc:X.calm=true):b5 X (.builtin "min") (λxs H Q=>∃i j,xs=[.int i,.int j]/\Q (.int (if j<i then j else i)) H):=by intro pins s U H xs us Q I r h;obtain⟨i,j,rfl,q⟩:=h;obtain⟨u,w',rfl,⟨t,rfl⟩,⟨t',rfl⟩⟩:=vals2 r;refine min_two_ints (I.ok.hd hc) λh' tk k=>⟨_,H,I.kept k,?_,q⟩;by_cases hj:j<i;{rw[if_pos hj,if_pos hj];exact⟨_,rfl⟩};rw[if_neg hj,if_neg hj];exact⟨_,rfl⟩
def Eg:b5 X (.type "int") (λxs H Q=>(∃i,xs=[.int i]/\Q (.int i) H)\/∃k,xs=[.bl k]/\Q (.int (if k then 1 else 0)) H):=by intro pins s U H xs us Q I r h;rcases h with⟨i,rfl,q⟩|⟨k,rfl,q⟩;{obtain⟨u,rfl,t,rfl⟩:=vals1 r;exact call_int_int ⟨.int i,H,I,⟨_,rfl⟩,q⟩};obtain⟨u,rfl,r1⟩:=vals1 r;cases r1;exact call_int_bool ⟨.int (if k then 1 else 0),H,I.tok _,⟨_,rfl⟩,q⟩
end
structure Ia(h:Heap)(x dx C:Addr)(mA:Zr):Prop where
 obj:h.get? x=some (PySem.W.instObj C dx)
 ns:h.Ns1 dx mA
 ne:dx≠x
def wF{h:Heap}{dx:Addr}{mA:Zr}(n:h.Ns1 dx mA):∃od,h.get? dx=some od/\∀name,PySem.W.lookIn name od=some (mA name):=by
 obtain⟨o,es,ep,ho,hd,hk,_,hm⟩:=n;refine⟨o,ho,λname=>?_⟩;have e:=hm name;unfold nsFind findBy at e;rw[<-ZI]at e;unfold PySem.W.lookIn;rw[hd];dsimp only;split;{rename_i y q;rw[q]at e;exact congrArg some e};rename_i q;rw[q]at e;have a:es.toList.any (·.refKey)=false:=by rw[List.any_eq_false];intro y hy;obtain⟨z,t,hkey⟩:=hk y (Array.mem_toList_iff.mp hy);simp[DictEntry.refKey,hkey]
 have a':¬es.toList.any (·.refKey)=true:=by rw[a];exact VV
 rw[if_neg a'];exact congrArg some e
def Ia.look{h:Heap}{x dx C:Addr}{mA:Zr}(I:Ia h x dx C mA):∃od,PySem.W.InstAt h x (PySem.W.instObj C dx) C (some od)/\∀name,PySem.W.lookIn name od=some (mA name):=
 let⟨od,ho,hl⟩:=wF I.ns
 ⟨od,⟨I.obj,rfl,rfl,ho⟩,hl⟩
def jq.some_of{v:V}{o:Zy}(r:jq (some v) o):∃u,o=some u/\RelV v u:=by
 cases o with
 |none=>exact(show False from r).elim
 |some u=>exact⟨u,rfl,r⟩
section
variable{P:Program}{w:World}{H H':Hp}{h h':Heap}{a C dx:Addr}{fs fs':List (Str×V)}
def Me(hok:dH P w H h)(e:H a=some (.ins C dx fs)):∃mA,Ia h a dx C mA/\(∀f,jq (fs.lookup f) (mA f))/\PySem.Within mA (fs.map (·.1))/\fs.length<=1000/\H dx=some (.own a):=by obtain⟨d,z,ne,ob,mA,n,r,q⟩:=(show bE P w H h a (.ins C dx fs)from hok a _ e);exact⟨mA,⟨ob,n,ne⟩,r,q,z,d⟩
end
structure Qk(K:Zx)(C:Addr):Prop where
 pg:PySem.W.plainGet K C Str.empty=true
 hd:PySem.W.hasDictIn K C=true
 po:PySem.W.plainOver K C=true
 sa:PySem.W.findIn K (.ref C) "__setattr__"=some (some (.builtin "object.__setattr__"))
def Qk.get{K:Zx}{C:Addr}(c:Qk K C) (f:Str):PySem.W.plainGet K C f=true:=c.pg
section
variable{X:Cx}{pins:Zs}{U:St}{H:Hp}{s:Shared}{A:Around}{E:Zp}{Q:Zp}{c:Value}{b:Bool}
inductive fG(K:Zx)(H:Hp):V->Value->Prop where
 |aU:fG K H .aU (.type "NoneType")
 |bl (x:Bool):fG K H (.bl x) (.type "bool")
 |int (i:Int):fG K H (.int i) (.type "int")
 |str (x:Str):fG K H (.str x) (.type "str")
 |AF (x:UInt64):fG K H (.AF x) (.type "float")
 |lst {a:Addr}{xs:List V}(e:H a=some (.lst xs)):fG K H (.ref a) (.type "list")
 |dX {a:Addr}{o:Obj}{xs:List V}(e:H a=some (.dX o (.lst xs))):fG K H (.ref a) (.type "list")
 |kl {a:Addr}{its:Zz}{n:Nat}(e:K.lookup a=some { cls:=.type "list",data:=.seq its n }):fG K H (.ref a) (.type "list")
 |tup {a:Addr}{xs:List V}(e:H a=some (.tup xs)):fG K H (.ref a) (.type "tuple")
 |dK {a:Addr}{kvs:List (Key×V)}(e:H a=some (.dK kvs)):fG K H (.ref a) (.type "dict")
 |dT {a:Addr}{kvs:List (List Key×V)}(e:H a=some (.dT kvs)):fG K H (.ref a) (.type "dict")
 |ins {a C dx:Addr}{fs:List (Str×V)}(e:H a=some (.ins C dx fs))(cl:Qk K C)(ha:PySem.W.findIn K (.ref C) "__class__"=some (some (.builtin "object.__class__")))
   (hn:PySem.W.specialIn K (.builtin "object.__class__") "__get__"=some (some (.builtin "getset_descriptor.__get__")))(htk:PySem.W.takesIn K (.builtin "object.__class__")=some true)
   (hm:PySem.W.mroIn K C (.type "object")=some true):fG K H (.ref a) (.ref C)
def Fq{x:V}{u t:Value}(I:Inv X pins U H s)(rx:RelV x u)(ty:fG X.K H x t)(e:PySem.W.kitOne X.K t c=some b)(h:∀tk,Q (.bool b) { s with toks:=tk }) : wpAny (model X.prog X.w) A (call (.builtin "isinstance") [u,c]) Q E s:=by
 cases ty with
 |aU=>cases (show u=Value.none from rx);exact Wi PySem.W.kitx_none I.dG Wn e (λz=>nomatch z) h
 |bl y=>cases (show u=Value.bool y from rx);exact Wi PySem.W.kitx_bool I.dG Wn e (λz=>nomatch z) h
 |int i=>obtain⟨t,q⟩:=(show ∃t,u=Value.int i t from rx);cases q;exact Wi PySem.W.kitx_int I.dG Wn e (λz=>nomatch z) h
 |str y=>obtain⟨t,q⟩:=(show ∃t,u=Value.str y t from rx);cases q;exact Wi PySem.W.kitx_str I.dG Wn e (λz=>nomatch z) h
 |AF y=>obtain⟨t,q⟩:=(show ∃t,u=Value.float y t from rx);cases q;exact Wi PySem.W.kitx_float I.dG Wn e (λz=>nomatch z) h
 |@lst a xs ea=>cases (show u=Value.ref a from rx);obtain⟨_,_,n,_,h1⟩:=(show bE X.prog X.w H s.heap a (.lst xs)from I.hok a _ ea);exact Wi ZJ I.dG ⟨_,h1,rfl⟩ e (λz=>nomatch z) h
 |@dX a ob xs ea=>cases (show u=Value.ref a from rx);obtain⟨_,_,_,n,_,h1⟩:=(show bE X.prog X.w H s.heap a (.dX ob (.lst xs))from I.hok a _ ea);exact Wi ZJ I.dG ⟨_,h1,rfl⟩ e (λz=>nomatch z) h
 |@kl a its n ea=>cases (show u=Value.ref a from rx);exact Wi ZJ I.dG ⟨_,I.dG a _ ea,rfl⟩ e (λz=>nomatch z) h
 |@tup a xs ea=>cases (show u=Value.ref a from rx);obtain⟨_,_,_,p⟩:=(show bE X.prog X.w H s.heap a (.tup xs)from I.hok a _ ea);obtain⟨o,h1,h2,_⟩:=p;exact Wi PySem.W.kitx_tuple I.dG ⟨o,h1,h2⟩ e (λz=>nomatch z) h
 |@dK a kvs ea=>cases (show u=Value.ref a from rx);obtain⟨_,_,vs,_,p⟩:=(show bE X.prog X.w H s.heap a (.dK kvs)from I.hok a _ ea);obtain⟨o,es,ep,h1,h2,_⟩:=p;exact Wi PySem.W.kitx_dict I.dG ⟨o,h1,h2.1⟩ e (λz=>nomatch z) h
 |@dT a kvs ea=>cases (show u=Value.ref a from rx);obtain⟨_,_,xs,_,o,es,ep,h1,h2,_⟩:=(show bE X.prog X.w H s.heap a (.dT kvs)from I.hok a _ ea);exact Wi PySem.W.kitx_dict I.dG ⟨o,h1,h2.1⟩ e (λz=>nomatch z) h
 |@ins a C dx fs ea cl ha hn htk hm=>cases (show u=Value.ref a from rx);obtain⟨mA,O,_⟩:=Me I.hok ea;obtain⟨od,J,_⟩:=O.look;exact Wi (PySem.W.kitx_own (cl.get _) cl.hd ha hn htk hm) I.dG J e (λz=>nomatch z) h
end
structure cW(k:Nat)(A:Around):Prop where
 hd:A.handled=none
 dp:A.depth+3*k+5<recursionLimit
 un:A.units+16*k+200<cLine
def cW.mono{j k:Nat}{A:Around}(r:cW k A)(h:j<=k):cW j A:=⟨r.hd,by have:=r.dp;lia,by have:=r.un;lia⟩
theorem cW.deeper{k:Nat}{A:Around}(r:cW (k+1) A)(env:Env):cW k (A.deeper env):=
 ⟨r.hd,by have:=r.dp;show A.depth+1+3*k+5<_;lia,by have:=r.un;show A.units+3+16*k+200<_;lia⟩
theorem cW.depth{k:Nat}{A:Around}(r:cW k A):A.depth<recursionLimit:=by have:=r.dp;lia
theorem cW.units{k:Nat}{A:Around}(r:cW k A):A.units+64<cLine:=by have:=r.un;lia
def TY:TA:=λ_ H Q=>Q [] H
def Ri (ta:TE)(tr:TA):TA:=λU H Q=>ta U H λx H1=>tr U H1 λxs H2=>Q (x::xs) H2
section
variable{X:Cx}{e:Expr}{es:A05}{te:TE}{t:TA}{pos:Pos}
def dh:PA X [] TY:=λ_ _ _ _ H Q I h=>Calls.spliced_nil ⟨[],H,I,.nil,h⟩
def bg(ha:PE X e te)(hr:PA X es t)(hs:starEach (e::es) X.env=(false,eval e X.env)::starEach es X.env:=by rfl):PA X (e::es) (Ri te t):=by intro pos pins s U H Q I h;rw[hs];show wpAny _ _ (spliced ((false,eval e X.env)::backTo pos (starEach es X.env))) _ _ s;refine Calls.spliced_cons (aM (ha pins s U H _ I h) λu s1 ⟨x,H1,I1,r1,q1⟩=>?_);exact aM (hr pos pins s1 U H1 _ I1 q1) λus s2 ⟨xs,H2,I2,r2,q2⟩=>⟨x::xs,H2,I2,.cons r1 r2,q2⟩
def Uo (t:TA):TE:=λU H Q=>t U H λxs H1=>xs.length<=sizeLine/\∀p,H1 p=none->Q (.ref p) (upd H1 p (.tup xs))
def Us (t:TA):TE:=λU H Q=>t U H λxs H1=>xs.length<=sizeLine/\∀p,H1 p=none->Q (.ref p) (upd H1 p (.lst xs))
def qD{x1}(h:PA X es t):PE X (.Tuple es x1 pos) (Uo t):=by intro pins s U H Q I hq;refine wpAny_Tuple_spliced (aM (h pos pins s U H _ I hq) λus s1 ⟨xs,H1,I1,r,z,q⟩=>⟨by rw[<-r.length];exact z,?_⟩);have hf:H1 s1.heap.objs.size=none:=I1.hok.fresh (V5 _);refine⟨.ref s1.heap.objs.size,upd H1 s1.heap.objs.size (.tup xs),I1.laid (t':=s1.toks) (λb u e=>VW _ e) (V5 _) ?_,rfl,q _ hf⟩;exact⟨z,us,r,⟨_,W8 _ rfl,rfl,_,rfl⟩⟩
def MW(h:PA X es t):PE X (.List es pos) (Us t):=by intro pins s U H Q I hq;refine wpAny_List_spliced (aM (h pos pins s U H _ I hq) λus s1 ⟨xs,H1,I1,r,z,q⟩=>⟨by rw[<-r.length];exact z,?_⟩);have hf:H1 s1.heap.objs.size=none:=I1.hok.fresh (V5 _);refine⟨.ref s1.heap.objs.size,upd H1 s1.heap.objs.size (.lst xs),I1.laid (t':=s1.toks) (λb u e=>VW _ e) (V5 _) ?_,rfl,q _ hf⟩;exact⟨z,us,0,r,W8 _ rfl⟩
end
abbrev Sp:=List V->Hp->VK->XK->Prop
abbrev mq:=List Env->Hp->Shared->XK->Value->Shared->Prop
structure CA(P:Program)(w:World)(K:Zx)(mg:Zr)(base:Heap)(A:Around)(outer:List Env)(s:Shared)(H:Hp):Prop where
 frames:A.frames=some outer
 mod:Mod K mg base
 bs:∀b o,base.get? b=some o->s.heap.get? b=some o/\H b=none
 uv:base.objs.size<=s.heap.objs.size
 jm:s.heap.FunFrames base outer
 wL:∀b∈frs outer,H b=none
 hok:dH P w H s.heap
 bare:AllBare s.gens
noncomputable def CE (outer:List Env)(P:Program)(w:World)(H:Hp)(s:Shared)(Q:VK)(u:Value)(s':Shared):Prop:=
 ∃v H',s'.os=s.os/\AllBare s'.gens/\Un (frs outer) [] H H' s.heap s'.heap/\dH P w H' s'.heap/\RelV v u/\Q v H'
noncomputable def CR (CX:mq)(outer:List Env)(P:Program)(w:World)(H:Hp)(s:Shared)(Q:VK)(E:XK)(r:Result)(s':Shared):Prop:=
 match r with
 |.ok (.ret u)=>CE outer P w H s Q u s'
 |.ok _=>False
 |.error e=>CX outer H s E e s'
structure gu(P:Program)(w:World)(K:Zx)(mg:Zr)(base:Heap)(CX:mq) (k:Nat)(f:Addr)(fd:FuncData)(ps:A09)(sp:Sp):Prop where
 len:∀vs H Q E,sp vs H Q E->vs.length=ps.length
 run:∀(A:Around)(outer:List Env)(s:Shared)(H:Hp)(args:Args)(us:A02)(vs:List V)(Q:VK)(E:XK),cW k A->CA P w K mg base A outer s H->BindsTo s fd args (ps.zip us)->Vals vs us->sp vs H Q E->
  codeAny (model P w) A (.call (.ref f) args) (CR CX outer P w H s Q E) s
def gu.imp{P:Program}{w:World}{K:Zx}{mg:Zr}{base:Heap}{CX:mq}{k:Nat}{f:Addr}{fd:FuncData}{ps:A09}{sp sp':Sp}(F:gu P w K mg base CX k f fd ps sp)(h:∀vs H Q E,sp' vs H Q E->sp vs H Q E):gu P w K mg base CX k f fd ps sp':=
 ⟨λvs H Q E q=>F.len vs H Q E (h _ _ _ _ q),λA outer s H args us vs Q E hr he hb hv hs=>F.run A outer s H args us vs Q E hr he hb hv (h _ _ _ _ hs)⟩
section
variable{X:Cx}{pins:Zs}{U:St}{H:Hp}{s s':Shared}
def Inv.Qq(I:Inv X pins U H s):CA X.prog X.w X.K X.mg X.base X.A X.stack s H:=
 ⟨I.ok.frames,I.ok.mod,I.bs,Vx I.ok.uv I.sz,I.stack,I.rA,I.hok,I.bare⟩
def Inv.after{Q:VK}{u:Value}(I:Inv X pins U H s)(h:CE X.stack X.prog X.w H s Q u s'):EP X pins U Q u s':=by obtain⟨v,H',os,bare,un,hok,r,q⟩:=h;obtain⟨hh,g,d,t,os'⟩:=s';obtain rfl:os'=s.os:=os;exact⟨v,H',I.call (h':=hh) (g':=g) (d':=d) (t':=t) (ch:=[]) un hok bare (λb z=>absurd z (by simp)),r,q⟩
end
def Ry (sp:Sp)(dvs:List V)(E:XK)(t:TA):TE:=λU H Q=>t U H λvs H1=>sp (vs++dvs) H1 Q E
def Binds (K:Zx)(fd:FuncData)(ps:A09)(ds:A02):Prop:=
 ∀(s:Shared)(us:A02),K.In s.heap->(us++ds).length=ps.length->BindsTo s fd ⟨us,[]⟩ (ps.zip (us++ds))
def Binds.all{K:Zx}{fd:FuncData}{ps:A09}(h:∀us:A02,us.length=ps.length->bindArgs fd ⟨us,[]⟩=pure (ps.zip us)):Binds K fd ps []:=λs us _ hl=>by rw[W9]at hl⊢;exact .of_eq (h us hl)
def Passes (CX:mq)(X:Cx)(E:XK):Prop:=∀(pins:Zs)(U:St)(H:Hp)(s:Shared)(e:Value)(s':Shared),Inv X pins U H s->CX X.stack H s E e s'->X.xe e s'
section
variable{X:Cx}{CX:mq}{k:Nat}{f C:Addr}{fd:FuncData}{ps:A09}{sp:Sp}{dvs:List V}{ds:A02}{E:XK}{x m:Str}{p pos apos:Pos}{e o:Expr}{es:A05}{ta:TE}{t:TA}
def Qi{pins:Zs}{U:St}{H:Hp}{s:Shared}{Q:VK}{us:A02}{vs:List V}(F:gu X.prog X.w X.K X.mg X.base CX k f fd ps sp)(hr:cW k X.A)(hb:Binds X.K fd ps ds)(hd:Vals dvs ds)(hx:Passes CX X E)(I:Inv X pins U H s)(r:Vals vs us)(h:sp (vs++dvs) H Q E):wpAny (model X.prog X.w) X.A (call (.ref f) us) (EP X pins U Q) X.xe s:=by
 have r2:Vals (vs++dvs) (us++ds):=r.append hd;have hl:(us++ds).length=ps.length:=by rw[<-r2.length];exact F.len _ _ _ _ h
 refine wpAny_call (Y9 (F.run X.A X.stack s H ⟨us,[]⟩ (us++ds) (vs++dvs) Q E hr I.Qq (hb s us I.dG hl) r2 h) λr s' hq=>?_);cases r with
 |error e=>exact hx pins U H s e s' I hq
 |ok fl=>
  cases fl with
  |ret u=>exact I.after hq
  |next=>exact False.elim hq
  |brk=>exact False.elim hq
  |cont=>exact False.elim hq
def AR(F:gu X.prog X.w X.K X.mg X.base CX k f fd ps sp)(hr:cW k X.A)(hg:Gl X x)(hm:X.mg x=some (.ref f))(hk:PySem.W.keepIn X.K (.ref f)=true)(hb:Binds X.K fd ps ds)(hd:Vals dvs ds)(hx:Passes CX X E)(ha:PA X (e::es) t)(hdb:(x==("__debug__":Str))=false:=by decide)(he:starEach (e::es) X.env=(false,eval e X.env)::starEach es X.env:=by rfl)(hpl:(backTo pos (starEach es X.env)).any (·.1)=false:=by rfl) : PE X (.Call (.Name x p) (e::es) [] pos) (Ry sp dvs E t):=by intro pins s U H Q I h;refine Yi (nI I hg hm ?_ hdb);refine PySem.W.callWith_K (h₀:=X.base) I.ok.mod.ET hk (aM (ha pos pins s U H _ I h) λus s1 ⟨vs,H1,I1,r,q⟩=>⟨I1.dG,?_⟩) he hpl;exact Qi F hr hb hd hx I1 r q
end
structure aH(N P:A09)(sc:Scope):Prop where
 kind:sc.kind=.function
 co:sc.isCoroutine=false
 gen:sc.isGenerator=false
 nd:N.Nodup
 pre:N.take P.length=P
 par:∀x∈P,sc.names.lookup x=some .local\/sc.names.lookup x=some .cell
 MT:∀y∈sc.names,y.2≠.free
theorem wQ{kindOf:Str->Option NameKind}{x:Str}:∀{binds:List (Str×Value)}{m:Zr},(∀v,(x,v)∉binds)->bindL kindOf binds m x=m x
 |[],_,_=>rfl
 | (n,v)::r,m,h=>by
  unfold bindL;rw[wQ λw hw=>h w (VA _ hw)];split
  .have:x≠n:=by rintro rfl;exact h v V3
   simp[this]
  rfl
theorem w9{kindOf:Str->Option NameKind}{x:Str}:∀{binds:List (Str×Value)}{m:Zr},(∀v,(x,v)∉binds)->bindC kindOf binds m x=m x
 |[],_,_=>rfl
 | (n,v)::r,m,h=>by
  unfold bindC;rw[w9 λw hw=>h w (VA _ hw)];split;{rfl};have:x≠n:=by rintro rfl;exact h v V3
  simp[this]
theorem wO{kindOf:Str->Option NameKind}{x:Str}{v:Value}:∀{P:A09}{vs:A02}{i:Nat}{m:Zr},P.Nodup->P[i]?=some x->vs[i]?=some v->kindOf x=some .local-> bindL kindOf (P.zip vs) m x=some v
 |[],_,_,_,_,h,_,_=>by simp at h
 |_::_,[],_,_,_,_,h,_=>by simp at h
 |p::P,w::vs,0,m,nd,h1,h2,hk=>by simp at h1 h2;subst h1;subst h2;show bindL kindOf ((p,w)::P.zip vs) m p=_;unfold bindL;rw[wQ λv hv=>(W6.mp nd).1 (Yj hv).1,if_pos hk];simp
 |p::P,w::vs,i+1,m,nd,h1,h2,hk=>by show bindL kindOf ((p,w)::P.zip vs) m x=_;unfold bindL;exact wO (i:=i) (W6.mp nd).2 (by simpa using h1) (by simpa using h2) hk
theorem wN{kindOf:Str->Option NameKind}{x:Str}{v:Value}:∀{P:A09}{vs:A02}{i:Nat}{m:Zr},P.Nodup->P[i]?=some x->vs[i]?=some v->kindOf x≠some .local-> bindC kindOf (P.zip vs) m x=some v
 |[],_,_,_,_,h,_,_=>by simp at h
 |_::_,[],_,_,_,_,h,_=>by simp at h
 |p::P,w::vs,0,m,nd,h1,h2,hk=>by simp at h1 h2;subst h1;subst h2;show bindC kindOf ((p,w)::P.zip vs) m p=_;unfold bindC;rw[w9 λv hv=>(W6.mp nd).1 (Yj hv).1,if_neg hk];simp
 |p::P,w::vs,i+1,m,nd,h1,h2,hk=>by show bindC kindOf ((p,w)::P.zip vs) m x=_;unfold bindC;exact wN (i:=i) (W6.mp nd).2 (by simpa using h1) (by simpa using h2) hk
def start (N:A09)(vs:List V):St:=vs.map some++List.replicate (N.length-vs.length) none
noncomputable def fF (CX:mq)(P:Program)(w:World)(K:Zx)(mg:Zr)(base:Heap)(N:A09) (qual:Str)(scope:Scope)(f:Addr)(cd:Value)(A:Around)(outer:List Env)(s:Shared)(H:Hp)(E:XK):Cx where
 prog:=P
 w:=w
 K:=K
 mg:=mg
 base:=base
 A:=A.deeper (envOfC qual scope s.heap.objs.size f cd)
 N:=N
 s₀:=s
 H₀:=H
 env:=envOfC qual scope s.heap.objs.size f cd
 outer:=outer
 stack:=envOfC qual scope s.heap.objs.size f cd::outer
 ex:=[]
 calm:=true
 fn:=λ_=>true
 pn:=[]
 xe:=λe s'=>wpAny (model P w) (A.deeper (envOfC qual scope s.heap.objs.size f cd)) (leaving (envOfC qual scope s.heap.objs.size f cd) e) (λ_ s''=>CX outer H s E e s'') (λe' s''=>CX outer H s E e' s'') s'
def Ab{sc:Scope}{n:Nat}{x:Str}(h:sc.names.lookup x=some .cell):∃c,(cellsFrom n sc.names []).lookup x=some c:=by have q:=PySem.W.cellsFrom_some sc.names n [] (.inl h);exact ZK.mp q
def Ff{CX:mq}{P:Program}{w:World}{K:Zx}{mg:Zr}{base:Heap}{N ps:A09}{qual:Str}{scope:Scope}{f:Addr}{cd:Value}{A:Around}{outer:List Env}{s s1:Shared}{H:Hp}{E:XK}{us:A02}{vs:List V}(S:aH N ps scope)(hd:A.handled=none)(e0:CA P w K mg base A outer s H)(hl:vs.length=ps.length)(r:Vals vs us)(x:InCallC s s.heap.objs.size (bindL (envOfC qual scope s.heap.objs.size f cd).kindOf (ps.zip us) λ_=>none) (cellsFrom (s.heap.objs.size+1) scope.names []) (bindC (envOfC qual scope s.heap.objs.size f cd).kindOf (ps.zip us) λ_=>none) s1) : Inv (fF CX P w K mg base N qual scope f cd A outer s H E) [] (start N vs) H s1:=by
 have hpl:ps.length<=N.length:=by have:=congrArg List.length S.pre;rw[Wj]at this;lia
 obtain⟨h1,tk,rfl,hk⟩:=x.done;have noA:∀b:Addr,b∉(fF CX P w K mg base N qual scope f cd A outer s H E).ex:=λb z=>absurd (show b∈([]:A03)from z) (by simp);refine⟨⟨e0.mod,S.kind,rfl,rfl,V5 _,λy z c h1 h2=>?_,λy hy=>?_,λy c _ h=>?_,λ_=>hd,Around.frames_deeper e0.frames,.inr ⟨rfl,rfl⟩,λb z=>absurd z (noA b),e0.bs,e0.uv,λb _ _=>noA b,λb z=>absurd z (noA b),e0.jm,e0.wL⟩,
  rfl,e0.bare,Un.kept hk,⟨_,x.toInCall.ns,λi y v h1 h2 h3=>?_⟩,λy c h=>⟨_,x.cell y c h⟩,e0.hok.fresh (V5 _),λy c h=>?_,λp hp=>absurd (show p∈([]:Zs)from hp) (by simp),e0.hok.kept hk,?_⟩
 .exact name_of_addr x.apart (YA h1) (YA h2)
 .have hy:scope.names.lookup y=some .cell\/scope.names.lookup y=some .free:=hy;rcases hy with hy|hy;{exact Ab hy};exact absurd rfl (S.MT _ (YA hy))
 .exact Y7 (x.above y c (YA h))
 .have hi:i<vs.length:=by unfold start at h2;by_cases hi:i<vs.length;{exact hi};rw[YB (by simpa using hi)]at h2;rw[Yk]at h2;split at h2<;>cases h2
  have ha:vs[i]?=some v:=by
   unfold start at h2;rw[Xn (by simpa using hi),VE]at h2;cases e:vs[i]? with
   |none=>rw[e]at h2;cases h2
   |some a=>rw[e]at h2;cases h2;rfl
  obtain⟨u,hu,rv⟩:=r.get ha;have hp:ps[i]?=some y:=by rw[<-S.pre,List.getElem?_take_of_lt (by lia)];exact h1
  have ndP:ps.Nodup:=by rw[<-S.pre];exact S.nd.sublist (List.take_sublist _ _)
  refine⟨u,rv,?_⟩;rcases S.par y (VZ hp)with k|k;{exact .inl ⟨k,wO ndP hp hu k⟩};obtain⟨c,e⟩:=Ab (n:=s.heap.objs.size+1) k;refine .inr ⟨.inl k,c,e,?_⟩;have q:=x.cell y c e;rw[wN ndP hp hu (by show scope.names.lookup y≠_;rw[k];decide)]at q;exact q
 .exact e0.hok.fresh (Y7 (x.above y c (YA h)))
 unfold start;show _=N.length;rw[VH,V4,Wk];lia
def Q9{CX:mq}{P:Program}{w:World}{K:Zx}{mg:Zr}{base:Heap}{k:Nat}{f:Addr}{name qual:Str}{params:Arguments}{body:A06}{scope:Scope}{dV kV doc pm cdv ct oc:Value}{an od:A01}{osl:Zo}{N ps:A09}{sp:Sp}(lk:K.lookup f=some ⟨oc,od,.func (PySem.W.fnOf name qual params body scope dV kV doc pm an cdv ct),osl⟩)(hcd:PySem.W.codeIn K cdv qual=true)(S:aH N ps scope)(len:∀vs H Q E,sp vs H Q E->vs.length=ps.length)(hbody:∀(A:Around)(outer:List Env)(s:Shared)(H:Hp)(vs:List V)(Q:VK)(E:XK),cW k (A.deeper (envOfC qual scope s.heap.objs.size f cdv))->sp vs H Q E-> ∃t,l8 (fF CX P w K mg base N qual scope f cdv A outer s H E) body t/\t { nx:=λ_ H'=>Q .aU H',rt:=Q } (start N vs) H) : gu P w K mg base CX (k+1) f (PySem.W.fnOf name qual params body scope dV kV doc pm an cdv ct) ps sp:=by
 refine⟨len,λA outer s H args us vs Q E hr e0 hb r hsp=>?_⟩;have hl:=len _ _ _ _ hsp;have KX:K.In s.heap:=e0.mod.ET.keeps λb o e=>(e0.bs b o e).1;have lim:s.heap.NoLimit:=e0.mod.nolimit.keeps λb o e=>(e0.bs b o e).1;have hkind:∀y∈ps.zip us,scope.names.lookup y.1=some .local\/(scope.names.lookup y.1=some .cell/\((cellsFrom (s.heap.objs.size+1) scope.names []).lookup y.1).isSome=true):=λ⟨n,v⟩ hy=>by rcases S.par n (Yj hy).1 with q|q;{exact .inl q};exact .inr ⟨q,PySem.W.cellsFrom_some _ _ _ (.inl q)⟩
 refine codeAny_call_function hr.depth (KX _ _ lk) rfl S.co S.gen rfl (PySem.W.codeRec_of KX hcd) (hb _ _ _ _ ?_);refine wpAny_newFunctionEnv_cells S.kind hkind λenv he s1 x=>?_;subst he;refine⟨lim.keeps x.toInCall.keep,codeAny_func ?_⟩;obtain⟨t,ht,hq⟩:=hbody A outer s H vs Q E (hr.deeper _) hsp;have I:Inv (fF CX P w K mg base N qual scope f cdv A outer s H E) [] (start N vs) H s1:=Ff S hr.hd e0 hl r x;refine WC (ht [] s1 (start N vs) H _ I hq) (λfl s' hs=>?_) λe s' hs=>hs;have fin:∀{σ':St}{H':Hp}{v:V}{u:Value},Inv (fF CX P w K mg base N qual scope f cdv A outer s H E) [] σ' H' s'->RelV v u->Q v H'->CE outer P w H s Q u s':=
  λ{σ' H' v u} J rv q=>⟨v,H',J.os,J.bare,J.base,J.hok,rv,q⟩
 cases fl with
 |ret u=>obtain⟨v,σ',H',J,rv,q⟩:=hs;exact fin J rv q
 |next=>obtain⟨σ',H',J,q⟩:=hs;exact fin (v:=V.aU) (u:=Value.none) J rfl q
 |brk=>obtain⟨_,_,_,q⟩:=hs;exact False.elim q
 |cont=>obtain⟨_,_,_,q⟩:=hs;exact False.elim q
section
variable{X:Cx}{x:Str}{p pos:Pos}{e:Expr}{es:A05}{t:TA}{id T:String}{r:List V->Hp->VK->Prop}
def Te (r:List V->Hp->VK->Prop)(t:TA):TE:=λU H Q=>t U H λvs H1=>r vs H1 Q
def lA(hc:b5 X (.builtin id) r)(hg:Gl X x)(hm:X.mg x=none)(hv:bootBuiltins x=some (.builtin id))(ha:PA X (e::es) t)(hn:x≠"__name__":=by decide)(hdb:(x==("__debug__":Str))=false:=by decide)(he:starEach (e::es) X.env=(false,eval e X.env)::starEach es X.env:=by rfl)(hpl:(backTo pos (starEach es X.env)).any (·.1)=false:=by rfl):PE X (.Call (.Name x p) (e::es) [] pos) (Te r t):=by intro pins s U H Q I h;refine Yi (jP I hg hm hv ?_ hn hdb);exact PyProof.Rows.callWith_builtin1 (aM (ha pos pins s U H _ I h) λus s1 ⟨vs,H1,I1,r1,q1⟩=>hc pins s1 U H1 vs us Q I1 r1 q1) he hpl
def iI(hc:b5 X (.type T) r)(hg:Gl X x)(hm:X.mg x=none)(hv:bootBuiltins x=some (.type T))(ha:PA X (e::es) t)(hn:x≠"__name__":=by decide)(hdb:(x==("__debug__":Str))=false:=by decide)(he:starEach (e::es) X.env=(false,eval e X.env)::starEach es X.env:=by rfl)(hpl:(backTo pos (starEach es X.env)).any (·.1)=false:=by rfl):PE X (.Call (.Name x p) (e::es) [] pos) (Te r t):=by intro pins s U H Q I h;refine Yi (jP I hg hm hv ?_ hn hdb);exact Xm (aM (ha pos pins s U H _ I h) λus s1 ⟨vs,H1,I1,r1,q1⟩=>hc pins s1 U H1 vs us Q I1 r1 q1) he hpl
end
end L2
namespace HT
open PySem PyProof.Rows
section
variable{prog:Program}{w:World}{A:Around}{E:Zp}{s:Shared}
def K8{t b:Addr}{vs ws:A02}{Q:Zp}(ht:IsTup s.heap t vs.toArray)(hb:IsTup s.heap b ws.toArray)(hv:vs≠[])(h1:ws=[]->Q (.ref t) s)(h2:ws≠[]->Q (.ref s.heap.objs.size) { s with heap:=s.heap.push { cls:=.type "tuple",data:=.seq (vs++ws).toArray } })(hsz:vs.length+ws.length<=sizeLine):wpAny (model prog w) A (binaryOp .Add (.ref t) (.ref b)) Q E s:=by
 obtain⟨⟨cls,dd,data,sl⟩,ho,hc,n,hd⟩:=id ht;obtain⟨⟨cls2,dd2,data2,sl2⟩,ho2,hc2,n2,hd2⟩:=id hb;simp only at hc hd hc2 hd2;subst hc hd hc2 hd2;have e:vs.toArray++ws.toArray=(vs++ws).toArray:=by simp
 by_cases hw:ws=[]
 .exact concat_meets ⟨_,ho,rfl⟩ ⟨_,ho2,rfl⟩ noFill_tuple_add seq_tuple_add PySem.F.slot_tuple_add PySem.F.entry_tuple_add (PySem.F.args_tuple_add_2 _ _)
   (tuple_addW1 t b vs.toArray ws.toArray n n2 dd dd2 sl sl2 (by simpa using hv) (by simp[hw])) ⟨ho,ho2,h1 hw⟩
 refine concat_meets ⟨_,ho,rfl⟩ ⟨_,ho2,rfl⟩ noFill_tuple_add seq_tuple_add PySem.F.slot_tuple_add PySem.F.entry_tuple_add (PySem.F.args_tuple_add_2 _ _)
  (tuple_addW2 t b vs.toArray ws.toArray n n2 dd dd2 sl sl2 (by simpa using hv) (by simpa using hw) (by rw[VM,VM];exact hsz)) ⟨ho,ho2,?_⟩
 rw[e];exact h2 hw
def aL (n d:Nat):Option Int->Nat
 |none=>d
 |some v=>if v<0 then(v+(n:Int)).toNat else min v.toNat n
def mV(n d k:Nat):aL n d (some (k:Int))=min k n:=by show(if(k:Int)<0 then((k:Int)+(n:Int)).toNat else min (k:Int).toNat n)=min k n;rw[if_neg (by lia),Yl]
def NU(n d:Nat)(hd:d<=n)(o:Option Int):aL n d o<=n:=by
 cases o with
 |none=>exact hd
 |some v=>show(if v<0 then(v+(n:Int)).toNat else min v.toNat n)<=n;by_cases hv:v<0;{rw[if_pos hv];lia};rw[if_neg hv];exact ZL _ _
def B7(v:Int) (n d:Nat):(if v<0 then max (v+(n:Int)) 0 else min v (n:Int))=((aL n d (some v):Nat):Int):=by show(if v<0 then max (v+(n:Int)) 0 else min v (n:Int))=(((if v<0 then(v+(n:Int)).toNat else min v.toNat n):Nat):Int);by_cases hv:v<0;{simp only[if_pos hv];lia};simp only[if_neg hv];lia
def Df(lo hi:Option Int) (n:Nat):Builtin.Slice.sliceAdjust lo hi 1 (n:Int)=(((aL n 0 lo:Nat):Int),((aL n n hi:Nat):Int)):=by
 have h1:¬((1:Int)<0):=by lia
 unfold Builtin.Slice.sliceAdjust;simp only[h1,Ww];refine X7 ?_ ?_
 .cases lo with
  |none=>rfl
  |some v=>exact B7 v n 0
 cases hi with
 |none=>rfl
 |some v=>exact B7 v n n
def D9(i j:Nat):Builtin.Slice.slicePlaces (i:Int) (j:Int) 1=j-i:=by
 unfold Builtin.Slice.slicePlaces;have h1:(1:Int)>0:=by lia
 simp only[h1,if_true,Int.ediv_one];split<;>lia
def uW{v:Value}{o:Option Int}{Q:Option Int->Shared->Prop}(p:IsPart v o)(h:Q o s):wpAny (model prog w) A (Builtin.Slice.slicePartIndex v) Q E s:=by
 cases p with
 |none=>exact slicePart_none h
 |int i t=>exact slicePart_int h
def lV{sl:Addr}{vl vu:Value}{lo hi:Option Int}{n:Nat}{Q:Int×Int×Nat->Shared->Prop}(hs:s.heap.IsSliceOf sl vl vu .none)(pl:IsPart vl lo)(pu:IsPart vu hi)(h:Q (((aL n 0 lo:Nat):Int),1,aL n n hi-aL n 0 lo) s):wpAny (model prog w) A (Builtin.Slice.sliceApplied (.ref sl) (pure (n:Int))) Q E s:=by obtain⟨os,hos,hcs,hds⟩:=id hs;unfold Builtin.Slice.sliceApplied Builtin.Slice.sliceFields;refine V0 (V0 (Ws hos hds (x:=vl) rfl (V0 (Ws hos hds (x:=vu) rfl (V0 (Ws hos hds (x:=.none) rfl (V6 ?_)))))));refine V0 (slicePart_none ?_);show wpAny _ _ (if((1:Int)==0)=true then _ else _) _ _ s;rw[if_neg (by decide)];refine V0 (uW pl (V0 (uW pu (V0 (V6 ?_)))));show wpAny _ _ (match Builtin.Slice.sliceAdjust lo hi 1 (n:Int)with|(lo,hi)=>pure (lo,(1:Int),Builtin.Slice.slicePlaces lo hi 1)) _ _ s;rw[Df lo hi n];show wpAny _ _ (pure (((aL n 0 lo:Nat):Int),(1:Int),Builtin.Slice.slicePlaces ((aL n 0 lo:Nat):Int) ((aL n n hi:Nat):Int) 1)) _ _ s;rw[D9];exact V6 h
def Ic(xs:Zz) (i k:Nat):((List.range k).filterMap λ(m:Nat)=>xs[((i:Int)+(m:Int)*1).toNat]?).toArray=((xs.toList.drop i).take k).toArray:=by
 have e:(λ(m:Nat)=>xs[((i:Int)+(m:Int)*1).toNat]?)=λm=>xs[i+m]?:=by
  funext m;have:((i:Int)+(m:Int)*1).toNat=i+m:=by lia
  rw[this]
 rw[e];have:=pick_run xs i k;rw[List.filterMap_map]at this;have e2:((λx=>xs[x]?)∘λx=>i+x)=λm=>xs[i+m]?:=rfl;rw[e2]at this;rw[this]
def rL{t sl:Addr}{items:Zz}{vl vu:Value}{lo hi:Option Int}{Q:Zp}(ht:IsTup s.heap t items)(hs:s.heap.IsSliceOf sl vl vu .none)(pl:IsPart vl lo)(pu:IsPart vu hi)(hw:¬(aL items.size 0 lo=0/\aL items.size items.size hi=items.size))(h:Q (.ref s.heap.objs.size) { s with heap:=s.heap.push { cls:=.type "tuple",data:=.seq ((items.toList.drop (aL items.size 0 lo)).take (aL items.size items.size hi-aL items.size 0 lo)).toArray } })(hsz:items.size<=sizeLine):wpAny (model prog w) A (getItem (.ref t) (.ref sl)) Q E s:=by
 have htake:sizeOk (.seq ((items.toList.drop (aL items.size 0 lo)).take (aL items.size items.size hi-aL items.size 0 lo)).toArray):=by show((items.toList.drop (aL items.size 0 lo)).take (aL items.size items.size hi-aL items.size 0 lo)).toArray.size<=sizeLine;rw[VM,Wj,WO,X6];exact Vx (ZL _ _) (Vx (Nat.sub_le _ _) hsz)
 have hj:aL items.size items.size hi<=items.size:=NU _ _ (V5 _) hi;obtain⟨os,hos,hcs,hds⟩:=id hs;have hTs:s.TypeIs (.ref sl) "slice":=⟨os,hos,hcs⟩;unfold getItem;try with_reducible refine Wb ?_
 first|refine V0 (V6 ?_)|skip
 refine V0 (wpAny_sequenceKey ht.typeIs (by decide) ?_);refine V0 (Ym (name:=Str.ofString "__getitem__") ht.typeIs Yn
  (X8 Yn ht.typeIs entry_tuple_getitem ?_ (args_tuple_getitem _ _)))
 show wpAny _ _ (Builtin.Tuple.tupleItemsOf (.ref t)>>=_) _ _ s;refine V0 (tupleItemsOf_ ht ?_);refine V0 (YC hTs ?_);rw[if_pos (by decide)];refine V0 (lV hs pl pu ?_);have hno:¬((((aL items.size 0 lo:Nat):Int)==0&&(1:Int)==1&&(aL items.size items.size hi-aL items.size 0 lo)==items.size)=true):=by intro q;rw[V9,V9]at q;have q1:((aL items.size 0 lo:Nat):Int)=0:=XA q.1.1;have q2:aL items.size items.size hi-aL items.size 0 lo=items.size:=XA q.2;exact hw ⟨by lia,by lia⟩
 show wpAny _ _ (if(((aL items.size 0 lo:Nat):Int)==0&&(1:Int)==1&&(aL items.size items.size hi-aL items.size 0 lo)==items.size)=true then _ else _) _ _ s;rw[if_neg hno,Ic];first
  |exact V0 (m:=Builtin.Tuple.tupleExact _) (Wt (V6 ⟨_,rfl,V6 h⟩) htake)
  |exact V0 (m:=Builtin.Tuple.tupleExact _) (Wt (V0 (V6 (V6 ⟨_,rfl,V6 h⟩))) htake)
  |exact V0 (V0 (m:=Builtin.Tuple.tupleExact _) (Wt (V6 (V6 ⟨_,rfl,V6 h⟩)) htake))
  |exact V0 (V0 (m:=Builtin.Tuple.tupleExact _) (Wt (V6 ⟨_,rfl,V6 h⟩) htake))
end
end HT
namespace L2
open PySem PySem.Spec PyProof.Rows
abbrev TO:=St->Hp->(Option Int->Hp->Prop)->Prop
noncomputable def PO (X:Cx)(e:Option Expr)(t:TO):Prop:=
 ∀(pins:Zs)(s:Shared)(U:St)(H:Hp)(Q:Option Int->Hp->Prop),Inv X pins U H s->t U H Q->
  wpAny (model X.prog X.w) X.A (evalPart e X.env) (λu s'=>∃o H',Inv X pins U H' s'/\IsPart u o/\Q o H') X.xe s
def Lh:TO:=λ_ H Q=>Q none H
def RN (t:TE):TO:=λU H Q=>t U H λx H1=>∃i,x=.int i/\Q (some i) H1
section
variable{X:Cx}{e:Expr}{te:TE}{lo hi:Option Expr}{tl th:TO}{pos p2:Pos}
def AY:PO X none Lh:=by intro pins s U H Q I h;rw[evalPart_none];exact V6 ⟨none,H,I,.none,h⟩
def BV(h:PE X e te):PO X (some e) (RN te):=by intro pins s U H Q I hw;rw[evalPart_some];refine aM (h pins s U H _ I hw) λu s1 ⟨x,H1,I1,r1,q1⟩=>?_;obtain⟨i,rfl,q⟩:=q1;obtain⟨t,rfl⟩:=r1;exact⟨some i,H1,I1,.int i t,q⟩
noncomputable def GF (X:Cx)(r:V->Option Int->Option Int->Hp->VK->Prop):Prop:=
 ∀(pins:Zs)(s:Shared)(U:St)(H:Hp) (x:V)(v vl vu:Value)(lo hi:Option Int)(sl:Addr)(Q:VK),Inv X pins U H s->RelV x v->s.heap.IsSliceOf sl vl vu .none->IsPart vl lo->IsPart vu hi->r x lo hi H Q->
  ∃T id,typeLookup (.type T) "__getitem__"=pure (some (.builtin id))/\s.TypeIs v T/\wpAny (model X.prog X.w) X.A (getItem v (.ref sl)) (EP X pins U Q) X.xe s
def Vf (r:V->Option Int->Option Int->Hp->VK->Prop)(te:TE)(tl th:TO):TE:=λU H Q=>te U H λx H1=>tl U H1 λl H2=>th U H2 λu H3=>r x l u H3 Q
def zC{r:V->Option Int->Option Int->Hp->VK->Prop}(hr:GF X r)(he:PE X e te)(hl:PO X lo tl)(hu:PO X hi th):PE X (.Subscript e (.Slice lo hi none p2) pos) (Vf r te tl th):=by intro pins s U H Q I h;refine Subscript_ (aM (he pins s U H _ I h) λv s1 ⟨x,H1,I1,r1,q1⟩=>?_);refine wpAny_Slice (aM (hl pins s1 U H1 _ I1 q1) λvl s2 ⟨l,H2,I2,pl,q2⟩=>aM (hu pins s2 U H2 _ I2 q2) λvu s3 ⟨u,H3,I3,pu,q3⟩=>?_);rw[evalPart_none];refine V6 ?_;have I4:Inv X pins U H3 { s3 with heap:=s3.heap.push { cls:=.type "slice",data:=.fields #[vl,vu,.none] } }:=I3.kept (t':=s3.toks) λb ob q=>VW _ q;obtain⟨T,id,hT,ht,hg⟩:=hr pins { s3 with heap:=s3.heap.push { cls:=.type "slice",data:=.fields #[vl,vu,.none] } } U H3 x v vl vu l u s3.heap.objs.size Q I4 r1 (Heap.IsSliceOf.new ..) pl pu q3;show wpAny (model X.prog X.w) X.A (subscriptTail e (.Slice lo hi none p2) v (.ref s3.heap.objs.size)) (EP X pins U Q) X.xe { s3 with heap:=s3.heap.push { cls:=.type "slice",data:=.fields #[vl,vu,.none] } };exact tail_any (ops:=[.ref s3.heap.objs.size,v]) ht hT hg (by with_unfolding_all rfl)
def oi (xs:List V)(lo hi:Option Int):List V:=(xs.drop (HT.aL xs.length 0 lo)).take (HT.aL xs.length xs.length hi-HT.aL xs.length 0 lo)
def rO(xs:List V)(lo hi:Option Int):(oi xs lo hi).length<=xs.length:=by unfold oi;rw[Wj,WO];exact Vx (ZL _ _) (Nat.sub_le _ _)
noncomputable def TF (K:Zx):V->Option Int->Option Int->Hp->VK->Prop:=λx lo hi H Q=>∃a xs,x=.ref a/\bO K H a xs /\
 ¬(HT.aL xs.length 0 lo=0/\HT.aL xs.length xs.length hi=xs.length)/\∀p,H p=none->Q (.ref p) (upd H p (.tup (oi xs lo hi)))
def Nz:GF X (TF X.K):=by
 intro pins s U H x v vl vu lo hi sl Q I rx hs pl pu h;obtain⟨a,xs,rfl,hx,hw,q⟩:=h;cases rx;obtain⟨its,r,ht,hz⟩:=I.tuple hx;have hlen:its.toArray.size=xs.length:=by rw[VM];exact r.length.symm
 refine⟨"tuple",_,Zj,ht.typeIs,?_⟩;refine HT.rL ht hs pl pu (by rw[hlen];exact hw) ?_ (by rw[hlen];exact hz);rw[hlen];refine⟨.ref s.heap.objs.size,_,I.laid (t':=s.toks) (o:=.tup (oi xs lo hi)) (λb ob q=>VW _ q) (V5 _) ?_,rfl,q _ (I.hok.fresh (V5 _))⟩;exact⟨Vx (rO xs lo hi) hz,_,(r.drop (HT.aL xs.length 0 lo)).take (HT.aL xs.length xs.length hi-HT.aL xs.length 0 lo),IsTup.new _ _⟩
noncomputable def Ks (K:Zx):R2:=λx y H Q=>∃a b xs ys,x=.ref a/\y=.ref b/\bO K H a xs/\bO K H b ys/\xs≠[]/\xs.length+ys.length<=sizeLine /\
 (ys=[]->Q (.ref a) H)/\(ys≠[]->∀p,H p=none->Q (.ref p) (upd H p (.tup (xs++ys))))
def Vals.vP{xs:List V}{us:A02}(r:Vals xs us):us=[]↔xs=[]:=by
 cases r with
 |nil=>simp
 |cons _ _=>simp
def LH:bN X (binaryOp .Add) (Ks X.K):=by intro pins s U H x y v u Q I rx ry h;obtain⟨a,b,xs,ys,rfl,rfl,ha,hb,hx,hz,q1,q2⟩:=h;cases rx;cases ry;obtain⟨its,r1,p1,_⟩:=I.tuple ha;obtain⟨its2,r2,p2,_⟩:=I.tuple hb;refine HT.K8 p1 p2 (λz=>hx (r1.vP.mp z)) (λz=>⟨.ref a,H,I,rfl,q1 (r2.vP.mp z)⟩) (λz=>?_) (by rw[<-r1.length,<-r2.length];exact hz);refine⟨.ref s.heap.objs.size,_,I.laid (t':=s.toks) (o:=.tup (xs++ys)) (λb ob q=>VW _ q) (V5 _) ?_,rfl,q2 (λw=>z (r2.vP.mpr w)) _ (I.hok.fresh (V5 _))⟩;exact⟨by rw[VH];exact hz,_,r1.append r2,IsTup.new _ _⟩
end
def l0 (n:Nat) (i:Int):Option Nat:=if 0<=i then(if i<n then some i.toNat else none)else if-(n:Int)<=i then some (i+n).toNat else none
def dP {α:Type}(xs:List α) (i:Int):Option α:=(l0 xs.length i).bind λj=>xs[j]?
def BD{n:Nat}{i:Int}{j:Nat}(h:l0 n i=some j):seqIndex? i n=some j/\j<n/\-(n:Int)<=i/\i<n:=by unfold l0 at h;by_cases h0:0<=i;{rw[if_pos h0]at h;by_cases h1:i<n;{rw[if_pos h1]at h;have e:i.toNat=j:=Option.some.inj h;exact⟨by rw[seqIndex_of h0 h1,e],by lia,by lia,h1⟩};rw[if_neg h1]at h;cases h};rw[if_neg h0]at h;by_cases h1:-(n:Int)<=i;{rw[if_pos h1]at h;have e:(i+n).toNat=j:=Option.some.inj h;exact⟨by rw[seqIndex_neg (by lia) h1,e],by lia,h1,by lia⟩};rw[if_neg h1]at h;cases h
def vN{α:Type}{xs:List α}{i:Int}{v:α}(h:dP xs i=some v):∃j,seqIndex? i xs.length=some j/\xs[j]?=some v/\j<xs.length/\-(xs.length:Int)<=i/\i<xs.length:=by
 unfold dP at h;cases e:l0 xs.length i with
 |none=>rw[e]at h;cases h
 |some j=>rw[e]at h;obtain⟨h1,h2,h3,h4⟩:=BD e;exact⟨j,h1,h,h2,h3,h4⟩
def nv (b:Expr):Prop:=∀o i,subscripted b false o i=operate [o,i] (getItem o i)
noncomputable def pR (X:Cx)(r:R2):Prop:=
 ∀(value slice:Expr)(pins:Zs)(s:Shared)(U:St)(H:Hp) (x y:V)(v u:Value)(Q:VK),Inv X pins U H s->RelV x v->RelV y u->r x y H Q->
  subscripted slice false v u=operate [v,u] (getItem v u)->wpAny (model X.prog X.w) X.A (subscriptTail value slice v u) (EP X pins U Q) X.xe s
noncomputable def OZ (X:Cx)(id:String)(r:V->List V->Hp->VK->Prop):Prop:=
 ∀(pins:Zs)(s:Shared)(U:St)(H:Hp) (x:V)(xs:List V)(v:Value)(us:A02)(Q:VK),Inv X pins U H s->RelV x v->Vals xs us->r x xs H Q->
  wpAny (model X.prog X.w) X.A (call (.builtin id) (v::us)) (EP X pins U Q) X.xe s
section
variable{X:Cx}{a b:Expr}{ta tb:TE}{pos:Pos}
def pR.or{r r':R2}(h:pR X r)(h':pR X r'):pR X (λx y H Q=>r x y H Q\/r' x y H Q):=by intro value slice pins s U H x y v u Q I rx ry q hs;rcases q with q|q;{exact h value slice pins s U H x y v u Q I rx ry q hs};exact h' value slice pins s U H x y v u Q I rx ry q hs
def oR{r:R2}(hr:pR X r)(ha:PE X a ta)(hb:PE X b tb)(hs:nv b):PE X (.Subscript a b pos) (OU r ta tb):=by intro pins s U H Q I h;exact Subscript_ (HN ha hb I h λv u s2 x y H2 I2 rx ry q=>hr a b pins s2 U H2 x y v u Q I2 rx ry q (hs _ _))
inductive KI(K:Zx) (x:V) (y:V)(H:Hp)(Q:VK):Prop
 |mk:∀p xs i v,(x=.ref p)->(y=.int i)->(bF K H p xs)->(dP xs i=some v)->(Q v H)->KI K x y H Q
def NS (K:Zx):R2:=λx y H Q=>KI K x y H Q
inductive Kg(K:Zx) (x:V) (y:V)(H:Hp)(Q:VK):Prop
 |mk:∀p xs i v,(x=.ref p)->(y=.int i)->(bO K H p xs)->(dP xs i=some v)->(Q v H)->Kg K x y H Q
def OS (K:Zx):R2:=λx y H Q=>Kg K x y H Q
inductive Kp(x:V) (y:V)(H:Hp)(Q:VK):Prop
 |mk:∀z i c,(x=.str z)->(y=.int i)->(z.length<=sizeLine)->(dP z.cps.toList i=some c)->(Q (.str ⟨#[c]⟩) H)->Kp x y H Q
def NL:R2:=λx y H Q=>Kp x y H Q
def Mf:pR X (NS X.K):=by
 intro value slice pins s U H x y v u Q I rx ry h hs;obtain⟨p,xs,i,z,rfl,rfl,hq,he,q⟩:=h;cases rx;obtain⟨t,rfl⟩:=ry;obtain⟨its,r,pl,hz⟩:=I.list hq;obtain⟨j,h1,h2,h3,h4,h5⟩:=vN he;obtain⟨w,ew,rw'⟩:=r.get h2;have hl:=r.length;have hn:=nP;have fin:EP X pins U Q w s:=⟨z,H,I,rw',q⟩;by_cases h0:0<=i
 .have hj:i.toNat=j:=by rw[seqIndex_of h0 h5]at h1;exact Option.some.inj h1
  exact item_listR pl.isList h0 (by lia) (by rw[hj];simpa using ew) fin hs
 have hj:(i+(its.toArray.size:Int)).toNat=j:=by rw[seqIndex_neg (by lia) h4]at h1;rw[VM,<-hl];exact Option.some.inj h1
 exact subscriptTail_builtinR (x:=w) pl.isList.typeIs slot_list_getitem.lookup
  (wpAny_getItem_list_neg (Q:=λr s'=>r=w/\EP X pins U Q r s') pl.isList (by lia) (by rw[VM]<;>lia) (by lia) (by rw[hj];simpa using ew) ⟨rfl,fin⟩) hs
def mQ:pR X (OS X.K):=by
 intro value slice pins s U H x y v u Q I rx ry h hs;obtain⟨p,xs,i,z,rfl,rfl,hq,he,q⟩:=h;cases rx;obtain⟨t,rfl⟩:=ry;obtain⟨its,r,pl,hz⟩:=I.tuple hq;obtain⟨j,h1,h2,h3,h4,h5⟩:=vN he;obtain⟨w,ew,rw'⟩:=r.get h2;have hl:=r.length;have hn:=nP;have fin:EP X pins U Q w s:=⟨z,H,I,rw',q⟩;exact subscriptTail_builtinR (x:=w) pl.typeIs slot_tuple_getitem.lookup
  (getItem_tuple (j:=j) (Q:=λr s'=>r=w/\EP X pins U Q r s') pl (by lia) (by lia) (by rw[VM,<-hl];exact h1) (by simpa using ew) ⟨rfl,fin⟩) hs
def MZ:pR X NL:=by
 intro value slice pins s U H x y v u Q I rx ry h hs;obtain⟨z,i,c,rfl,rfl,hz,he,q⟩:=h;obtain⟨t,rfl⟩:=rx;obtain⟨t',rfl⟩:=ry;obtain⟨j,h1,h2,h3,h4,h5⟩:=vN he;have hl:z.cps.toList.length=z.length:=by simp[Str.length]
 rw[hl]at h1 h4 h5;have hn:=nP;exact tail_any (typeIs_str s z t) slot_str_getitem.lookup (getItem_str (c:=c) (by
  have e1:decide (i < -(2^63:Int))=false:=Vy (by lia)
  have e2:decide (i >= 2^63)=false:=Vy (by lia)
  rw[e1,e2,Bool.or_false]) (by rw[h1];simpa using h2) ⟨.str ⟨#[c]⟩,H,I.tok _,⟨_,rfl⟩,q⟩) hs
def PR (K:Zx):R2:=λx y H Q=>NS K x y H Q\/OS K x y H Q\/NL x y H Q
def EB:pR X (PR X.K):=Mf.or (mQ.or MZ)
def CB(its:A02) (n j:Nat)(u:Value):Obj.mapSeq (·.setIfInBounds j u) { cls:=.type "list",data:=.seq its.toArray n }={ cls:=.type "list",data:=.seq (its.set j u).toArray n }:=by simp[Obj.mapSeq]
theorem Inv.lst{pins:Zs}{U:St}{H:Hp}{s:Shared}{p:Addr}{xs:List V}(I:Inv X pins U H s)(h:H p=some (.lst xs)) : ∃(its:A02) (n:Nat),Vals xs its/\s.heap.get? p=some { cls:=.type "list",data:=.seq its.toArray n }/\xs.length<=sizeLine:=by obtain⟨z,its,n,r,e⟩:=I.hok p _ h;exact⟨its,n,r,e,z⟩
def Inv.Nt{pins:Zs}{U:St}{H:Hp}{s:Shared}{p:Addr}{xs ys:List V}{its its':A02}{n n':Nat}{f:Obj->Obj}(I:Inv X pins U H s)(h:H p=some (.lst xs))(ho:s.heap.get? p=some { cls:=.type "list",data:=.seq its.toArray n })(hf:f { cls:=.type "list",data:=.seq its.toArray n }={ cls:=.type "list",data:=.seq its'.toArray n' })(r:Vals ys its')(hz:ys.length<=sizeLine) (t:Nat) : Inv X pins U (upd H p (.lst ys)) { s with heap:=s.heap.update p f,toks:=t }:=by
 have e:(s.heap.update p f).get? p=some { cls:=.type "list",data:=.seq its'.toArray n' }:=by rw[XU f ho (by rw[hf]<;>rfl),hf]
 refine I.write (x:=p) (e:=p) (by rw[h];trivial) (.inl rfl) (λb u hb q=>(Wc _ _ (Ne.symm hb)).trans q) ⟨_,e⟩ ?_;exact⟨hz,its',n',r,e⟩
inductive G7(o:V) (i:V) (v:V)(H:Hp)(Q:(Hp->Prop)):Prop
 |mk:∀p xs k j,(o=.ref p)->(i=.int k)->(H p=some (.lst xs))->(l0 xs.length k=some j)->(Q (upd H p (.lst (xs.set j v))))->G7 o i v H Q
def Kq:V->V->V->Hp->(Hp->Prop)->Prop:=λo i v H Q=>G7 o i v H Q
def set_list:HK X Kq:=by
 intro pins s U H o i v ov iv u Q I ro ri rv h;obtain⟨p,xs,k,j,rfl,rfl,hp,hj,q⟩:=h;cases ro;obtain⟨t,rfl⟩:=ri;obtain⟨its,n,r,ho,hz⟩:=I.lst hp;obtain⟨h1,h2,h3,h4⟩:=BD hj;have hl:=r.length;have hn:=nP;have I':Inv X pins U (upd H p (.lst (xs.set j v))) { s with heap:=s.heap.update p (Obj.mapSeq (·.setIfInBounds j u)) }:=
  I.Nt hp ho (CB its n j u) (r.set rv j) (by rw[VT];exact hz) s.toks
 by_cases h0:0<=k
 .have hk:k.toNat=j:=by rw[seqIndex_of h0 h4]at h1;exact Option.some.inj h1
  exact PySem.W.ki_setAt ho h0 (by lia) (by rw[VM,<-hl];exact h4) (by rw[hk];exact⟨_,I',q⟩)
 have hk:(k+(its.toArray.size:Int)).toNat=j:=by rw[seqIndex_neg (by lia) h3]at h1;rw[VM,<-hl];exact Option.some.inj h1
 exact PySem.W.ki_setBack ho (by lia) (by rw[VM,<-hl];exact h3) (by lia) (by rw[hk];exact⟨_,I',q⟩)
def yi(lo hi:Option Int) (n:Nat):(sliceBounds lo hi none n).1=((HT.aL n 0 lo:Nat):Int)/\(sliceBounds lo hi none n).2.1=((HT.aL n n hi:Nat):Int)/\(sliceBounds lo hi none n).2.2=1:=by
 have one:∀i:Int,(sliceBounds (some i) none none n).1=((HT.aL n 0 (some i):Nat):Int):=λi=>by simp only[sliceBounds,HT.aL,Option.getD_none,show(1:Int)>0 by decide,if_true];by_cases h:i<0;{simp only[h,if_true]<;>lia};simp only[h,Ww]<;>lia
 refine⟨?_,?_,rfl⟩
 .cases lo with
  |none=>simp[sliceBounds,HT.aL]
  |some i=>exact one i
 cases hi with
 |none=>simp[sliceBounds,HT.aL]
 |some i=>exact one i
def xO(its:A02)(lo hi:Option Int):slicePick its.toArray lo hi none=((its.drop (HT.aL its.length 0 lo)).take (HT.aL its.length its.length hi-HT.aL its.length 0 lo)).toArray:=by obtain⟨h1,h2,h3⟩:=yi lo hi its.toArray.size;unfold slicePick;rw[h1,h2,h3];simp only[sliceRange_one,pick_run,VM]<;>rfl
inductive JK(K:Zx) (x:V)(lo:Option Int)(hi:Option Int)(H:Hp)(Q:VK):Prop
 |mk:∀a xs,(x=.ref a)->(bF K H a xs)->(∀p,H p=none->Q (.ref p) (upd H p (.lst (oi xs lo hi))))->JK K x lo hi H Q
def Og (K:Zx):V->Option Int->Option Int->Hp->VK->Prop:=λx lo hi H Q=>JK K x lo hi H Q
def Mt:GF X (Og X.K):=by intro pins s U H x v vl vu lo hi sl Q I rx hs pl pu h;obtain⟨a,xs,rfl,hx,q⟩:=h;cases rx;obtain⟨its,r,ht,hz⟩:=I.list hx;have hlen:=r.length;refine⟨"list",_,slot_list_getitem.lookup,ht.isList.typeIs,?_⟩;refine wpAny_getItem_list_slice ht.isList hs pl pu .none (by simp) ?_ (by rw[VM]<;>lia);rw[xO,<-hlen];refine⟨.ref s.heap.objs.size,_,I.laid (t':=s.toks) (o:=.lst (oi xs lo hi)) (λb ob q=>VW _ q) (V5 _) ?_,rfl,q _ (I.hok.fresh (V5 _))⟩;exact⟨Vx (rO xs lo hi) hz,_,0,(r.drop (HT.aL xs.length 0 lo)).take (HT.aL xs.length xs.length hi-HT.aL xs.length 0 lo),W8 _ rfl⟩
def zY:b5 X (.builtin "len") (λxs H Q=>∃p ys,xs=[.ref p]/\(bF X.K H p ys\/bO X.K H p ys)/\Q (.int ys.length) H):=by intro pins s U H xs us Q I r h;obtain⟨p,ys,rfl,hq,q⟩:=h;obtain⟨u,rfl,rx⟩:=vals1 r;cases rx;have hn:=nP;rcases hq with hq|hq;{obtain⟨its,r',pl,hz⟩:=I.list hq;have hlen:=r'.length;exact Calls.call_len_list pl.isList (by simp only[VM]<;>lia) ⟨.int ys.length,H,I.tok _,⟨s.toks+1,by rw[VM,hlen]⟩,q⟩};obtain⟨its,r',pl,hz⟩:=I.tuple hq;have hlen:=r'.length;exact len_tuple pl (by simp only[VM]<;>lia) ⟨.int ys.length,H,I.tok _,⟨s.toks+1,by rw[VM,hlen]⟩,q⟩
def b5.or{f:Value}{r r':List V->Hp->VK->Prop}(h:b5 X f r)(h':b5 X f r'):b5 X f (λxs H Q=>r xs H Q\/r' xs H Q):=by intro pins s U H xs us Q I rs q;rcases q with q|q;{exact h pins s U H xs us Q I rs q};exact h' pins s U H xs us Q I rs q
def lg:b5 X (.type "list") (λxs H Q=>∃p ys,xs=[.ref p]/\(bF X.K H p ys\/bO X.K H p ys)/\∀l,H l=none->Q (.ref l) (upd H l (.lst ys))):=by
 intro pins s U H xs us Q I r h;obtain⟨p,ys,rfl,hq,q⟩:=h;obtain⟨u,rfl,rx⟩:=vals1 r;cases rx;have fin:∀(its:A02),Vals ys its->ys.length<=sizeLine->∀(h':Heap) (c':Nat),(∀b o',s.heap.get? b=some o'->h'.get? b=some o')->
   h'.get? s.heap.objs.size=some { cls:=.type "list",dict:=none,data:=.seq its.toArray c',slots:=#[] }->EP X pins U Q (.ref s.heap.objs.size) { s with heap:=h' }:=λits r' hz h' c' kp e=>
  ⟨.ref s.heap.objs.size,_,I.laid (t':=s.toks) kp (V5 _) (show bE X.prog X.w _ h' _ (.lst ys)from⟨hz,its,c',r',e⟩),rfl,q _ (I.hok.fresh (V5 _))⟩
 rcases hq with hq|hq;{obtain⟨its,r',pl,hz⟩:=I.list hq;have hlen:=r'.length;obtain⟨o,ho,hc,n,hd⟩:=pl.isList;exact call_list_seq p (.inl rfl) ho hc hd (λh' c' kp e=>fin its r' hz h' c' kp e) (by simp only[VM]<;>lia)};obtain⟨its,r',pl,hz⟩:=I.tuple hq;have hlen:=r'.length;obtain⟨o,ho,hc,n,hd⟩:=pl;exact call_list_seq p (.inr rfl) ho hc hd (λh' c' kp e=>fin its r' hz h' c' kp e) (by simp only[VM]<;>lia)
def pC:b5 X (.type "tuple") (λxs H Q=>∃p ys,xs=[.ref p]/\((bF X.K H p ys/\∀l,H l=none->Q (.ref l) (upd H l (.tup ys)))\/(bO X.K H p ys/\Q (.ref p) H))):=by
 intro pins s U H xs us Q I r h;obtain⟨p,ys,rfl,h⟩:=h;obtain⟨u,rfl,rx⟩:=vals1 r;cases rx;rcases h with⟨hq,q⟩|⟨hq,q⟩
 .obtain⟨its,r',pl,hz⟩:=I.list hq;have hlen:=r'.length;refine call_tuple_list pl.isList (λh' kp=>?_) (by simp only[VM]<;>lia);have I1:Inv X pins U H { s with heap:=h' }:=I.kept (t':=s.toks) kp;have I2:Inv X pins U (upd H h'.objs.size (.tup ys)) { s with heap:=h'.push { cls:=.type "tuple",data:=.seq its.toArray } }:=
   I1.laid (t':=s.toks) (λb o e=>VW _ e) (V5 _) (show bE X.prog X.w _ _ _ (.tup ys)from⟨hz,its,r',IsTup.new _ _⟩)
  exact⟨.ref h'.objs.size,_,I2,rfl,q _ (I1.hok.fresh (V5 _))⟩
 obtain⟨its,r',pl,hz⟩:=I.tuple hq;exact call_tuple_same pl ⟨.ref p,H,I,rfl,q⟩
noncomputable def Pg (K:Zx)(T:String) (x:V)(H:Hp):Prop:=match x with
 |.str _=>T="str"
 |.int _=>T="int"
 |.ref p=>(T="list"/\∃xs,bF K H p xs)\/(T="tuple"/\∃o,K.lookup p=some o/\o.cls=.type "tuple"/\o.dict=none) \/
   (T="dict"/\((∃kvs,H p=some (.dK kvs))\/∃kvs,H p=some (.dT kvs)))\/(T="set"/\∃S n,H p=some (.set S n))
 |_=>False
def GX{pins:Zs}{U:St}{H:Hp}{s:Shared}{T:String}{x:V}{v:Value}(I:Inv X pins U H s)(r:RelV x v)(ty:Pg X.K T x H) : s.TypeIs v T/\∀a,v=.ref a->∃ob,s.heap.get? a=some ob/\ob.dict=none:=by
 cases x with
 |str z=>obtain⟨t,rfl⟩:=r;cases (show T="str" from ty);exact⟨typeIs_str s z t,λ_ e=>nomatch e⟩
 |int i=>obtain⟨t,rfl⟩:=r;cases (show T="int" from ty);exact⟨typeIs_int s i t,λ_ e=>nomatch e⟩
 |ref p=>
  cases r;rcases ty with⟨rfl,xs,hq⟩|⟨rfl,o,hk,hc,hd⟩|⟨rfl,hk⟩|⟨rfl,S,n,hk⟩;{obtain⟨its,_,pl,_⟩:=I.list hq;refine⟨pl.isList.typeIs,λa e=>?_⟩;cases e;obtain⟨o,n,e,c,hd,_⟩:=pl;exact⟨o,e,hd⟩};{refine⟨⟨o,I.dG p o hk,hc⟩,λa e=>?_⟩;cases e;exact⟨o,I.dG _ o hk,hd⟩}
  .have z:∃o,s.heap.get? p=some o/\o.ExactDict:=by rcases hk with⟨kvs,hk⟩|⟨kvs,hk⟩;{obtain⟨_,_,_,_,o,_,_,e,ex,_⟩:=I.hok p _ hk;exact⟨o,e,ex⟩};obtain⟨_,_,_,_,o,_,_,e,ex,_⟩:=I.hok p _ hk;exact⟨o,e,ex⟩
   obtain⟨o,e,ex⟩:=z;refine⟨⟨o,e,ex.1⟩,λa e2=>?_⟩;cases e2;exact⟨o,e,ex.2.1⟩
  obtain⟨o,_,_,_,e,ex,_⟩:=I.hok p _ hk;refine⟨⟨o,e,ex.1⟩,λa e2=>?_⟩;cases e2;exact⟨o,e,ex.2.1⟩
 |_=>exact False.elim ty
def Uk (K:Zx)(T:String)(r:V->List V->Hp->VK->Prop)(to:TE):TE:=λU H Q=>to U H λx H1=>Pg K T x H1/\r x [] H1 Q
def UW (K:Zx)(T:String)(r:V->List V->Hp->VK->Prop)(to:TE)(t:TA):TE:=λU H Q=>to U H λx H1=>Pg K T x H1/\t U H1 λxs H2=>r x xs H2 Q
variable{o e:Expr}{es:A05}{to:TE}{t:TA}{name:Str}{apos cpos:Pos}{T id:String}{r:V->List V->Hp->VK->Prop}
def Es(pa:PlainAttrs T)(slot:Slot T name id)(hty:typeOf (.builtin id)=pure (.type "method_descriptor"))(hm:OZ X id r)(ho:PE X o to)(hbase:attributeBase o name X.env (eval o X.env)=eval o X.env:=by rfl)(hline:(apos.endLine==cpos.line)=true:=by rfl):PE X (.Call (.Attribute o name apos) [] [] cpos) (Uk X.K T r to):=by intro pins s U H Q I h;refine wpAny_Call_method0_late hbase hline (aM (ho pins s U H _ I h) λv s1 ⟨x,H1,I1,r1,ty,q1⟩=>?_);obtain⟨h1,h2⟩:=GX I1 r1 ty;exact⟨T,id,pa,slot,hty,h1,h2,ZM rfl (PySem.evalArgs_none (hm pins s1 U H1 x [] v [] Q I1 r1 .nil q1))⟩
def xU(pa:PlainAttrs T)(slot:Slot T name id)(hty:typeOf (.builtin id)=pure (.type "method_descriptor"))(hm:OZ X id r)(ho:PE X o to)(ha:PA X (e::es) t)(hbase:attributeBase o name X.env (eval o X.env)=eval o X.env:=by rfl)(hfew:((backTo cpos (starEach (e::es) X.env)).all (λx=>!x.1)&&(backToKw cpos (keywordEach [] X.env)).all (λx=>x.1.isSome) && decide ((e::es).length+([]:List Keyword).length+(if([]:List Keyword).isEmpty then 0 else 1)<30))=true:=by rfl)(hline:(apos.endLine==cpos.line)=true:=by rfl)(hs:starEach (e::es) X.env=(false,eval e X.env)::starEach es X.env:=by rfl)(hplain:(backTo cpos (starEach es X.env)).any (·.1)=false:=by rfl) : PE X (.Call (.Attribute o name apos) (e::es) [] cpos) (UW X.K T r to t):=by intro pins s U H Q I h;refine wpAny_Call_method_late hbase hfew hline rfl (aM (ho pins s U H _ I h) λv s1 ⟨x,H1,I1,r1,ty,q1⟩=>?_);obtain⟨h1,h2⟩:=GX I1 r1 ty;refine⟨T,id,pa,slot,hty,h1,h2,?_⟩;have hA:=ha cpos pins s1 U H1 _ I1 q1;rw[hs]at hA⊢;refine ZM (by show(false||(backTo cpos (starEach es X.env)).any (·.1))=false;rw[hplain]<;>rfl) (Calls.evalArgs_plain ?_);exact aM hA λus s2 ⟨vs,H2,I2,r2,q2⟩=>hm pins s2 U H2 x vs v us Q I2 r1 r2 q2
end
noncomputable def vj (X:Cx)(id:String)(r:V->List V->Hp->VK->Prop):Prop:=
 ∀(pins:Zs)(s:Shared)(U:St)(H:Hp) (x:V)(xs:List V)(v:Value)(us:A02)(Q:VK),Inv X pins U H s->RelV x v->Vals xs us->r x xs H Q->
  wpAny (model X.prog X.w) X.A (call (.builtin id) (v::us)) (EP X pins U Q) X.xe s
def Vals.one{x:V}{us:A02}(h:Vals [x] us):∃u,us=[u]/\RelV x u:=by cases h with|cons r t=>cases t;exact⟨_,rfl,r⟩
def Vals.two{x y:V}{us:A02}(h:Vals [x,y] us):∃u v,us=[u,v]/\RelV x u/\RelV y v:=by cases h with|cons r t=>cases t with|cons q t=>cases t;exact⟨_,_,rfl,r,q⟩
def Vals.zero:∀{us:A02},Vals [] us->us=[]
 |_,.nil=>rfl
theorem Vals.rep{xs:List V}{us:A02}(h:Vals xs us):∀k:Nat,Vals (List.replicate k xs).flatten (List.replicate k us).flatten
 |0=>.nil
 |k+1=>by rw[Wx,Wx,XW,XW];exact Vals.append h (Vals.rep h k)
theorem foldl_rep(its:A02):∀(k:Nat)(acc:A02), List.foldl (λx1 x2=>x1++x2) acc.toArray (List.replicate k its.toArray)=(acc++(List.replicate k its).flatten).toArray
 |0,acc=>by simp
 |k+1,acc=>by
  have e:acc.toArray++its.toArray=(acc++its).toArray:=by simp
  have e2:(acc++its)++(List.replicate k its).flatten=acc++(List.replicate (k+1) its).flatten:=by rw[Wx,XW,Vz]
  rw[<-e2,<-foldl_rep its k (acc++its),<-e,Wx,List.foldl_cons]
section
variable{X:Cx}{pins:Zs}{U:St}{H:Hp}{s:Shared}{l b:Addr}{xs ys zs:List V}
def Inv.vW{its its':A02}{n:Nat}{f:Zz->Zz}{t':Nat}(I:Inv X pins U H s)(hH:H l=some (.lst xs))(e:s.heap.get? l=some { cls:=.type "list",data:=.seq its.toArray n })(hf:f its.toArray=its'.toArray)(hv:Vals ys its')(hz:ys.length<=sizeLine) : Inv X pins U (upd H l (.lst ys)) { s with heap:=s.heap.update l (Obj.mapSeq f),toks:=t' }:=by have q:=PySem.IsL.update e f;rw[hf]at q;refine I.write (x:=l) (e:=l) (by rw[hH];exact trivial) (.inl rfl) (λb' u hb hu=>(Wc s.heap (Obj.mapSeq f) (Ne.symm hb)).trans hu) ⟨_,q⟩ ?_;exact⟨hz,its',_,hv,q⟩
def Inv.N8{its:A02}{t':Nat}(I:Inv X pins U H s)(hv:Vals ys its)(hz:ys.length<=sizeLine) : Inv X pins U (upd H s.heap.objs.size (.lst ys)) { s with heap:=s.heap.push { cls:=.type "list",data:=.seq its.toArray },toks:=t' }:=
 I.laid (λ_ _ q=>VW _ q) (V5 _) ⟨hz,its,0,hv,W8 _ rfl⟩
theorem Inv.fresh(I:Inv X pins U H s):H s.heap.objs.size=none:=I.hok.fresh (V5 _)
def Inv.vM(I:Inv X pins U H s)(hH:H l=some (.lst xs)):xs.length<=sizeLine/\∃(its:A02) (n:Nat),Vals xs its/\xs.length=its.length/\s.heap.get? l=some { cls:=.type "list",data:=.seq its.toArray n }:=by obtain⟨z,its,n,r,e⟩:=I.hok l _ hH;exact⟨z,its,n,r,r.length,e⟩
def nX{n:Nat}(h:n<=sizeLine):Builtin.List.listTooLong n=false:=by unfold Builtin.List.listTooLong;exact Vy (by lia)
end
section
variable{X:Cx}
def AD:V->List V->Hp->VK->Prop:=λx vs H Q=>∃l xs y,x=.ref l/\vs=[y]/\H l=some (.lst xs)/\xs.length<sizeLine/\Q .aU (upd H l (.lst (xs++[y])))
def cu:vj X "list.append" AD:=by intro pins s U H x vs v us Q I rx rv h;obtain⟨l,xs,y,rfl,rfl,hH,hz,q⟩:=h;cases rx;obtain⟨u,rfl,ru⟩:=rv.one;obtain⟨z,its,n,r,hl,e⟩:=I.vM hH;refine XD F.slot_list_append ⟨_,e,rfl⟩ F.entry_list_append (F.args_list_append_2 _ _) (PySem.list_append l its.toArray n u (by rw[VM];lia)) ⟨e,?_⟩;refine⟨.aU,_,I.vW (its':=its++[u]) hH e (by simp) (r.append (.cons ru .nil)) ?_,rfl,q⟩;rw[VH,List.length_singleton];lia
inductive AK(x:V)(vs:List V)(H:Hp)(Q:VK):Prop
 |mk:∀l xs,(x=.ref l)->(vs=[])->(H l=some (.lst xs))->(Q .aU (upd H l (.lst [])))->AK x vs H Q
def NV:V->List V->Hp->VK->Prop:=λx vs H Q=>AK x vs H Q
def IX:vj X "list.clear" NV:=by intro pins s U H x vs v us Q I rx rv h;obtain⟨l,xs,rfl,rfl,hH,q⟩:=h;cases rx;have hus:=rv.zero;subst hus;obtain⟨z,its,n,r,hl,e⟩:=I.vM hH;refine XD F.slot_list_clear ⟨_,e,rfl⟩ F.entry_list_clear (F.args_list_clear_1 _) (AutoSeq1.list_clear_list_0 l its.toArray n (by rw[VM];lia)) ⟨e,?_⟩;exact⟨.aU,_,I.vW (its':=[]) (ys:=[]) hH e rfl .nil (W7 _),rfl,q⟩
def len_rep{α:Type}(xs:List α) (k:Nat):(List.replicate k xs).flatten.length=k*xs.length:=by
 induction k with
 |zero=>simp
 |succ k ih=>rw[Wx,XW,VH,ih,Nat.succ_mul,Nat.add_comm]
end
section
variable{κ:Type} [DecidableEq κ]
def cP (kvs:List (κ×V))(k:κ):Option V:=(kvs.find? λkv=>decide (kv.1=k)).map (·.2)
def putK (kvs:List (κ×V))(k:κ) (v:V):List (κ×V):=
 if(kvs.any λkv=>decide (kv.1=k))=true then kvs.map (λkv=>if kv.1=k then(kv.1,v)else kv)else kvs++[(k,v)]
def tD{p:κ×V}{r:List (κ×V)}{k:κ}(e:p.1=k):cP (p::r) k=some p.2:=by simp[cP,Xo,e]
def tR{p:κ×V}{r:List (κ×V)}{k:κ}(e:¬p.1=k):cP (p::r) k=cP r k:=by simp[cP,Xo,e]
theorem sQ(k:κ):∀kvs:List (κ×V),(kvs.any λkv=>decide (kv.1=k))=(cP kvs k).isSome
 |[]=>rfl
 |p::r=>by rw[Wy];by_cases e:p.1=k;{simp only[tD e,Vw e,Bool.true_or,Option.isSome_some]};rw[tR e,Vy e,Bool.false_or];exact sQ k r
def se(kvs:List (κ×V))(k:κ) (v:V):(putK kvs k v).length<=kvs.length+1:=by unfold putK;split;{rw[V4];lia};rw[VH,VI,WD];lia
def jq.gr{o:Option V}{u:Zy}(r:jq o u):o.isSome=u.isSome:=by
 cases o with
 |none=>cases u with
  |none=>rfl
  |some _=>exact(show False from r).elim
 |some _=>cases u with
  |none=>exact(show False from r).elim
  |some _=>rfl
def KV.val{kvs:List (κ×V)}{vs:List (κ×Value)}(r:KV kvs vs)(k:κ):jq (cP kvs k) (valueAt vs k):=by
 unfold KV at r;induction r with
 |nil=>exact Wn
 |@cons p q ps qs h t ih=>
  obtain⟨h1,h2⟩:=h;by_cases e:p.1=k
  .have e':q.1=k:=h1.symm.trans e;have b:valueAt (q::qs) k=some q.2:=by simp[valueAt,Xo,e']
   rw[tD e,b];exact h2
  have e':¬q.1=k:=λz=>e (h1.trans z);have b:valueAt (q::qs) k=valueAt qs k:=by simp[valueAt,Xo,e']
  rw[tR e,b];exact ih
theorem KV.any{kvs:List (κ×V)}{vs:List (κ×Value)}(r:KV kvs vs)(k:κ):(kvs.any λkv=>decide (kv.1=k))=vs.any λkv=>decide (kv.1=k):=by
 unfold KV at r;induction r with
 |nil=>rfl
 |cons h t ih=>rw[Wy,Wy,ih,h.1]
def KV.repl{kvs:List (κ×V)}{vs:List (κ×Value)}(r:KV kvs vs)(k:κ){y:V}{u:Value}(ry:RelV y u) : KV (kvs.map λkv=>if kv.1=k then(kv.1,y)else kv) (vs.map λkv=>if kv.1=k then(kv.1,u)else kv):=by
 unfold KV at r⊢;induction r with
 |nil=>exact .nil
 |@cons p q ps qs h t ih=>rw[VN,VN];refine .cons ?_ ih;obtain⟨h1,h2⟩:=h;by_cases e:p.1=k;{rw[if_pos e,if_pos (h1.symm.trans e)];exact⟨h1,ry⟩};rw[if_neg e,if_neg (λz=>e (h1.trans z))];exact⟨h1,h2⟩
def KV.put{kvs:List (κ×V)}{vs:List (κ×Value)}(r:KV kvs vs)(k:κ){y:V}{u:Value}(ry:RelV y u):KV (putK kvs k y) (stored vs k u):=by unfold putK stored;rw[r.any k];by_cases e:(vs.any λkv=>decide (kv.1=k))=true;{rw[if_pos e,if_pos e];exact r.repl k ry};rw[if_neg e,if_neg e];exact Paired.snoc r ⟨rfl,ry⟩
theorem KV.length{kvs:List (κ×V)}{vs:List (κ×Value)}(r:KV kvs vs):kvs.length=vs.length:=Paired.length r
end
def uw{P:Program}{w:World}{k:Key}{u:Value}(r:RelV (kV k) u):(dB P w).is k u=true:=by
 cases k with
 |inl i=>obtain⟨t,e⟩:=(show ∃t,u=Value.int i t from r);subst e;exact Al P w i t
 |inr x=>obtain⟨t,e⟩:=(show ∃t,u=Value.str x t from r);subst e;exact Av P w x t
theorem wV{P:Program}{w:World}:∀{ks:List Key}{us:A02},Vals (ks.map kV) us->ItemsAre (dB P w) ks us
 |[],_,r=>by rw[Yo]at r;cases r;exact .nil
 |k::ks,_,r=>by
  rw[VN]at r;cases r with
  |cons h t=>exact .cons (uw h) (wV t)
abbrev KT (H:Hp):List (List Key×V)->List (List Key×Addr×Value)->Prop:=Paired λp q=>p.1=q.1/\H q.2.1=some (.tup (p.1.map kV))/\RelV p.2 q.2.2
def KT.val{H:Hp}{kvs:List (List Key×V)}{xs:List (List Key×Addr×Value)}(r:KT H kvs xs)(k:List Key):jq (cP kvs k) ((atKey xs k).map (·.2)):=by
 induction r with
 |nil=>exact Wn
 |@cons p q ps qs h t ih=>
  obtain⟨h1,_,h2⟩:=h;by_cases e:p.1=k
  .have e':q.1=k:=h1.symm.trans e;have b:atKey (q::qs) k=some q.2:=by simp[atKey,Xo,e']
   rw[tD e,b];exact h2
  have e':¬q.1=k:=λz=>e (h1.trans z);have b:atKey (q::qs) k=atKey qs k:=by simp[atKey,Xo,e']
  rw[tR e,b];exact ih
def KT.repl{H:Hp}{kvs:List (List Key×V)}{xs:List (List Key×Addr×Value)}(r:KT H kvs xs)(k:List Key){y:V}{u:Value}(ry:RelV y u) : KT H (kvs.map λkv=>if kv.1=k then(kv.1,y)else kv) (xs.map (putAt k u)):=by
 induction r with
 |nil=>exact .nil
 |@cons p q ps qs h t ih=>rw[VN,VN];refine .cons ?_ ih;obtain⟨h1,h2,h3⟩:=h;unfold putAt;by_cases e:p.1=k;{rw[if_pos e,if_pos (h1.symm.trans e)];exact⟨h1,h2,ry⟩};rw[if_neg e,if_neg (λz=>e (h1.trans z))];exact⟨h1,h2,h3⟩
def KT.put{H:Hp}{kvs:List (List Key×V)}{xs:List (List Key×Addr×Value)}(r:KT H kvs xs)(k:List Key){b:Addr}{y:V}{u:Value}(hb:H b=some (.tup (k.map kV)))(ry:RelV y u) : KT H (putK kvs k y) (storedH xs k b u):=by
 have e:(kvs.any λkv=>decide (kv.1=k))=(atKey xs k).isSome:=by rw[sQ,(r.val k).gr,ZN]
 unfold putK storedH;rw[e];by_cases q:(atKey xs k).isSome=true;{rw[if_pos q,if_pos q];exact r.repl k ry};rw[if_neg q,if_neg q];exact Paired.snoc r ⟨rfl,hb,ry⟩
def KT.keeps{H H':Hp}{kvs:List (List Key×V)}{xs:List (List Key×Addr×Value)}(r:KT H kvs xs)(ht:∀b ys,H b=some (.tup ys)->H' b=some (.tup ys)):KT H' kvs xs:=
 Paired.Ii r λ_ _ z=>⟨z.1,ht _ _ z.2.1,z.2.2⟩
section
variable{P:Program}{w:World}{H:Hp}{h:Heap}{a:Addr}
def JQ{u:HO}(ok:dH P w H h)(e:Rd H a u):bE P w H h a u:=e.ok ok
def qW{kvs:List (Key×V)}(ok:dH P w H h)(e:Rd H a (.dK kvs)):kvs.length<=sizeLine/\(a==sysModules)=false/\∃vs,KV kvs vs/\h.DictOf (dB P w) a vs:=
 show bE P w H h a (.dK kvs)from JQ ok e
def Rk{kvs:List (Key×V)}(ok:dH P w H h)(e:H a=some (.dK kvs)):kvs.length<=sizeLine/\(a==sysModules)=false/\∃vs,KV kvs vs/\h.DictOf (dB P w) a vs:=qW ok (.inl e)
def nL{ks:List Key}(ok:dH P w H h)(e:H a=some (.tup (ks.map kV))):(tupleKind (dB P w)).is h ks a:=by obtain⟨_,its,r,o,h1,h2,n,h3⟩:=(show bE P w H h a (.tup (ks.map kV))from ok a _ e);exact⟨o,its.toArray,n,h1,h2,h3,by simpa using wV r⟩
def ux{kvs:List (List Key×V)}(ok:dH P w H h)(e:Rd H a (.dT kvs)):kvs.length<=sizeLine/\(a==sysModules)=false /\ ∃xs,KT H kvs xs/\h.DictOfH (tupleKind (dB P w)) a xs:=by
 obtain⟨z,y,xs,r,o,es,ep,h1,h2,h3,h4,h5⟩:=(show bE P w H h a (.dT kvs)from JQ ok e);refine⟨z,y,xs,r,o,es,ep,h1,h2,h3,h4,λx hx=>?_,h5⟩;have all:∀{l:List (List Key×V)}{m:List (List Key×Addr×Value)},KT H l m->∀x∈m,(tupleKind (dB P w)).is h x.1 x.2.1:=by
  intro l m q;induction q with
  |nil=>intro x hx;exact nomatch hx
  |@cons p q ps qs hq t ih=>intro x hx;rcases VB.mp hx with e|hx;{subst e;exact nL ok (by rw[<-hq.1];exact hq.2.1)};exact ih x hx
 exact all r x hx
def JW{kvs:List (List Key×V)}(ok:dH P w H h)(e:H a=some (.dT kvs)):kvs.length<=sizeLine/\(a==sysModules)=false /\ ∃xs,KT H kvs xs/\h.DictOfH (tupleKind (dB P w)) a xs:=ux ok (.inl e)
end
def jb (H:Hp)(a:Addr) (y:V)(r:Option V):Prop:=
 (∃kvs k,Rd H a (.dK kvs)/\y=kV k/\r=cP kvs k)\/∃kvs k b,Rd H a (.dT kvs)/\y=.ref b/\H b=some (.tup (k.map kV))/\r=cP kvs k
noncomputable def p9 (H:Hp)(a:Addr) (y v:V)(H':Hp):Prop:=
 (∃kvs k,H a=some (.dK kvs)/\y=kV k/\kvs.length<sizeLine/\H'=upd H a (.dK (putK kvs k v))) \/
 ∃kvs k b,H a=some (.dT kvs)/\y=.ref b/\H b=some (.tup (k.map kV))/\kvs.length<sizeLine/\H'=upd H a (.dT (putK kvs k v))
theorem jb.k{H:Hp}{a:Addr}{kvs:List (Key×V)}{k:Key}(e:H a=some (.dK kvs)):jb H a (kV k) (cP kvs k):=.inl ⟨kvs,k,.inl e,rfl,rfl⟩
def jb.t{H:Hp}{a b:Addr}{kvs:List (List Key×V)}{k:List Key}(e:H a=some (.dT kvs))(eb:H b=some (.tup (k.map kV))):jb H a (.ref b) (cP kvs k):=.inr ⟨kvs,k,b,.inl e,rfl,eb,rfl⟩
theorem p9.k{H:Hp}{a:Addr}{kvs:List (Key×V)}{k:Key}{v:V}(e:H a=some (.dK kvs))(hl:kvs.length<sizeLine):p9 H a (kV k) v (upd H a (.dK (putK kvs k v))):=.inl ⟨kvs,k,e,rfl,hl,rfl⟩
def p9.t{H:Hp}{a b:Addr}{kvs:List (List Key×V)}{k:List Key}{v:V}(e:H a=some (.dT kvs))(eb:H b=some (.tup (k.map kV)))(hl:kvs.length<sizeLine) : p9 H a (.ref b) v (upd H a (.dT (putK kvs k v))):=.inr ⟨kvs,k,b,e,rfl,eb,hl,rfl⟩
section
variable{X:Cx}{pins:Zs}{U:St}{H:Hp}{s:Shared}{a:Addr}{y v:V}{u r:Value}{o:Option V}{A:Around}{E:Zp}
def Inv.big(I:Inv X pins U H s):sysModules<s.heap.objs.size:=by have h:mainGlobals<s.heap.objs.size:=(I.mod.glob.keeps I.bk).lt;exact Nat.lt_trans (by decide) h
def EV{Q:Zp}(hu:A.units+1<cLine)(I:Inv X pins U H s)(g:jb H a y (some v))(ry:RelV y u)(h:∀w' s',Inv X pins U H s'->RelV v w'->Q w' s') : wpAny (model X.prog X.w) A (getItem (.ref a) u) Q E s:=by rcases g with⟨kvs,k,e,ey,l⟩|⟨kvs,k,b,e,ey,eb,l⟩;{subst ey;obtain⟨z,hd,vs,rel,dd⟩:=qW I.hok e;obtain⟨w',hw,rw'⟩:=jq.some_of (v:=v) (o:=valueAt vs k) (by rw[l];exact rel.val k);exact wpAny_getItem_of (uw ry) dd.mapOf hw (h w' _ (I.tok _) rw')};subst ey;cases (show u=Value.ref b from ry);obtain⟨z,hd,xs,rel,dd⟩:=ux I.hok e;obtain⟨w',hw,rw'⟩:=jq.some_of (v:=v) (o:=(atKey xs k).map (·.2)) (by rw[l];exact rel.val k);obtain⟨p,hp,hp2⟩:=XX.mp hw;refine wpAny_getItem_heap (YD hu) (nL I.hok eb) dd hp ?_;rw[hp2];exact h w' _ (I.tok _) rw'
def T7{Q:Zp}(hu:A.units+1<cLine)(I:Inv X pins U H s)(g:jb H a y o)(ry:RelV y u)(h:∀s',Inv X pins U H s'->Q (.bool o.isSome) s') : wpAny (model X.prog X.w) A (compareOp .In u (.ref a)) Q E s:=by rcases g with⟨kvs,k,e,ey,l⟩|⟨kvs,k,b,e,ey,eb,l⟩;{subst ey;obtain⟨z,hd,vs,rel,dd⟩:=qW I.hok e;refine wpAny_in_of (uw ry) hd dd.mapOf ?_;rw[<-(rel.val k).gr,<-l];exact h _ (I.tok _)};subst ey;cases (show u=Value.ref b from ry);obtain⟨z,hd,xs,rel,dd⟩:=ux I.hok e;refine wpAny_in_heap (YD hu) (nL I.hok eb) hd dd ?_;have q:=(rel.val k).gr;rw[ZN]at q;rw[<-q,<-l];exact h _ (I.tok _)
def Lo{Q:Zp}(hu:A.units+1<cLine)(I:Inv X pins U H s)(g:jb H a y o)(ry:RelV y u)(h:∀s',Inv X pins U H s'->Q (.bool (!o.isSome)) s') : wpAny (model X.prog X.w) A (compareOp .NotIn u (.ref a)) Q E s:=by rcases g with⟨kvs,k,e,ey,l⟩|⟨kvs,k,b,e,ey,eb,l⟩;{subst ey;obtain⟨z,hd,vs,rel,dd⟩:=qW I.hok e;refine wpAny_notIn_of (uw ry) hd dd.mapOf ?_;rw[<-(rel.val k).gr,<-l];exact h _ (I.tok _)};subst ey;cases (show u=Value.ref b from ry);obtain⟨z,hd,xs,rel,dd⟩:=ux I.hok e;refine wpAny_notIn_heap (YD hu) (nL I.hok eb) hd dd ?_;have q:=(rel.val k).gr;rw[ZN]at q;rw[<-q,<-l];exact h _ (I.tok _)
def v9{h':Heap}{t':Nat}{ob:HO}(I:Inv X pins U H s)(mu:Ea (H a))(hs:Heap.SameBut a s.heap h')(he:∃q,h'.get? a=some q)(new:bE X.prog X.w (upd H a ob) h' a ob) : Inv X pins U (upd H a ob) { s with heap:=h',toks:=t' }:=
 I.write (x:=a) (e:=a) mu (.inl rfl) (λb q hb z=>(hs.2 b hb).trans z) he new
def QF{P:Program}{w:World}{H':Hp}{h':Heap}{kvs:List (Key×V)}{vs:List (Key×Value)}(z:kvs.length<=sizeLine)(hd:(a==sysModules)=false)(rel:KV kvs vs)(dd:h'.DictOf (dB P w) a vs) : bE P w H' h' a (.dK kvs):=⟨z,hd,vs,rel,dd⟩
def HF{H':Hp}{Q:Unit->Shared->Prop}(hu:A.units+1<cLine)(I:Inv X pins U H s)(g:p9 H a y v H')(ry:RelV y u)(rv:RelV v r)(h:∀s',Inv X pins U H' s'->Q () s') : wpAny (model X.prog X.w) A (setItem (.ref a) u r) Q E s:=by
 rcases g with⟨kvs,k,e,ey,l,eH⟩|⟨kvs,k,b,e,ey,eb,l,eH⟩
 .subst ey eH;obtain⟨z,hd,vs,rel,dd⟩:=Rk I.hok e;have hz:vs.length<=sizeLine:=by rw[<-rel.length];exact z
  have hl:(putK kvs k v).length<=sizeLine:=by have:=se kvs k v;lia
  refine wpAny_setItem_pairs (hsz:=hz) (uw ry) dd λh' dd' hs=>h _ ?_;have he:∃q,h'.get? a=some q:=let⟨q,_,_,hq,_⟩:=dd';⟨q,hq⟩;exact v9 I (by rw[e];exact Wn) hs he (QF hl hd (rel.put k rv) dd')
 subst ey eH;cases (show u=Value.ref b from ry);obtain⟨z,hd,xs,rel,dd⟩:=JW I.hok e;have hz:xs.length<=sizeLine:=by rw[<-Paired.length rel];exact z
 have hl:(putK kvs k v).length<=sizeLine:=by have:=se kvs k v;lia
 refine wpAny_setItem_heap (hsz:=hz) (YD hu) (nL I.hok eb) dd λh' dd' hs=>h _ ?_;obtain⟨q,es,ep,hq,h2,h3,h4,_,h5⟩:=dd';refine v9 I (by rw[e];exact Wn) hs ⟨q,hq⟩ ⟨hl,hd,_,(rel.put k eb rv).keeps λc ys ec=>?_,q,es,ep,hq,h2,h3,h4,h5⟩;rw[aj (JU ec e (λz=>nomatch z))];exact ec
end
section
variable{X:Cx}{pins:Zs}{U:St}{H:Hp}{s:Shared}{a:Addr}{kvs:List (Key×V)}{k:Key}{u:Value}{A:Around}{E:Zp}
def Ra{Q:Zp}(I:Inv X pins U H s)(e:Rd H a (.dK kvs))(h:∀t s',Inv X pins U H s'->Q (.int kvs.length t) s'):wpAny (model X.prog X.w) A (call (.builtin "len") [.ref a]) Q E s:=by obtain⟨z,hd,vs,rel,dd⟩:=qW I.hok e;refine call_len_dict hd dd (by rw[<-rel.length];rw[sizeLine_eq]at z;lia) ?_;rw[<-rel.length];exact h _ _ (I.tok _)
end
def Aw{X:Cx}{pins:Zs}{U:St}{H:Hp}{s:Shared}{a:Addr}{y:V}{o:Option V}(I:Inv X pins U H s)(g:jb H a y o):s.TypeIs (.ref a) "dict":=by rcases g with⟨kvs,k,e,_,_⟩|⟨kvs,k,b,e,_,_,_⟩;{obtain⟨_,_,vs,_,dd⟩:=qW I.hok e;exact dd.typeIs};obtain⟨_,_,xs,_,dd⟩:=ux I.hok e;exact dd.typeIs
def Jt{P:Program}{w:World}{H:Hp}(h:Heap)(hb:sysModules<h.objs.size):bE P w H (h.push { cls:=.type "dict",data:=.dict #[] }) h.objs.size (.dK []):=
 ⟨W7 _,beq_eq_false_iff_ne.mpr (Ne.symm (VQ hb)),[],.nil,Heap.DictOf.new h⟩
def IQ{P:Program}{w:World}{H:Hp}(h:Heap)(hb:sysModules<h.objs.size):bE P w H (h.push { cls:=.type "dict",data:=.dict #[] }) h.objs.size (.dT []):=
 ⟨W7 _,beq_eq_false_iff_ne.mpr (Ne.symm (VQ hb)),[],.nil,_,#[],0,W8 _ rfl,⟨rfl,rfl,rfl⟩,rfl,rfl,Wd⟩
def Hg:TE:=λ_ H Q=>∀p,H p=none->Q (.ref p) (upd H p (.dK []))
def Gg:TE:=λ_ H Q=>∀p,H p=none->Q (.ref p) (upd H p (.dT []))
section
variable{X:Cx}{pos:Pos}
def II:PE X (.Dict [] [] pos) Hg:=λpins s U H Q I h=>
 wpAny_Dict_empty ⟨.ref s.heap.objs.size,_,I.laid (a:=s.heap.objs.size) (o:=.dK []) (t':=s.toks) (λ_ _ q=>VW _ q) (V5 _) (Jt s.heap I.big),rfl,h _ (I.hok.fresh (V5 _))⟩
def Jk:PE X (.Dict [] [] pos) Gg:=λpins s U H Q I h=>
 wpAny_Dict_empty ⟨.ref s.heap.objs.size,_,I.laid (a:=s.heap.objs.size) (o:=.dT []) (t':=s.toks) (λ_ _ q=>VW _ q) (V5 _) (IQ s.heap I.big),rfl,h _ (I.hok.fresh (V5 _))⟩
end
end L2
namespace Sz
open PySem PySem.W PySem.Calls PyProof.Rows
def vo{P:Params}{h:Heap}:∀(ns:A08)(vs:A02),WellAll P h vs (ns.map WData.int)->IntsAre vs ns:=by
 intro ns;induction ns with
 |nil=>intro vs w;rw[Yo]at w;cases w;exact .nil
 |cons n ns ih=>
  intro vs w;rw[VN]at w;cases w with
  |cons a b=>cases a;exact .cons _ _ (ih _ b)
def Ec{l:OpenLaw}{n:Nat}(hn:l.most=some n){P:Params}{h:Heap}{args:List WData}{vals:A02}(hpre:l.row.toRowW.claim.pre args=true)(hwl:WellAll P h vals args) : ∃a vs ns,vals=[Value.ref a]/\args=[WData.list (ns.map WData.int)]/\h.get? a=some { cls:=.type "list",data:=.seq vs.toArray }/\IntsAre vs ns/\ns.length<=n:=by
 have hsh:WShape.hasAll [] args [.list .int]=true:=(pre_splitW hpre).1;have hc:l.pre.holds [] { args:=args }=true:=(pre_splitW hpre).2;obtain⟨d,r,rfl,h1,h2⟩:=hasAllW_cons hsh;obtain rfl:=hasAllW_nil h2;obtain⟨xs,rfl,h3⟩:=hasW_list h1;obtain⟨ns,rfl⟩:=items_int h3;have hlen:ns.length<=n:=by
  unfold OpenLaw.pre at hc;have h4:(WTm.not (.lt (.lit (.int (n:Int))) (.len (.arg 0)))).holds [] { args:=[.list (ns.map .int)] }=true:=by have h4:=(holds_andW hc).1;rw[hn]at h4;exact h4
  have h5:=condW_of h4 (w_not (w_lt w_lit (w_len_list (w_arg rfl))));rw[V4]at h5;refine Nat.le_of_not_lt λq=>?_;have q':(n:Int)<((ns.length:Nat):Int):=by lia
  first
   | (rw[Vw q']at h5;exact absurd h5 (by decide))
   | (simp at h5;lia)
 cases hwl with
 |cons w1 w2=>
  cases w2;cases w1 with
  |list ho hall=>exact⟨_,_,ns,rfl,rfl,ho,vo ns _ hall,hlen⟩
def Hq(l:OpenLaw)(args:List WData):l.row.toRowW.claim.post args (.bool true) args=true:=
 postW_of (r:=l.row.toRowW) (X:=(true==true))
  (show WShape.has [] (.bool true) .bool=true by first|rfl|decide|simp[WShape.has,WShape.arms,WShape.armsAll])
  (show(WTm.eq .res (.lit (.bool true))).value [] { args:=args,res:=some (.bool true),after:=args }=some (.bool (true==true))from w_eq_bool (w_res rfl) w_lit) rfl
def Aq{l:OpenLaw}{n:Nat}{q:Program}{loose:A09}{XP:(Zr)->Heap->Prop}{YP:World->Heap->Prop}{d:DefRec}(hn:l.most=some n)(hdf:d.params.defaults=[])(call:∀(w:World)(s₀ s₁:Shared)(mg mb:Zr)(fa:Addr)(o:Obj)(pm cd doc:Value)(a:Addr)(vs:A02)(ns:A08), Ground q loose [] XP w s₀ mg mb s₁.heap->YP w s₁.heap-> s₁.heap.get? fa=some o->o.data=.func (docDef d.name d.params d.body d.scope pm cd doc)->s₁.heap.CodeRec cd d.name->mg d.name=some (.ref fa)-> s₁.heap.get? a=some { cls:=.type "list",data:=.seq vs.toArray }->IntsAre vs ns->ns.length<=n->s₁.gens=#[]-> codeAny (model l.prog w) callerA (.call (.ref fa) ⟨[.ref a],[]⟩) (λr s'=>r=.ok (.ret (.bool true))/\OldK s₁.heap s'.heap/\s'.os=s₁.os/\AllBare s'.gens) s₁) : WalkO q loose XP YP l.row.toRowW d [] (λf vs=>PySem.call f vs):=by intro w s₀ s₁ mg mb G AAB fa o pm cd doc dV kV ho hd hcd hD hmg hg args vals as hpre hlay hrd hwl hlo;obtain rfl:dV=.none:=Dflts.none hD hdf;obtain rfl:kV=.none:=Dflts.noKw hD;obtain⟨a,vs,ns,rfl,rfl,hobj,hints,hlen⟩:=Ec hn hpre hwl;refine enter_call (Y9 (call w s₀ s₁ mg mb fa o pm cd doc a vs ns G AAB ho (fd_plain hd) hcd hmg hobj hints hlen hg) λr s' hq=>?_);obtain⟨rfl,h2,h3,h4⟩:=hq;exact⟨.inl ⟨.bool true,.bool true,[],rfl,λ_=>rfl,.bool true,Hq l _,λ_=>⟨List.Pairwise.nil,λ_ hm=>(nomatch hm)⟩⟩,h2,h3,h4⟩
end Sz
namespace L2
open PySem PySem.Spec PyProof.Rows
theorem wG:∀{vs:A02}{ns:A08},IntsAre vs ns->Vals (ns.map V.int) vs
 |_,_,.nil=>.nil
 |_,_,.cons n t h=>.cons ⟨t,rfl⟩ (wG h)
def Ja (H:Hp):Prop:=∀b,H b=none\/∃o xs,H b=some (.dX o (.lst xs))
def jD (s:Stmt):Arguments:=match s with
 |.FunctionDef _ a _ _ _ _ _ _ _ _=>a
 |_=>{ posonlyargs:=[],args:=[],vararg:=none,kwonlyargs:=[],kw_defaults:=[],kwarg:=none,defaults:=[] }
def gA (s:Stmt):A06:=match s with
 |.FunctionDef _ _ b _ _ _ _ _ _ _=>b
 |_=>[]
def au (s:Stmt):Scope:=match s with
 |.FunctionDef _ _ _ _ _ _ sc _ _ _=>sc
 |_=>{ kind:=.function,names:=[],isGenerator:=false,isCoroutine:=false }
abbrev E0:XK:=λ_ _ _=>False
structure uo(K:Zx) (x qual:Str)(st:Stmt)(f:Addr)(fd:FuncData):Prop where
 ex:∃(oc:Value)(od:A01)(kV doc pm:Value)(an:A01)(cdv ct:Value)(osl:Zo),
  fd=PySem.W.fnOf x qual (jD st) (gA st) (au st) .none kV doc pm an cdv ct/\K.lookup f=some ⟨oc,od,.func fd,osl⟩/\PySem.W.codeIn K cdv qual=true
 kp:PySem.W.keepIn K (.ref f)=true
section
variable{P:Program}{w:World}{K:Zx}{mg:Zr}{base:Heap}
def uo.binds{x qual:Str}{st:Stmt}{f:Addr}{fd:FuncData}{ps:A09}(F:uo K x qual st f fd)(h:∀(kV doc pm:Value)(an:A01)(cdv ct:Value)(us:A02),us.length=ps.length->bindArgs (PySem.W.fnOf x qual (jD st) (gA st) (au st) .none kV doc pm an cdv ct) ⟨us,[]⟩=pure (ps.zip us)):Binds K fd ps []:=by obtain⟨oc,od,kV,doc,pm,an,cdv,ct,osl,rfl,lk,hcd⟩:=F.ex;exact .all (h kV doc pm an cdv ct)
def Pp{x qual:Str}{st:Stmt}{f:Addr}{oc:Value}{od an:A01}{osl:Zo}{kV doc pm cdv ct:Value}(l:K.lookup f=some ⟨oc,od,.func (PySem.W.fnOf x qual (jD st) (gA st) (au st) .none kV doc pm an cdv ct),osl⟩)(c:PySem.W.codeIn K cdv qual=true)(k:PySem.W.keepIn K (.ref f)=true):uo K x qual st f (PySem.W.fnOf x qual (jD st) (gA st) (au st) .none kV doc pm an cdv ct):=⟨⟨oc,od,kV,doc,pm,an,cdv,ct,osl,rfl,l,c⟩,k⟩
end
section
variable{X:Cx}
def Gf:b5 X (.builtin "len") (λxs H Q=>∃a kvs,xs=[V.ref a]/\H a=some (.dK kvs)/\Q (.int kvs.length) H):=by intro pins s U H xs us Q I r h;obtain⟨a,kvs,rfl,ha,q⟩:=h;obtain⟨u,rfl,ru⟩:=vals1 r;cases ru;exact Ra I (.inl ha) λt s' I'=>⟨.int kvs.length,H,I',⟨t,rfl⟩,q⟩
end
def oq{A B:Prop}(h:B):if false=true then A else B:=by rw[if_neg VV];exact h
def oN{A B:Prop}(h:A):if true=true then A else B:=by rw[if_pos rfl];exact h
def ah (H H':Hp):Prop:=∀b o,H b=some o->H' b=some o
def ah.refl(H:Hp):ah H H:=λ_ _ h=>h
def ah.trans{H H1 H2:Hp}(a:ah H H1)(b:ah H1 H2):ah H H2:=λc o h=>b c o (a c o h)
def ah.free{H H':Hp}(e:ah H H'){l:Addr}(h:H' l=Option.none):H l=Option.none:=by
 cases q:H l with
 |none=>rfl
 |some o=>rw[e l o q]at h;cases h
noncomputable def eW (cells:List (Str×Addr)):List (Str×NameKind)->List (Str×Addr)->List (Str×Addr)
 |[],acc=>acc
 | (n,k)::r,acc=>eW cells r (if(k==NameKind.free)=true then(n,(cells.lookup n).getD 0)::acc else acc)
theorem r9{c:Addr}:∀(names:List (Str×NameKind))(acc:List (Str×Addr)),(eW cells names acc).lookup y=some c->((y,NameKind.free)∈names/\(cells.lookup y).getD 0=c)\/acc.lookup y=some c
 |[],_,h=>.inr h
 | (n,k)::r,acc,h=>by
  rcases r9 r _ h with⟨a,b⟩|z;{exact .inl ⟨VA _ a,b⟩};clear h;by_cases e:(k==NameKind.free)=true
  .rw[if_pos e]at z;rw[WQ]at z;cases q:(y==n)with
   |true=>
    rw[q]at z;have ek:k=NameKind.free:=by simpa using e
    have en:y=n:=by simpa using q
    subst ek en;exact .inl ⟨V3,Option.some.inj z⟩
   |false=>rw[q]at z;exact .inr z
  rw[if_neg e]at z;exact .inr z
theorem kB:∀(names:List (Str×NameKind))(acc:List (Str×Addr)),((y,NameKind.free)∈names\/∃c,acc.lookup y=some c)->∃c,(eW cells names acc).lookup y=some c
 |[],_,h=>by rcases h with h|h;{cases h};exact h
 | (n,k)::r,acc,h=>by
  refine kB r _ ?_;rcases h with h|⟨c,h⟩;{rcases VB.mp h with e|h;{cases e;refine .inr ⟨(cells.lookup y).getD 0,?_⟩;rw[if_pos (by decide),WQ,beq_self_eq_true]};exact .inl h};by_cases e:(k==NameKind.free)=true
  .rw[if_pos e,WQ];cases q:(y==n)with
   |true=>exact .inr ⟨_,rfl⟩
   |false=>exact .inr ⟨c,h⟩
  rw[if_neg e];exact .inr ⟨c,h⟩
def uf(h:∀n,(n,NameKind.free)∈scope.names->∃c,env.cells.lookup n=some c):closureFor scope env=pure (eW env.cells scope.names []):=by
 have key:∀(names:List (Str×NameKind))(cs:List (Str×Addr)),(∀n,(n,NameKind.free)∈names->∃c,env.cells.lookup n=some c)->
   (forIn names cs λ(x:Str×NameKind)(r:List (Str×Addr))=>(if(x.2==NameKind.free)=true then(cellOf env x.1>>=λa=>pure (ForInStep.yield ((x.1,a)::r)))else pure (ForInStep.yield r):Sem _))=pure (eW env.cells names cs):=by
  intro names
  induction names with
  |nil=>intro cs _;rfl
  |cons p r ih=>
   intro cs hp;obtain⟨n,k⟩:=p;rw[List.forIn_cons];by_cases e:(k==NameKind.free)=true
   .have ek:k=NameKind.free:=by simpa using e
    obtain⟨c,hc⟩:=hp n (by rw[ek];exact V3);rw[if_pos e];have e2:cellOf env n=pure c:=by unfold cellOf;rw[hc]
    show((cellOf env n>>=λa=>pure (ForInStep.yield ((n,a)::cs)))>>=_)=_;rw[e2];show(forIn r ((n,c)::cs) _:Sem _)=_;rw[ih _ λn' h'=>hp n' (VA _ h')];show _=pure (eW env.cells r (if(k==NameKind.free)=true then(n,(env.cells.lookup n).getD 0)::cs else cs));rw[if_pos e,hc];rfl
   rw[if_neg e];show(forIn r cs _:Sem _)=_;rw[ih _ λn' h'=>hp n' (VA _ h')];show _=pure (eW env.cells r (if(k==NameKind.free)=true then(n,(env.cells.lookup n).getD 0)::cs else cs));rw[if_neg e]
 unfold closureFor;have e:=key scope.names [] h;show((forIn scope.names [] λ(x:Str×NameKind)(r:List (Str×Addr))=>(if(x.2==NameKind.free)=true then(cellOf env x.1>>=λa=>pure (ForInStep.yield ((x.1,a)::r)))else pure (ForInStep.yield r):Sem _))>>=λr=>pure r)=_;rw[e];rfl
theorem jk{α:Type}{y:Str}{k:α}:∀{l:List (Str×α)},l.lookup y=some k->(y,k)∈l
 |[],h=>by cases h
 | (n,j)::r,h=>by
  rw[WQ]at h;cases q:(y==n)with
  |true=>
   rw[q]at h;have en:y=n:=by simpa using q
   cases h;rw[en];exact V3
  |false=>rw[q]at h;exact VA _ (jk h)
theorem vf{env:Env}{x:Str}{k:NameKind}:∀{names:List (Str×NameKind)},names.lookup x=some k->(relabel { (default:Scope)with names:=names } env).names.lookup x=some k\/(k=.free/\(relabel { (default:Scope)with names:=names } env).names.lookup x=some .cell)
 |[],h=>by cases h
 | (n,j)::r,h=>by
  have ih:=@vf env x k r;rw[WQ]at h;show List.lookup x ((if(j==NameKind.free&&env.scope.kind == .function&&env.kindOf n==some .cell)=true then(n,NameKind.cell)else(n,j))::_)=_\/(_/\List.lookup x ((if(j==NameKind.free&&env.scope.kind == .function&&env.kindOf n==some .cell)=true then(n,NameKind.cell)else(n,j))::_)=_);cases q:(x==n)with
  |true=>rw[q]at h;cases h;by_cases e:(k==NameKind.free&&env.scope.kind == .function&&env.kindOf n==some .cell)=true;{rw[if_pos e,WQ,q];refine .inr ⟨?_,rfl⟩;have z:=(V9 _ _▸(V9 _ _▸e).1:_/\_).1;simpa using z};rw[if_neg e,WQ,q];exact .inl rfl
  |false=>rw[q]at h;by_cases e:(j==NameKind.free&&env.scope.kind == .function&&env.kindOf n==some .cell)=true;{rw[if_pos e,WQ,q];exact ih h};rw[if_neg e,WQ,q];exact ih h
theorem yO{env:Env}{x:Str}{k:NameKind}:∀{names:List (Str×NameKind)},(relabel { (default:Scope)with names:=names } env).names.lookup x=some k->names.lookup x=some k\/(names.lookup x=some .free/\k=.cell)
 |[],h=>by cases h
 | (n,j)::r,h=>by
  have ih:=@yO env x k r;have h:List.lookup x ((if(j==NameKind.free&&env.scope.kind == .function&&env.kindOf n==some .cell)=true then(n,NameKind.cell)else(n,j))::(relabel { (default:Scope)with names:=r } env).names)=some k:=h;rw[WQ];cases q:(x==n)with
  |true=>by_cases e:(j==NameKind.free&&env.scope.kind == .function&&env.kindOf n==some .cell)=true;{rw[if_pos e,WQ,q]at h;cases h;have z:=(V9 _ _▸(V9 _ _▸e).1:_/\_).1;exact .inr ⟨by simpa using z,rfl⟩};rw[if_neg e,WQ,q]at h;exact .inl h
  |false=>by_cases e:(j==NameKind.free&&env.scope.kind == .function&&env.kindOf n==some .cell)=true;{rw[if_pos e,WQ,q]at h;exact ih h};rw[if_neg e,WQ,q]at h;exact ih h
def caps (ix:A07)(U:St):St:=ix.map λi=>(U[i]?).join
noncomputable def Cx.block (X:Cx)(scope:Scope)(C:Addr)(NB:A09)(s2:Shared)(H2:Hp)(fp:A03):Cx:=
 { X with N:=NB,s₀:=s2,H₀:=H2,env:=compEnvC scope (eW X.env.cells scope.names []) C X.env,outer:=X.stack,ex:=fp,fn:=λ_=>false,pn:=[],xe:=λ_ _=>False }
noncomputable def wX (X:Cx)(ifs:A05)(t:TT):Prop:=
 ∀(pins:Zs)(s:Shared)(U:St)(H:Hp)(Q:Bool->Hp->Prop),Inv X pins U H s->t U H Q->
  wpAny (model X.prog X.w) X.A (forIn ifs true λc r=>if r=true then do let ok <-isTrue c X.env (eval c X.env);pure (ForInStep.yield ok)else pure (ForInStep.yield r)) (TP X pins U Q) X.xe s
def Ui:TT:=λ_ H Q=>Q true H
def Mh:wX X [] Ui:=λ_ _ _ H _ I h=>wpAny_tests_nil ⟨H,I,h⟩
def LR(h:PT X c t):wX X [c] t:=λpins s U H Q I hw=>wpAny_tests_one (h pins s U H Q I hw)
abbrev i7 (its:A02) (n:Nat):Obj:={ cls:=.type "list",data:=.seq its.toArray n }
section
variable{X:Cx}{scope:Scope}{x:Str}{NB:A09}{ix:A07}{pins:Zs}{U:St}{H2:Hp}{s2:Shared}{fp:A03}
def HY(ix:A07)(U:St):(caps ix U).length=ix.length:=by unfold caps;rw[V4]
def Ho{C D:Addr}{n:Nat}(I2:Inv X pins U H2 s2)(f2:∀b∈fp,ji X pins H2 b)(hD:s2.heap.objs.size<=D)(I4:Inv (X.block scope C NB s2 H2 fp) [(D,i7 its n)] σB H' s4)(rv:Vals ys its)(hz:ys.length<=sizeLine):Inv X pins U (upd H' D (.lst ys)) s4:=by
 have hp:=I4.pin (D,i7 its n) (by show _∈[]++[(D,i7 its n)];simp);have hfree:H' D=none:=hp.2.1;have neD:∀b o,s2.heap.get? b=some o->b≠D:=λb o e=>VQ (Vv (VC e) hD);have neT:∀b o,H2 b=some o->b≠D:=λb o e=>VQ (Vv (I2.hok.lt e) hD);have u:Un (frs X.stack) fp H2 H' s2.heap s4.heap:=I4.base;refine I2.Cq (ch:=fp) I4.os ⟨u.keep,u.slot,λb o e n hx=>?_,u.there,λb xs e=>?_,λb o v e=>?_,λb ps e=>?_⟩ (λb o e=>?_) I4.bare λb hb=>?_;{rw[aj (neD b o e)];exact u.free b o e n hx};{rw[aj (neT b _ e)];exact u.tups b xs e};{rw[aj (neT b _ e)];exact u.ju b o v e};{rw[aj (neT b _ e)];exact u.j4 b ps e}
 .by_cases hb:b=D;{subst hb;rw[aq]at e;cases e;exact⟨hz,its,n,rv,hp.1⟩};rw[aj hb]at e;have ne:∀{c:Addr}{w:HO},H' c=some w->c≠D:=λ{c w} q z=>by rw[z,hfree]at q;cases q
  exact(I4.hok b o e).stay (λ_ _ _ q=>q) (λc q=>by rw[aj (ne q)];exact q) λc xs q=>by rw[aj (ne q)];exact q
 obtain⟨_,g1,g2,g3,g4,g5⟩:=f2 b hb;exact⟨g3,g1,g4,g5⟩
end
end L2
namespace L2
open PySem PySem.Spec PyProof.Rows PySem.W
def eZ (a C:Addr)(dd:A01):Heap->Prop:=λh=>∃(t0:Addr)(v1 v2 v3 v4 v5:Value)(sl:Zo),h.get? a=some ⟨.ref C,dd,.fields #[.ref t0,v1,v2,v3,v4,v5],sl⟩
def Hl{a C:Addr}(x:eZ a C dd h):bE P w H h a (.ext (eZ a C dd)):=by obtain⟨t0,v1,v2,v3,v4,v5,sl,e⟩:=id x;exact⟨x,⟨_,e⟩,λh1 h2 ⟨t0,v1,v2,v3,v4,v5,sl,e⟩ k=>⟨t0,v1,v2,v3,v4,v5,sl,k _ e⟩⟩
def Inv.EM{a C:Addr}(I:Inv X pins U H s)(e:H a=some (.ext (eZ a C dd))):eZ a C dd s.heap:=(I.hok a _ e).1
def six (newId:String)(l:List (Zy)):Bool:=l.length==6&&(match(l[4]?:Option (Zy))with|some (some (Value.builtin n))=>n==newId|_=>false)
def AO (K:Frag)(C:Addr)(bmB:A02):A02->Bool
 |.ref C'::bm=>C'==C&&tailIn K bmB bm
 |_=>false
noncomputable def i8 (K:Frag)(C:Addr)(bmB:A02)(newId:String)(r:Zy):Bool:=match K.lookup C with
 |some ob=>(match ob.cls with | .type t=>t == "type" | _=>false)&&(match ob.data with
  |.cls cd=>(AO K C bmB cd.mro&&six newId ob.slots.toList)&&!cd.hasDel&&(nsOkIn K cd.ns&&nsIn K cd.ns "__init__" == some r)
  |_=>false)
 |none=>false
def P6(h:six newId l=true):∃k0 k1 k2 k3 k5,l=[k0,k1,k2,k3,some (.builtin newId),k5]:=by
 unfold six at h;rw[V9]at h;obtain⟨h1,h2⟩:=h;have h1:l.length=6:=XA h1;rcases l with _|⟨k0,_|⟨k1,_|⟨k2,_|⟨k3,_|⟨k4,_|⟨k5,_|⟨k6,l⟩⟩⟩⟩⟩⟩⟩
 case cons.cons.cons.cons.cons.cons.nil=>
  cases k4 with
  |none=>cases h2
  |some v=>
   cases v with
   |builtin n=>exact⟨k0,k1,k2,k3,k5,by rw[show n=newId from XA h2]⟩
   |_=>cases h2
 case cons.cons.cons.cons.cons.cons.cons=>cases h1
 all_goals cases h1
def C6{K:Frag}{C:Addr}{bmB l:A02}(h:AO K C bmB l=true):∃bm,l=.ref C::bm/\tailIn K bmB bm=true:=by
 cases l with
 |nil=>cases h
 |cons v bm=>
  cases v with
  |ref a=>have h:(a==C&&tailIn K bmB bm)=true:=h;rw[V9]at h;exact⟨bm,by rw[show a=C from XA h.1],h.2⟩
  |_=>cases h
structure UD(C:Addr)(bmB:A02)(newId:String)(r:Zy)(h:Heap):Prop where
 obj:∃bm N nm q bs hdct sn sub ab col dd k0 k1 k2 k3 k5 mN,h.get? C=some (excClassObj nm q C N bs bm hdct sn sub ab col dd k0 k1 k2 k3 k5 newId)/\h.Ns N mN/\mN "__init__"=r/\OwnTail h bmB bm
def C7{K:Frag}{h:Heap}{N:Addr}{mg:Zr}(X:K.In h)(G:h.Ns N mg)(e:nsIn K N n=some r):mg n=r:=by
 obtain⟨o,es,ep,ho,hd,_,hf⟩:=G;unfold nsIn at e;split at e
 .rename_i c d es' n' sl q;have z:=X _ _ q;rw[ho]at z;cases z;cases hd;split at e
  .rename_i en he;rw[<-hf];unfold nsFind findBy;rw[<-ZI,he];first
    | (cases e;rfl)
    | (split at e<;>cases e<;>rfl)
  rename_i he;rw[<-hf];unfold nsFind findBy;rw[<-ZI,he];split at e;{cases e};cases e;rfl
 cases e
def LV{K:Frag}{C:Addr}(X:K.In h)(q:i8 K C bmB newId r=true):UD C bmB newId r h:=by
 unfold i8 at q;cases ho:K.lookup C with
 |none=>rw[ho]at q;cases q
 |some ob=>
  rw[ho]at q;obtain⟨cls,dd,data,sl⟩:=ob;dsimp only at q;rw[V9]at q;obtain⟨q0,q⟩:=q;have hc:cls=.type "type":=by
   cases cls with
   |type t=>exact congrArg Value.type (XA q0)
   |_=>cases q0
  subst hc;cases data with
  |cls cd=>
   dsimp only at q;rw[V9,V9,V9,V9]at q;obtain⟨⟨⟨q1,q2⟩,hdel⟩,hok,hni⟩:=q;obtain⟨bm,hm,ht⟩:=C6 q1;obtain⟨l⟩:=sl;obtain⟨k0,k1,k2,k3,k5,hs⟩:=P6 q2;have hs:l=_:=hs;obtain⟨nm,bs,mro,ns,qn,hd,sn,sub,ab,col,del⟩:=cd;dsimp only at hm hdel hok hni;have hdel:del=false:=by cases del<;>first|rfl|cases hdel
   have hni:=XA hni;subst hm hdel hs;have G:h.Ns ns (h.nsMap ns):=.of_isNs (isNs_of_in X hok);exact⟨bm,ns,nm,qn,bs,hd,sn,sub,ab,col,dd,k0,k1,k2,k3,k5,_,X _ _ ho,G,C7 X G hni,tail_of_in X ht⟩
  |_=>cases q
def Ib{a:Addr}(x:bE P w H h a o):∃ob,h.get? a=some ob:=by
 cases o with
 |lst xs=>obtain⟨_,_,_,_,e⟩:=x;exact⟨_,e⟩
 |tup xs=>obtain⟨_,_,_,ob,e,_⟩:=x;exact⟨_,e⟩
 |dK kvs=>obtain⟨_,_,_,_,ob,_,_,e,_⟩:=x;exact⟨_,e⟩
 |dT kvs=>obtain⟨_,_,_,_,ob,_,_,e,_⟩:=x;exact⟨_,e⟩
 |set S n=>obtain⟨ob,_,_,_,e,_⟩:=x;exact⟨_,e⟩
 |ins C dx fs=>obtain⟨_,_,_,e,_⟩:=x;exact⟨_,e⟩
 |own y=>exact x
 |xd fs=>obtain⟨_,⟨od,_,_,e,_⟩,_⟩:=x;exact⟨_,e⟩
 |sf lo hi=>obtain⟨_,_,_,e⟩:=x;exact⟨_,e⟩
 |dX ob u=>obtain⟨e,_⟩:=x;exact⟨_,e⟩
 |wW ps=>exact⟨_,x⟩
 |met f y=>exact⟨_,x⟩
 |ext φ=>obtain⟨_,e,_⟩:=x;exact e
section
variable{X:Cx}{pins:Zs}{U:St}{H:Hp}{s:Shared}{h':Heap}
def Inv.kG(I:Inv X pins U H s){a:Addr}(hn:s.heap.get? a=none):H a=none:=by
 cases z:H a with
 |none=>rfl
 |some o=>obtain⟨ob,e⟩:=Ib (I.hok a o z);rw[hn]at e;cases e
def Inv.J1{a:Addr}{t':Nat}(I:Inv X pins U H s)(k:∀b u,s.heap.get? b=some u->h'.get? b=some u)(hn:s.heap.get? a=none)(new:bE X.prog X.w (upd H a o) h' a o) : Inv X pins U (upd H a o) { s with heap:=h',toks:=t' }:=by
 have hf:=I.kG hn;have neA:∀b u,s.heap.get? b=some u->b≠a:=λb u e z=>by rw[z,hn]at e;cases e
 have neT:∀b u,H b=some u->b≠a:=λb u e z=>by rw[z,hf]at e;cases e
 refine I.un ⟨λb u e _ _ _=>k b u e,λb u e _ _ _=>⟨u.slots,k b u e⟩,λb u e n _=>by rw[aj (neA b u e)];exact n,λb u e _=>⟨u,k b u e⟩,λb xs e=>by rw[aj (neT b _ e)];exact e,
  λb u v e=>by rw[aj (neT b _ e)];exact e,λb ps e=>⟨#[],by rw[aj (neT b _ e),e];simp⟩⟩ λb u e=>?_
 by_cases hb:b=a;{subst hb;rw[aq]at e;cases e;exact new};rw[aj hb]at e;exact(I.hok b u e).stay (λc v _ q=>k c v q) (λc q=>by rw[aj (neT c _ q)];exact q) λc xs q=>by rw[aj (neT c _ q)];exact q
end
abbrev pB:A02:=[.type "ValueError",.type "Exception",.type "BaseException",.type "object"]
end L2
namespace SM
open PySem PySem.SetTable
def Ss (M i:Nat):Nat:=(i*5+1)%M
def Sx (M:Nat):Nat->Nat->Nat
 |i,0=>i
 |i,r+1=>Ss M (Sx M i r)
def Qu (M:Nat):Nat->Nat->A07
 |_,0=>[]
 |i,r+1=>i::Qu M (Ss M i) r
def full (M:Nat):Bool:=(List.range M).all (λj=>(Qu M 0 M).contains j)&&decide (Sx M 0 M=0)
noncomputable def Vi (m:Nat)(p:Probe):Probe:=
 if p.more>0 then { p with j:=p.j+1,more:=p.more-1 } else
 { p with j:=(leap m p.i p.perturb).1,more:=runEnd m (leap m p.i p.perturb).1-(leap m p.i p.perturb).1,i:=(leap m p.i p.perturb).1,perturb:=(leap m p.i p.perturb).2 }
def U6 (m:Nat) (h:Int):Probe:={ j:=bits h%(m+1),more:=runEnd m (bits h%(m+1))-bits h%(m+1),i:=bits h%(m+1),perturb:=bits h,dummy:=none }
def pr (m:Nat) (h:Int):Nat->Probe
 |0=>U6 m h
 |n+1=>Vi m (pr m h n)
def Ur (xs:Array Nat):Prop:=∀(i k x y:Nat),i<k->xs[i]?=some x->xs[k]?=some y->x<y
abbrev Ent:=Int×Value
def In (t:SetTable) (j:Nat):Prop:=∃i:Nat,t.place[i]?=some j
def Way (t:SetTable) (h:Int) (m:Nat):Prop:=∀m',m'<m->In t (pr t.mask h m').j
structure TB(t:SetTable)(es:Array Ent):Prop where
 sz:t.place.size=es.size
 ri:Ur t.place
 le:∀i j:Nat,t.place[i]?=some j->j<=t.mask
 du:t.dummies=#[]
 fu:full (t.mask+1)=true
 od:t.mask%2=1
 nf:t.place.size<=t.mask
 rc:∀(i j:Nat)(e:Ent),t.place[i]?=some j->es[i]?=some e->∃m,m<10*turns t.mask/\(pr t.mask e.1 m).j=j/\Way t e.1 m
end SM
namespace L2
open PySem PySem.Spec PyProof.Rows
section
variable{X:Cx}
theorem vL:∀{xs:List V}{us:A02},Vals xs us->∀(i:Nat)(u:Value),us[i]?=some u->∃x,xs[i]?=some x/\RelV x u
 |_,_,.nil,i,u,h=>by cases h
 |_,_,.cons h r,0,u,e=>by cases e;exact⟨_,rfl,h⟩
 |_,_,.cons h r,i+1,u,e=>vL r i u e
end
end L2
namespace L2
open PySem PySem.Spec PyProof.Rows PySem.SeqAt PySem.W
mutual
inductive lU(K:Zx)(H:Hp):V->PyData->Prop
 |aU:lU K H .aU .none
 |bl (b:Bool):lU K H (.bl b) (.bool b)
 |int (i:Int):lU K H (.int i) (.int i)
 |str (x:Str):lU K H (.str x) (.str x)
 |lst {a:Addr}{xs:List V}{ds:A00}:bF K H a xs->qA K H xs ds->lU K H (.ref a) (.list ds)
 |tup {a:Addr}{xs:List V}{ds:A00}:bO K H a xs->qA K H xs ds->lU K H (.ref a) (.tuple ds)
inductive qA(K:Zx)(H:Hp):List V->A00->Prop
 |nil:qA K H [] []
 |cons {x:V}{d:PyData}{xs:List V}{ds:A00}:lU K H x d->qA K H xs ds->qA K H (x::xs) (d::ds)
end
section
variable{X:Cx}{pins:Zs}{U:St}{H:Hp}{s:Shared}
mutual
theorem Inv.reads(I:Inv X pins U H s):∀{v:V}{d:PyData}{u:Value},lU X.K H v d->RelV v u->∃as,Reads s.heap u d as
 |_,_,_,.aU,r=>by cases r;exact⟨_,.none⟩
 |_,_,_,.bl b,r=>by cases r;exact⟨_,.bool b⟩
 |_,_,_,.int i,r=>by obtain⟨t,rfl⟩:=r;exact⟨_,.int i t⟩
 |_,_,_,.str x,r=>by obtain⟨t,rfl⟩:=r;exact⟨_,.str x t⟩
 |_,_,_,.lst hq hs,r=>by cases r;obtain⟨its,rv,p,_⟩:=I.list hq;obtain⟨as,ra⟩:=I.readsAll hs rv;obtain⟨o,ho,hc,n,hd⟩:=p.isList;exact⟨_,.list ho hc hd (by simpa using ra)⟩
 |_,_,_,.tup hq hs,r=>by cases r;obtain⟨its,rv,p,_⟩:=I.tuple hq;obtain⟨as,ra⟩:=I.readsAll hs rv;obtain⟨o,ho,hc,n,hd⟩:=(show s.heap.IsTuple _ its.toArray from p);exact⟨_,.tuple ho hc hd (by simpa using ra)⟩
theorem Inv.readsAll(I:Inv X pins U H s):∀{vs:List V}{ds:A00}{us:A02},qA X.K H vs ds->Vals vs us->∃as,ReadsAll s.heap us ds as
 |_,_,_,.nil,r=>by cases r;exact⟨_,.nil⟩
 |_,_,_,.cons h hs,r=>by
  cases r with
  |cons r1 r2=>obtain⟨as,ra⟩:=I.reads h r1;obtain⟨bs,rb⟩:=I.readsAll hs r2;exact⟨_,.cons ra rb⟩
end
inductive Kh(K:Zx)(neg:Bool) (x:V) (y:V)(H:Hp)(Q:VK):Prop
 |mk:∀d e,(lU K H x d)->(lU K H y e)->(shaped d=true)->(shaped e=true)->(noMix d e=true)->(Q (.bl (if neg then !same d e else same d e)) H)->Kh K neg x y H Q
def IU (K:Zx)(neg:Bool):R2:=λx y H Q=>Kh K neg x y H Q
def Pa(hu:X.A.units+64<cLine):bN X (compareOp .Eq) (IU X.K false):=by intro pins s U H x y v u Q I rx ry h;obtain⟨d,e,h1,h2,s1,s2,nm,q⟩:=h;obtain⟨as,ra⟩:=I.reads h1 rx;obtain⟨bs,rb⟩:=I.reads h2 ry;exact eq_dataH_same ra rb s1 s2 hu nm ⟨.bl _,H,I,rfl,q⟩
def PV(hu:X.A.units+64<cLine):bN X (compareOp .NotEq) (IU X.K true):=by intro pins s U H x y v u Q I rx ry h;obtain⟨d,e,h1,h2,s1,s2,nm,q⟩:=h;obtain⟨as,ra⟩:=I.reads h1 rx;obtain⟨bs,rb⟩:=I.reads h2 ry;exact ne_dataH_same ra rb s1 s2 hu nm ⟨.bl _,H,I,rfl,q⟩
end
end L2
namespace L2
open PySem PySem.Spec PyProof.Rows
section
variable{X:Cx}{e:Expr}{te:TE}
def Er(hc:X.calm=true):b5 X (.builtin "all") (λxs H Q=>∃(a:Addr)(bs:A04),xs=[.ref a]/\bF X.K H a (bs.map V.bl)/\Q (.bl (bs.all id)) H):=by
 intro pins s U H xs us Q I r h;obtain⟨a,bs,rfl,hq,q⟩:=h;obtain⟨u,rfl,ru⟩:=vals1 r;cases ru;obtain⟨its,rv,p,_⟩:=I.list hq;have hl:=p.isList;have hlt:a<s.heap.objs.size:=by obtain⟨o,ho,_⟩:=id hl;exact VC ho
 have hh:X.A.in1.handled=none:=by simp[I.ok.hd hc]
 refine call_all_walk (ZO hl ?_);refine⟨_,_,_,_,_,_,λi=>bs.getD i false,rfl,Walks.list hh _ a (VQ hlt) its.toArray,⟨⟨_,W8 _ rfl,rfl,rfl⟩,hl.push _⟩,λi v s' Q' E' hP hQ=>?_,λh' tk hk=>?_⟩
 .have hP':its[i]?=some v:=by simpa using hP
  obtain⟨x,hx,rx⟩:=vL rv i v hP';rw[VE]at hx;cases e:bs[i]? with
  |none=>rw[e]at hx;cases hx
  |some b=>
   rw[e]at hx;cases hx;cases rx;have e2:bs.getD i false=b:=by rw[VO,e];rfl
   dsimp only at hQ;rw[e2]at hQ;exact XS hQ
 have kp:∀b o,s.heap.get? b=some o->h'.get? b=some o:=λb o hb=>hk b o (by
  have:=VC hb;simp only[V7];exact VQ this) (VW _ hb)
 have len:its.toArray.size=bs.length:=by rw[VM,<-rv.length,V4]
 refine⟨.bl _,H,I.kept (t':=tk) kp,rfl,?_⟩;have e:(List.range its.toArray.size).all (λi=>bs.getD i false)=bs.all id:=by rw[len];rw[Wq,VL,VL];constructor;{intro h b hb;obtain⟨i,hi⟩:=Wz hb;have:=h i (VU.mpr (X5.mp hi).1);rw[VO,hi]at this;exact this};intro h i hi;have hi':=VU.mp hi;rw[VO,VP hi'];exact h _ (Xp hi')
 rw[e];exact q
end
end L2
namespace L2
open PySem PySem.Spec PyProof.Rows PySem.W Builtin Builtin.ObjectAttr
def uG (l:A02):Bool:=match l with
 |.ref _::r=>uG r
 |l=>l==pB
theorem Ai(T:String)(hT:pB.contains (.type T)=true):∀(l:A02),uG l=true->l.contains (.type T)=true
 |[],e=>by cases e
 |v::r,e=>by
  cases v with
  |ref c=>rw[ZE,Ai T hT r e,Bool.or_true]
  |type n=>have e:(Value.type n::r==pB)=true:=e;rw[beq_iff_eq.mp e];exact hT
  |_=>cases e
def JO:∀(l:A02),uG l=true->l.isEmpty=false
 |[],e=>by cases e
 |_::_,_=>rfl
def P8 (K:Frag)(C:Addr):Bool:=(clsIn K C).any λcd=>uG cd.mro&&cd.hasDict
structure mY(K:Frag)(C:Addr):Prop where
 cd:P8 K C=true
 sa:findIn K (.ref C) "__setattr__"=some (some (.builtin "object.__setattr__"))
 ga:findIn K (.ref C) "__getattribute__"=some (some (.builtin "BaseException.__getattribute__"))
 ng:findIn K (.ref C) "__getattr__"=some none
section
variable{prog:Program}{w:World}{A:Around}{E:Zp}{s:Shared}{K:Frag}{x C:Addr}{name:Str}{v:Value}{vs:Zz}{sl:Zo}
def Q4(X:K.In h)(I:InstAt h x ox C od)(F:mY K C)(T:String)(hT:pB.contains (.type T)=true):Looks M h (isInstance (.ref x) (.type T)) true:=by obtain⟨cd,hc,ho⟩:=any_some F.cd;rw[V9]at ho;exact I.type.andThen (looks_mroIn X (by unfold mroIn;rw[hc,ZP,if_neg (by rw[JO _ ho.1];decide),Ai T hT _ ho.1]))
end
section
variable{prog:Program}{w:World}{A:Around}{E:Zp}{s:Shared}{K:Frag}{x C:Addr}{ox:Obj}{od:Option Obj}{name:Str}{v:Value}{tk:Tok}{fill expr:Bool}
def HM:builtinKind "BaseException.__getattribute__"=some .slot:=by decide+kernel
def GH:splitId "BaseException.__getattribute__"=some ("BaseException","__getattribute__"):=by decide+kernel
def Lf(X:K.In s.heap)(I:InstAt s.heap x ox C od)(F:mY K C)(hb:wpAny (model prog w) A.in1 («object.__getattribute__» ⟨[.ref x,.str name tk],[]⟩) (λfin s'=>match fin with
   |.done (.ret v)=>wpAny (model prog w) A (handedOut v) Q E s'
   |.again c=>c.quiet=true/\codeAny (model prog w) A c (λr s''=>match r with | .ok (.ret v)=>wpAny (model prog w) A (handedOut v) Q E s''|_=>False) s'
   |_=>False) (λ_ _=>False) s) :
  wpAny (model prog w) A (getAttrBy (.ref x) (.str name tk) fill expr) Q E s:=by
 have L0:=I.type (M:=model prog w);have L1:=looks_findIn (M:=model prog w) X F.ga;have L2:=looks_findIn (M:=model prog w) X F.ng;have FB:=PySem.F.excAttr_ValueError;unfold getAttrBy;refine Wb (V0 (L0.here (V0 (L1.here ?_))));have hx2:(Value.builtin "BaseException.__getattribute__" == Value.builtin "object.__getattribute__")=false:=by decide+kernel
 dsimp only;rw[hx2,XY,if_neg VV];unfold getAttrByItsOwn;refine V0 (L2.here (V0 (YE (Wb ?_))));unfold callGetattribute;rw[if_neg (by cases expr<;>decide)]
 unfold boundAndCalled;rw[FB.ga.bind];refine V0 (V6 (wpAny_call ?_));refine codeAny_call_builtin FB.ga.plain PySem.F.entry_bexc_ga (@check_slot (model prog w) _ _ _ "BaseException.__getattribute__" "BaseException" "__getattribute__" (.ref x) [.str name tk] [] _ HM GH (Q4 X I F "BaseException" (by decide)) (PySem.F.args_bexc_ga (.ref x) (.str name tk)) ?_)
 refine WC hb (λfin s' z=>?_) λ_ _ z=>z.elim
 rcases fin with (_|_|_|_)|_<;>first|exact z|exact z.elim|skip
 .obtain⟨z1,z2⟩:=z;refine⟨z1,Y9 z2 λr s'' y=>?_⟩
  rcases r with e|(_|_|_|_)<;>first|exact y|exact y.elim
def Lq(X:K.In s.heap)(I:InstAt s.heap x ox C od)(F:mY K C)(hf:findObj K C od "__class__"=some (.bind (.builtin "getset_descriptor.__get__") (.builtin "object.__class__")))(hm:mroIn K C (.type "object")=some true)(h:Q (some (.ref C)) { s with toks:=s.toks+1 }):wpAny (model prog w) A (getAttr? (.ref x) "__class__") Q E s:=by have L0:=I.type (M:=model prog w);have L1:=looks_find (M:=model prog w) X I hf;unfold getAttr? getAttrBy?;refine V0 (wpAny_mkText (V0 (YE (Lf (s:={ s with toks:=s.toks+1 }) X I F ?_))));unfold «object.__getattribute__»;refine V0 (V6 (V0 (V6 (V0 (L0.here (s:={ s with toks:=s.toks+1 }) (V0 (L1.here (s:={ s with toks:=s.toks+1 }) ?_)))))));show wpAny _ _ (bindTo (.builtin "getset_descriptor.__get__") (.builtin "object.__class__") (.ref x) (.ref C)) _ _ _;unfold bindTo;dsimp only;refine V0 (Wb (wpAny_call (class_get (s:={ s with toks:=s.toks+1 }) (ox:=ox) (od:=od) X I hm ?_)));refine V6 ?_;show wpAny _ _ (handedOut (.ref C)) _ _ _;exact V6 (V6 h)
structure Br(K:Frag)(C:Addr):Prop extends mY K C where
 ca:findIn K (.ref C) "__class__"=some (some (.builtin "object.__class__"))
 gt:specialIn K (.builtin "object.__class__") "__get__"=some (some (.builtin "getset_descriptor.__get__"))
 tk:takesIn K (.builtin "object.__class__")=some true
def mY.mro(F:mY K C)(T:String)(hT:pB.contains (.type T)=true):mroIn K C (.type T)=some true:=by obtain⟨cd,hc,ho⟩:=any_some F.cd;rw[V9]at ho;unfold mroIn;rw[hc,ZP,if_neg (by rw[JO _ ho.1];decide),Ai T hT _ ho.1]
def oJ(F:Br K C):KitX K (.ref x) (.ref C) (λh=>InstAt h x ox C od) where
 ty:=λ_ _ _ I=>I.type
 it:=λ_ _ X _=>by
  obtain⟨cdD,hcD,_⟩:=any_some F.cd;unfold clsIn at hcD;split at hcD
  .rename_i c' d' cd' sl' ho;intro A' Q' E' s' k q;unfold isType loadHead;exact V0 (wpAny_loadPart (k _ _ (X _ _ ho)) (V6 q))
  .cases hcD
 ne:=λh tp dd its n sl X htp=>by
  obtain⟨cdD,hcD,_⟩:=any_some F.cd;refine Bool.eq_false_iff.mpr λq=>?_
  have e:C=tp:=Value.ref.inj (beq_iff_eq.mp q);subst e;unfold clsIn at hcD;split at hcD
  .rename_i c' d' cd' sl' ho;have z:=(X _ _ ho).symm.trans htp;cases z
  .cases hcD
 ca:=λX I k=>by
  obtain⟨cd,hc,_⟩:=any_some F.cd;exact Lq X I F.1 (by simp only[findObj,hc,ZP,F.ca,F.gt,F.tk]) (F.mro "object" (by decide)) k
end
section
variable{X:Cx}{pins:Zs}{U:St}{H:Hp}{s:Shared}{a C:Addr}{dd:A01}
def Inv.JA(I:Inv X pins U H s)(e:H a=some (.ext (eZ a C none))):∃ox,InstAt s.heap a ox C none:=by obtain⟨t0,v1,v2,v3,v4,v5,sl,h⟩:=I.EM e;exact⟨_,h,rfl,rfl,trivial⟩
def Inv.J8{d:Addr}(I:Inv X pins U H s)(e:H a=some (.ext (eZ a C (some d))))(hd:H d=some (.xd fs)):∃(ox od:Obj)(mA:Zr),InstAt s.heap a ox C (some od)/\(∀n,lookIn n od=some (mA n))/\∀f,jq (fs.lookup f) (mA f):=by obtain⟨t0,v1,v2,v3,v4,v5,sl,h⟩:=I.EM e;obtain⟨mA,ns,rel⟩:=I.hok d _ hd;obtain⟨od,ho,hl⟩:=wF ns;exact⟨_,od,mA,⟨h,rfl,rfl,ho⟩,hl,rel⟩
def O1 (H:Hp)(a C:Addr):Prop:=H a=some (.ext (eZ a C none))\/∃d fs,H a=some (.ext (eZ a C (some d)))/\H d=some (.xd fs)
def HV{b:Bool}(I:Inv X pins U H s)(e:O1 H a C)(F:Br X.K C)(k:kitOne X.K (.ref C) c=some b)(h:∀tk,Q (.bool b) { s with toks:=tk }) : wpAny (model X.prog X.w) A (call (.builtin "isinstance") [.ref a,c]) Q E s:=by rcases e with e|⟨d,fs,e,hd⟩;{obtain⟨ox,J⟩:=I.JA e;exact kia_one (oJ F) I.dG J k (λz=>nomatch z) h};obtain⟨ox,od,mA,J,_,_⟩:=I.J8 e hd;exact kia_one (oJ F) I.dG J k (λz=>nomatch z) h
def HZ:b5 X (.builtin "isinstance") (λxs H Q=>∃a C c b,xs=[.ref a,c]/\O1 H a C/\Br X.K C/\(∀u,RelV c u->kitOne X.K (.ref C) u=some b)/\Q (.bl b) H):=by intro pins s U H xs us Q I r h;obtain⟨a,C,c,b,rfl,x,F,k,q⟩:=h;obtain⟨u1,u2,rfl,ru1,ru2⟩:=r.two;cases ru1;exact HV I x F (k u2 ru2) λtk=>⟨.bl b,H,I.tok tk,rfl,q⟩
def HU:b5 X (.builtin "isinstance") (λxs H Q=>∃x c t b,xs=[x,c]/\fG X.K H x t/\(∀u,RelV c u->kitOne X.K t u=some b)/\Q (.bl b) H):=by intro pins s U H xs us Q I r h;obtain⟨x,c,t,b,rfl,ty,k,q⟩:=h;obtain⟨u1,u2,rfl,ru1,ru2⟩:=r.two;exact Fq I ru1 ty (k u2 ru2) λtk=>⟨.bl b,H,I.tok tk,rfl,q⟩
variable{o e value:Expr}{f y:Str}{pos pos' yp apos:Pos}{ta tv:TE}{es:A05}{t:TA}
end
section
variable{X:Cx}
variable{e:Expr}{es:A05}{t:TA}{y:Str}{yp apos pos:Pos}
abbrev TJ:=Str->TE
noncomputable def PJ (X:Cx)(es:A05)(t:TJ):Prop:=
 ∀(out:Str)(pins:Zs)(s:Shared)(U:St)(H:Hp)(Q:VK),Inv X pins U H s->t out U H Q->wpAny (model X.prog X.w) X.A (joinParts out (evalEach es X.env)) (EP X pins U Q) X.xe s
def Uu:TJ:=λout _ H Q=>out.length<=sizeLine/\Q (.str out) H
def Np:PJ X [] Uu:=λout _ s _ H _ I h=>joinParts_nil ⟨.str out,H,I.tok _,⟨_,rfl⟩,h.2⟩ h.1
def TM (x:Str)(t:TJ):TJ:=λout U H Q=>(out++x).length<=sizeLine/\t (out++x) U H Q
def Fv{x:Str}{j:Nat}{p:Pos}{t:TJ}(h:PJ X es t):PJ X (.Constant (.str x) j p::es) (TM x t):=by intro out pins s U H Q I hw;show wpAny _ _ (joinParts out (eval (.Constant (.str x) j p) X.env::evalEach es X.env)) _ _ _;exact joinParts_cons (Calls.Constant_str ⟨hw.1,h _ _ _ _ _ _ (I.tok _) hw.2⟩)
def Uc (te:TE)(t:TJ):TJ:=λout U H Q=>te U H λv H1=>∃i,v=.int i/\i.natAbs.log2<1920/\(out++toString i).length<=sizeLine/\t (out++toString i) U H1 Q
def N2{te:TE}{p:Pos}{t:TJ}(he:PE X e te)(h:PJ X es t):PJ X (.FormattedValue e (-1) none p::es) (Uc te t):=by intro out pins s U H Q I hw;show wpAny _ _ (joinParts out (eval (.FormattedValue e (-1) none p) X.env::evalEach es X.env)) _ _ _;refine joinParts_cons (FormattedValue_plain (aM (he pins s U H _ I hw) λu s1 ⟨v,H1,I1,rv,i,ev,hl,hz,q⟩=>?_));subst ev;obtain⟨tk,rfl⟩:=rv;exact formatField_int_small hl ⟨hz,h _ _ _ _ _ _ (I1.tok _) q⟩
def Mi{e1 e2:Expr}{t:TJ}(h:PJ X (e1::e2::es) t):PE X (.JoinedStr (e1::e2::es) pos) (λU H Q=>t Str.empty U H Q):=λpins s U H Q I hw=>JoinedStr_many (h _ _ _ _ _ _ I hw)
end
end L2
namespace L2
open PySem PySem.Spec PyProof.Rows
def aQ{a:Addr}(h:H a=none):ah H (upd H a o):=λb u e=>by rw[aj (gD e h)];exact e
end L2
namespace SM
open PySem PySem.SetTable
abbrev Ty:=Int ⊕ (Int×Int)
instance Vs (k:Ty×Ty)(l:List (Ty×Ty)):Decidable (k∈l):=@List.instDecidableMemOfLawfulBEq _ instBEqOfDecidableEq inferInstance k l
@[irreducible] def tyH (k:Ty):Int:=match k with
 |.inl n=>hashInt (n:Int)
 |.inr e=>reduceHash (Builtin.Tuple.tupleHashOf [hashInt (e.1:Int),hashInt (e.2:Int)])
@[irreducible] def pH (k:Ty×Ty):Int:=reduceHash (Builtin.Tuple.tupleHashOf [tyH k.1,tyH k.2])
abbrev Uq (bs:List (Addr×(Ty×Ty))):List Ent:=bs.map λq=>(pH q.2,Value.ref q.1)
structure SQ(o:Obj)(bs:List (Addr×(Ty×Ty))):Prop where
 ex:o.ExactSet
 tb:∃es ep t,o.data=.set es ep t/\TB t es/\es.size*5<t.mask*3/\t.mask<=511/\es.toList.Perm (Uq bs)
end SM
namespace L2
open PySem PySem.Spec PyProof.Rows SM
def EC (H:Hp)(k:Ty) (v:V):Prop:=match k with
 |.inl n=>v=.int (n:Int)
 |.inr e=>∃c,v=.ref c/\H c=some (.tup [.int (e.1:Int),.int (e.2:Int)])
inductive vE(H:Hp)(k:Ty×Ty)(b:Addr):Prop
 |mk {u v:V}:H b=some (.tup [u,v])->EC H k.1 u->EC H k.2 v->vE H k b
abbrev SY:=List (Addr×(Ty×Ty))
abbrev N5:=List ((Ty×Ty)×Addr×Addr)
def S9 (a:Addr)(bs:SY):HO:=.ext λh=>∃o,h.get? a=some o/\SQ o bs
def T8 (x:(Ty×Ty)×Addr×Addr):DictEntry:={ hash:=pH x.1,key:=.ref x.2.1,val:=.ref x.2.2 }
structure Up(o:Obj)(xs:N5):Prop where
 ex:o.ExactDict
 da:∃es ep,o.data=.dict es ep/\es.toList=xs.map T8
 nd:(xs.map (·.1)).Nodup
def UZ (a:Addr)(xs:N5):HO:=.ext λh=>(a==sysModules)=false/\∃o,h.get? a=some o/\Up o xs
section
variable{H H':Hp}
def EC.mono(s:∀b xs,H b=some (.tup xs)->H' b=some (.tup xs))(h:EC H k v):EC H' k v:=by
 cases k with
 |inl n=>exact h
 |inr e=>obtain⟨c,rfl,hc⟩:=h;exact⟨c,rfl,s _ _ hc⟩
theorem vE.mono(s:∀b xs,H b=some (.tup xs)->H' b=some (.tup xs))(h:vE H k b):vE H' k b:=by cases h with|mk h1 h2 h3=>exact .mk (s _ _ h1) (h2.mono s) (h3.mono s)
end
end L2
namespace Dv
open PySem L2 PySem.W
def bJ:Key->PyData
 |.inl i=>.int i
 |.inr x=>.str x
def iL:SM.Ty->PyData
 |.inl n=>.int (n:Int)
 |.inr e=>.tuple [.int (e.1:Int),.int (e.2:Int)]
def S4 (k:SM.Ty×SM.Ty):PyData:=.tuple [iL k.1,iL k.2]
def bX (K:Frag)(H:Hp)(a:Addr)(xs:List V):Prop:=Rd H a (.lst xs)\/∃(its:A02) (n:Nat),K.lookup a=some { cls:=.type "list",data:=.seq its.toArray n }/\its.length<=sizeLine/\Vals xs its
def Rd.mono{a:Addr}(s:ah H H'):Rd H a u->Rd H' a u
 |.inl h=>.inl (s _ _ h)
 |.inr ⟨o,h⟩=>.inr ⟨o,s _ _ h⟩
theorem bX.mono{a:Addr}(s:ah H H'):bX K H a xs->bX K H' a xs
 |.inl h=>.inl (Rd.mono s h)
 |.inr h=>.inr h
def bX.sq{a:Addr}(h:bX K H a xs):bF K H a xs:=by rcases h with h|⟨its,n,hk,hl,r⟩;{exact .inl h};exact .inr ⟨_,its.toArray,n,hk,rfl,rfl,rfl,by rw[VM];exact hl,by simpa using r⟩
theorem bX.get{a:Addr}(I:L2.Inv X pins U H s)(h:bX X.K H a xs):xs.length<=sizeLine/\∃its n,Vals xs its/\s.heap.get? a=some { cls:=.type "list",data:=.seq its.toArray n }:=by rcases h with h|⟨its,n,hk,hl,r⟩;{obtain⟨z,its,n,r,e⟩:=h.ok I.hok;exact⟨z,its,n,r,e⟩};exact⟨by rw[r.length];exact hl,its,n,r,I.dG a _ hk⟩
mutual
inductive Rp(K:Frag)(H:Hp):V->PyData->Prop
 |aU:Rp K H .aU .none
 |bl (b:Bool):Rp K H (.bl b) (.bool b)
 |int (i:Int):Rp K H (.int i) (.int i)
 |str (x:Str):Rp K H (.str x) (.str x)
 |lst {a:Addr}{xs:List V}{ds:A00}:bX K H a xs->av K H xs ds->Rp K H (.ref a) (.list ds)
 |tup {a:Addr}{xs:List V}{ds:A00}:H a=some (.tup xs)->av K H xs ds->Rp K H (.ref a) (.tuple ds)
 |dk {a:Addr}{kvs:List (Key×V)}{ds:Zn}:H a=some (.dK kvs)->eY K H kvs ds->Rp K H (.ref a) (.dict ds)
 |dt {a:Addr}{kvs:List (List Key×V)}{ds:Zn}:H a=some (.dT kvs)->eK K H kvs ds->Rp K H (.ref a) (.dict ((.none,.none)::ds))
 |exc {a C:Addr}{c:Str}:H a=some (.ext (eZ a C none))->nsIn K mainGlobals c=some (some (.ref C))->Rp K H (.ref a) (.dict [(.none,.str c)])
 |pd {a:Addr}{xs:N5}{ds:A00}:H a=some (UZ a xs)->(∀x∈xs,vE H x.1 x.2.1)->av K H (xs.map λx=>.ref x.2.2) ds->Rp K H (.ref a) (.dict ((.none,.int 0)::(xs.map λx=>S4 x.1).zip ds))
inductive av(K:Frag)(H:Hp):List V->A00->Prop
 |nil:av K H [] []
 |cons {x:V}{d:PyData}{xs:List V}{ds:A00}:Rp K H x d->av K H xs ds->av K H (x::xs) (d::ds)
inductive eY(K:Frag)(H:Hp):List (Key×V)->List (PyData×PyData)->Prop
 |nil:eY K H [] []
 |cons {k:Key}{v:V}{d:PyData}{kvs:List (Key×V)}{ds:Zn}:Rp K H v d->eY K H kvs ds->eY K H ((k,v)::kvs) ((bJ k,d)::ds)
inductive eK(K:Frag)(H:Hp):List (List Key×V)->List (PyData×PyData)->Prop
 |nil:eK K H [] []
 |cons {k:List Key}{v:V}{d:PyData}{kvs:List (List Key×V)}{ds:Zn}:Rp K H v d->eK K H kvs ds->eK K H ((k,v)::kvs) ((.tuple (k.map bJ),d)::ds)
end
theorem Rp.mono(s:ah H H')(h:Rp K H v d):Rp K H' v d:=Rp.rec (motive_1:=λv d _=>Rp K H' v d) (motive_2:=λvs ds _=>av K H' vs ds) (motive_3:=λa b _=>eY K H' a b) (motive_4:=λa b _=>eK K H' a b) .aU .bl .int .str (λh _ ih=>.lst (bX.mono s h) ih) (λh _ ih=>.tup (s _ _ h) ih) (λh _ ih=>.dk (s _ _ h) ih) (λh _ ih=>.dt (s _ _ h) ih) (λh n=>.exc (s _ _ h) n) (λh k _ ih=>.pd (s _ _ h) (λx hx=>(k x hx).mono λb xs e=>s _ _ e) ih) .nil (λ_ _ a b=>.cons a b) .nil (λ_ _ a b=>.cons a b) .nil (λ_ _ a b=>.cons a b) h
theorem av.mono(s:ah H H')(h:av K H vs ds):av K H' vs ds:=by
 induction ds generalizing vs with
 |nil=>cases h;exact .nil
 |cons d ds ih=>cases h with|cons a b=>exact .cons (a.mono s) (ih b)
theorem eY.mono(s:ah H H')(h:eY K H kvs ds):eY K H' kvs ds:=by
 induction kvs generalizing ds with
 |nil=>cases h;exact .nil
 |cons d kvs ih=>cases h with|cons a b=>exact .cons (a.mono s) (ih b)
theorem eK.mono(s:ah H H')(h:eK K H kvs ds):eK K H' kvs ds:=by
 induction kvs generalizing ds with
 |nil=>cases h;exact .nil
 |cons d kvs ih=>cases h with|cons a b=>exact .cons (a.mono s) (ih b)
def nd:PyData->Bool
 |.list ds=>nds ds
 |.tuple ds=>nds ds
 |.dict _=>false
 |_=>true
where nds:A00->Bool
 |[]=>true
 |d::ds=>nd d&&nds ds
def Rp.sD(h:Rp K H v d):nd d=true->lU K H v d:=
 Rp.rec (motive_1:=λv d _=>nd d=true->lU K H v d) (motive_2:=λvs ds _=>nd.nds ds=true->qA K H vs ds) (motive_3:=λ_ _ _=>True) (motive_4:=λ_ _ _=>True)
  (λ_=>.aU) (λb _=>.bl b) (λi _=>.int i) (λx _=>.str x) (λh _ ih e=>.lst h.sq (ih (by rw[nd]at e;exact e))) (λh _ ih e=>.tup (bO.of h) (ih (by rw[nd]at e;exact e))) (λ_ _ _ e=>by rw[nd]at e;cases e) (λ_ _ _ e=>by rw[nd]at e;cases e) (λ_ _ e=>by rw[nd]at e;cases e) (λ_ _ _ _ e=>by rw[nd]at e;cases e)
  (λ_=>.nil) (λ_ _ a b e=>by rw[nd.nds,V9]at e;exact .cons (a e.1) (b e.2)) trivial (λ_ _ _ _=>trivial) trivial (λ_ _ _ _=>trivial) h
theorem av.sD(h:av K H vs ds):nd.nds ds=true->qA K H vs ds:=by
 induction ds generalizing vs with
 |nil=>cases h;exact λ_=>.nil
 |cons d ds ih=>
  cases h with
  |cons a b=>intro e;rw[nd.nds,V9]at e;exact .cons (a.sD e.1) (ih b e.2)
def kC (H H':Hp):Prop:=∀a xs,H a=some (.tup xs)->H' a=some (.tup xs)
theorem Rp.lf(s:kC H H')(h:Rp K H v d):Dv.lf d=true->Rp K H' v d:=
 Rp.rec (motive_1:=λv d _=>Dv.lf d=true->Rp K H' v d) (motive_2:=λvs ds _=>Dv.lf.lfs ds=true->av K H' vs ds) (motive_3:=λ_ _ _=>True) (motive_4:=λ_ _ _=>True)
  (λ_=>.aU) (λb _=>.bl b) (λi _=>.int i) (λx _=>.str x) (λ_ _ _ e=>by rw[Dv.lf]at e;cases e) (λh _ ih e=>.tup (s _ _ h) (ih (by rw[Dv.lf]at e;exact e))) (λ_ _ _ e=>by rw[Dv.lf]at e;cases e) (λ_ _ _ e=>by rw[Dv.lf]at e;cases e) (λ_ _ e=>by rw[Dv.lf]at e;cases e) (λ_ _ _ _ e=>by rw[Dv.lf]at e;cases e)
  (λ_=>.nil) (λ_ _ a b e=>by rw[Dv.lf.lfs,V9]at e;exact .cons (a e.1) (b e.2)) trivial (λ_ _ _ _=>trivial) trivial (λ_ _ _ _=>trivial) h
theorem av.lf(s:kC H H')(h:av K H vs ds):Dv.lf.lfs ds=true->av K H' vs ds:=by
 induction ds generalizing vs with
 |nil=>cases h;exact λ_=>.nil
 |cons d ds ih=>
  cases h with
  |cons a b=>intro e;rw[Dv.lf.lfs,V9]at e;exact .cons (a.lf s e.1) (ih b e.2)
section
variable{K:Frag}{H:Hp}
def av.len(h:av K H vs ds):vs.length=ds.length:=by
 induction ds generalizing vs with
 |nil=>cases h;rfl
 |cons d ds ih=>cases h with|cons a b=>exact congrArg (·+1) (ih b)
def av.get{i:Nat}(h:av K H vs ds)(e:ds[i]?=some d):∃v,vs[i]?=some v/\Rp K H v d:=by
 induction ds generalizing vs i with
 |nil=>cases e
 |cons d' ds ih=>
  cases h with
  |cons a b=>
   cases i with
   |zero=>cases e;exact⟨_,rfl,a⟩
   |succ i=>obtain⟨v,h1,h2⟩:=ih (i:=i) b (by simpa using e);exact⟨v,by simpa using h1,h2⟩
def av.Ub{i:Nat}(h:av K H vs ds)(e:vs[i]?=some v):∃d,ds[i]?=some d/\Rp K H v d:=by
 induction ds generalizing vs i with
 |nil=>cases h;cases e
 |cons d' ds ih=>
  cases h with
  |cons a b=>
   cases i with
   |zero=>cases e;exact⟨_,rfl,a⟩
   |succ i=>obtain⟨d,h1,h2⟩:=ih (i:=i) b (by simpa using e);exact⟨d,by simpa using h1,h2⟩
def av.app(h:av K H vs ds)(s:av K H us es):av K H (vs++us) (ds++es):=by
 induction ds generalizing vs with
 |nil=>cases h;exact s
 |cons d ds ih=>cases h with|cons a b=>exact .cons a (ih b)
def av.snoc(r:av K H vs ds)(h:Rp K H v d):av K H (vs++[v]) (ds++[d]):=r.app (.cons h .nil)
theorem av.take(n:Nat)(h:av K H vs ds):av K H (vs.take n) (ds.take n):=by
 induction ds generalizing vs n with
 |nil=>cases h;cases n<;>exact .nil
 |cons d ds ih=>
  cases h with
  |cons a b=>
   cases n with
   |zero=>exact .nil
   |succ n=>exact .cons a (ih n b)
theorem av.drop(n:Nat)(h:av K H vs ds):av K H (vs.drop n) (ds.drop n):=by
 induction ds generalizing vs n with
 |nil=>cases h;cases n<;>exact .nil
 |cons d ds ih=>
  cases n with
  |zero=>exact h
  |succ n=>cases h with|cons a b=>exact ih n b
theorem av.set(h:Rp K H v d) (i:Nat)(r:av K H vs ds):av K H (vs.set i v) (ds.set i d):=by
 induction ds generalizing vs i with
 |nil=>cases r;exact .nil
 |cons d' ds ih=>
  cases r with
  |cons a b=>
   cases i with
   |zero=>exact .cons h b
   |succ i=>exact .cons a (ih i b)
def av.rev(h:av K H vs ds):av K H vs.reverse ds.reverse:=by
 induction ds generalizing vs with
 |nil=>cases h;exact .nil
 |cons d ds ih=>
  cases h with
  |cons a b=>rw[List.reverse_cons,List.reverse_cons];exact(ih b).snoc a
end
inductive eS(K:Frag)(H Hm:Hp):List V->A00->A03->Prop
 |nil:eS K H Hm [] [] []
 |lE {x:V}{d:PyData}{xs:List V}{ds:A00}{fp:A03}:Bx d=false->Rp K Hm x d->eS K H Hm xs ds fp->eS K H Hm (x::xs) (d::ds) fp
 |own {b:Addr}{ys:List V}{es:A00}{xs:List V}{ds:A00}{fp:A03}:H b=some (.lst ys)->av K Hm ys es->b∉fp->eS K H Hm xs ds fp->eS K H Hm (.ref b::xs) (.list es::ds) (b::fp)
inductive uO(K:Frag)(H Hm:Hp):List (List Key×V)->List (PyData×PyData)->A03->Prop
 |nil:uO K H Hm [] [] []
 |own {k:List Key}{b:Addr}{ys:List V}{es:A00}{kvs:List (List Key×V)}{ds:Zn}{fp:A03}:H b=some (.lst ys)->av K Hm ys es->b∉fp->uO K H Hm kvs ds fp->uO K H Hm ((k,.ref b)::kvs) ((.tuple (k.map bJ),.list es)::ds) (b::fp)
noncomputable def US (h:Heap)(a:Addr)(S:Int->Bool) (n:Nat):Prop:=∃o es ep t,h.get? a=some o/\o.ExactSet/\o.data=.set es ep t/\(∀e∈es.toList,(∃k,Value.isInt k e.2=true/\e.1=hashInt k)/\e.2.scannable=true)/\(∀k,S k=true↔∃e∈es.toList,Value.isInt k e.2=true)
 /\ es.size<scanBound/\t.fits es.size=true/\es.size=n
def Sn (a:Addr)(ns:A08):HO:=.ext λh=>US h a (λk=>decide (k∈ns)) ns.length
def Vu (ns:A08):PyData:=.dict ((.none,.bool true)::ns.map λn=>(.int n,.none))
def jK (d:PyData)(ds es:A00):PyData:=.dict [(.none,.int 7),(d,.none),(.list ds,.none),(.list es,.none)]
inductive Own(K:Frag)(H Hm:Hp):Kd->V->PyData->A03->Prop
 |sh {v:V}{d:PyData}:Rp K Hm v d->Own K H Hm .sh v d []
 |ow {p:Bool}{a:Addr}{xs:List V}{ds:A00}:H a=some (.lst xs)->av K Hm xs ds->Own K H Hm (.ow p) (.ref a) (.list ds) [a]
 |dp {p:Bool}{a:Addr}{xs:List V}{ds:A00}{fp:A03}:H a=some (.lst xs)->a∉fp->eS K H Hm xs ds fp->Own K H Hm (.dp p) (.ref a) (.list ds) (a::fp)
 |dk {p:Bool}{a:Addr}{kvs:List (Key×V)}{ds:Zn}:H a=some (.dK kvs)->eY K Hm kvs ds->Own K H Hm (.dk p) (.ref a) (.dict ds) [a]
 |dt {p:Bool}{a:Addr}{kvs:List (List Key×V)}{ds:Zn}:H a=some (.dT kvs)->eK K Hm kvs ds->Own K H Hm (.dt p) (.ref a) (.dict ((.none,.none)::ds)) [a]
 |st {p:Bool}{a:Addr}{kvs:List (List Key×V)}{ds:Zn}{fp:A03}:H a=some (.dT kvs)->a∉fp->uO K H Hm kvs ds fp->Own K H Hm (.st p) (.ref a) (.dict ((.none,.none)::ds)) (a::fp)
 |is {p:Bool}{a:Addr}{ns:A08}:H a=some (Sn a ns)->Own K H Hm (.st p) (.ref a) (.dict ((.none,.bool true)::ns.map λn=>(.int n,.none))) [a]
 |ps {p:Bool}{a:Addr}{bs:SY}:H a=some (S9 a bs)->(∀q∈bs,vE Hm q.2 q.1)->Own K H Hm (.st p) (.ref a) (.dict ((.none,.bool false)::bs.map λq=>(S4 q.2,.none))) [a]
 |tl {p:Bool}{t a b:Addr}{v:V}{d:PyData}{xs ys:List V}{ds es:A00}:Hm t=some (.tup [v,.ref a,.ref b])->Rp K Hm v d->H a=some (.lst xs)->av K Hm xs ds->H b=some (.lst ys)->av K Hm ys es->a≠b->Own K H Hm (.st p) (.ref t) (jK d ds es) [a,b]
section
variable{K:Frag}{H H' Hm Hm':Hp}
def eS.step(s:ah Hm Hm'){xs:List V}{ds:A00}{fp:A03}(i:eS K H Hm xs ds fp):(∀a∈fp,H' a=H a)->eS K H' Hm' xs ds fp:=by
 induction i with
 |nil=>exact λ_=>.nil
 |lE e r _ ih=>exact λh=>.lE e (r.mono s) (ih h)
 |own e r n _ ih=>exact λh=>.own ((h _ V3).trans e) (r.mono s) n (ih λa ha=>h a (VA _ ha))
def eS.live(i:eS K H Hm xs ds fp):∀a∈fp,∃ys,H a=some (.lst ys):=by
 induction i with
 |nil=>exact λ_ h=>absurd h W0
 |lE _ _ _ ih=>exact ih
 |own e _ _ _ ih=>intro a h;rcases VB.mp h with rfl|h;{exact⟨_,e⟩};exact ih a h
def uO.step(s:ah Hm Hm'){xs:List (List Key×V)}{ds:Zn}{fp:A03}(i:uO K H Hm xs ds fp):(∀a∈fp,H' a=H a)->uO K H' Hm' xs ds fp:=by
 induction i with
 |nil=>exact λ_=>.nil
 |own e r n _ ih=>exact λh=>.own ((h _ V3).trans e) (r.mono s) n (ih λa ha=>h a (VA _ ha))
def uO.live(i:uO K H Hm xs ds fp):∀a∈fp,∃ys,H a=some (.lst ys):=by
 induction i with
 |nil=>exact λ_ h=>absurd h W0
 |own e _ _ _ ih=>intro a h;rcases VB.mp h with rfl|h;{exact⟨_,e⟩};exact ih a h
theorem Own.step{k:Kd}{v:V}{d:PyData}{fp:A03}(o:Own K H Hm k v d fp)(s:ah Hm Hm')(h:∀a∈fp,H' a=H a):Own K H' Hm' k v d fp:=by
 cases o with
 |sh r=>exact .sh (r.mono s)
 |ow e r=>exact .ow ((h _ V3).trans e) (r.mono s)
 |dp e n t=>exact .dp ((h _ V3).trans e) n (t.step s λa ha=>h a (VA _ ha))
 |dk e r=>exact .dk ((h _ V3).trans e) (r.mono s)
 |dt e r=>exact .dt ((h _ V3).trans e) (r.mono s)
 |st e n t=>exact .st ((h _ V3).trans e) n (t.step s λa ha=>h a (VA _ ha))
 |is e=>exact .is ((h _ V3).trans e)
 |ps e k=>exact .ps ((h _ V3).trans e) λq hq=>(k q hq).mono λb xs e=>s _ _ e
 |tl et r ea r1 eb r2 n=>exact .tl (s _ _ et) (r.mono s) ((h _ V3).trans ea) (r1.mono s) ((h _ (VA _ V3)).trans eb) (r2.mono s) n
def pM (u:HO):Prop:=∀xs,u≠.tup xs
def iM:pM (.lst xs):=λ_ z=>by cases z
def xx:pM (.dK xs):=λ_ z=>by cases z
def uS:pM (.dT xs):=λ_ z=>by cases z
def UK:pM (Sn a ns):=λ_ z=>by cases z
def Vq:pM (S9 a bs):=λ_ z=>by cases z
theorem Own.live(o:Own K H Hm k v d fp):∀a∈fp,∃u,H a=some u/\pM u:=by
 intro a ha;cases o with
 |sh _=>cases ha
 |ow e _=>rw[V7.mp ha];exact⟨_,e,by first|exact iM|exact xx|exact uS⟩
 |dp e _ t=>rcases VB.mp ha with rfl|ha;{exact⟨_,e,by first|exact iM|exact xx|exact uS⟩};obtain⟨ys,e⟩:=t.live a ha;exact⟨_,e,by first|exact iM|exact xx|exact uS⟩
 |dk e _=>rw[V7.mp ha];exact⟨_,e,by first|exact iM|exact xx|exact uS⟩
 |dt e _=>rw[V7.mp ha];exact⟨_,e,by first|exact iM|exact xx|exact uS⟩
 |is e=>rw[V7.mp ha];exact⟨_,e,UK⟩
 |ps e _=>rw[V7.mp ha];exact⟨_,e,Vq⟩
 |tl _ _ ea _ eb _ _=>rcases VB.mp ha with rfl|ha;{exact⟨_,ea,iM⟩};rw[V7.mp ha];exact⟨_,eb,iM⟩
 |st e _ t=>rcases VB.mp ha with rfl|ha;{exact⟨_,e,by first|exact iM|exact xx|exact uS⟩};obtain⟨ys,e⟩:=t.live a ha;exact⟨_,e,by first|exact iM|exact xx|exact uS⟩
def eS.Vj(s:ah Hm Hm')(i:eS K H Hm xs ds fp):(∀a∈fp,Hm' a=H a)->av K Hm' xs ds:=by
 induction i with
 |nil=>exact λ_=>.nil
 |lE _ r _ ih=>exact λh=>.cons (r.mono s) (ih h)
 |own e r _ _ ih=>exact λh=>.cons (.lst (.inl (.inl ((h _ V3).trans e))) (r.mono s)) (ih λa ha=>h a (VA _ ha))
def Own.rp(o:Own K H Hm k v d fp)(hk:k.rd=true)(s:ah Hm Hm')(h:∀a∈fp,Hm' a=H a):Rp K Hm' v d:=by
 cases o with
 |sh r=>exact r.mono s
 |ow e r=>exact .lst (.inl (.inl ((h _ V3).trans e))) (r.mono s)
 |dp e _ t=>exact .lst (.inl (.inl ((h _ V3).trans e))) (t.Vj s λa ha=>h a (VA _ ha))
 |dk e r=>exact .dk ((h _ V3).trans e) (r.mono s)
 |dt e r=>exact .dt ((h _ V3).trans e) (r.mono s)
 |st _ _ _=>cases hk
 |is _=>cases hk
 |ps _ _=>cases hk
 |tl _ _ _ _ _ _ _=>cases hk
def av.yb(s:kC Hm Hm')(r:av K Hm xs ds)(h:ds.all Dv.lf=true):av K Hm' xs ds:=r.lf s (by rw[vq];exact h)
def eS.flat(s:kC Hm Hm')(i:eS K H Hm xs ds fp):(ds.all λd=>match d with | .list es=>es.all Dv.lf|d=>Dv.lf d)=true->eS K H Hm' xs ds fp:=by
 induction i with
 |nil=>exact λ_=>.nil
 |@lE x d xs ds fp e r t ih=>intro h;rw[VJ,V9]at h;refine .lE e (r.lf s ?_) (ih h.2);have h1:=h.1;cases d<;>first|exact h1|cases e
 |own e r n t ih=>intro h;rw[VJ,V9]at h;exact .own e (r.yb s h.1) n (ih h.2)
def eY.flat(s:kC Hm Hm')(r:eY K Hm kvs ds)(h:(ds.all λkv=>Dv.lf kv.2)=true):eY K Hm' kvs ds:=by
 induction kvs generalizing ds with
 |nil=>cases r;exact .nil
 |cons kv kvs ih=>
  cases r with
  |cons a b=>rw[VJ,V9]at h;exact .cons (a.lf s h.1) (ih b h.2)
def eK.flat(s:kC Hm Hm')(r:eK K Hm kvs ds)(h:(ds.all λkv=>Dv.lf kv.2)=true):eK K Hm' kvs ds:=by
 induction kvs generalizing ds with
 |nil=>cases r;exact .nil
 |cons kv kvs ih=>
  cases r with
  |cons a b=>rw[VJ,V9]at h;exact .cons (a.lf s h.1) (ih b h.2)
theorem Own.flat(o:Own K H Hm k v d fp)(s:kC Hm Hm')(h:Dv.flat k d=true):Own K H Hm' k v d fp:=by
 cases o with
 |sh r=>exact .sh (r.lf s h)
 |ow e r=>exact .ow e (r.yb s h)
 |dp e n t=>exact .dp e n (t.flat s h)
 |dk e r=>exact .dk e (r.flat s h)
 |dt e r=>have h:(Dv.lf .none&&_)=true:=h;rw[V9]at h;exact .dt e (r.flat s h.2)
 |st _ _ _=>cases h
 |is _=>cases h
 |ps _ _=>cases h
 |tl _ _ _ _ _ _ _=>cases h
end
def OE (o p:Option HO):Prop:=o=p\/(p=none/\∃xs,o=some (.tup xs))
def OE.rfl':OE o o:=.inl rfl
def OE.trans(h:OE a b)(k:OE b c):OE a c:=by rcases h with rfl|⟨rfl,h⟩;{exact k};rcases k with rfl|⟨rfl,_⟩;{exact .inr ⟨rfl,h⟩};exact .inr ⟨rfl,h⟩
def OE.off{a:Addr}(h:OE (Hm a) p)(hp:p=none)(s:ah Hm H)(hu:H a=some u)(nt:pM u):Hm a=none:=by rcases h with e|⟨_,xs,e⟩;{rw[e,hp]};have:=s _ _ e;rw[hu]at this;cases this;exact absurd rfl (nt xs)
structure Gh where
 H0:Hp
 dZ:Hp
 pins:List (Nat×Addr)
def Gh.M (g:Gh):A03:=g.pins.map (·.2)
structure Rl(K:Frag)(g:Gh)(E:En)(U:St)(H Hm:Hp)(F:Nat->A03):Prop where
 len:E.length=U.length
 sub:ah Hm H
 slot:∀i k d,E[i]?=some (some (k,d))->∃v,U[i]?=some (some v)/\Own K H Hm k v d (F i)
 off:∀i a,a∈F i->Hm a=none
 aX:∀i a,a∈F i->∃u,H a=some u/\pM u
 aD:∀i j a,a∈F i->a∈F j->i=j
 fr:∀p o,p∉g.M->g.H0 p=some o->H p=some o
 new:∀i a,a∈F i->a∈g.M\/g.H0 a=none
 pin:∀q∈g.pins,U[q.1]?=some (some (.ref q.2))/\∃ds,E[q.1]?=some (some (.ow true,.list ds))
 old:∀a,g.H0 a≠none->OE (Hm a) (g.dZ a)
structure Tm(K:Frag)(g:Gh)(F:Nat->A03)(H Hm:Hp)(k:Kd) (v:V)(d:PyData)(fp:A03):Prop where
 own:Own K H Hm k v d fp
 off:∀a∈fp,Hm a=none
 aD:∀a∈fp,∀i,a∉F i
 new:∀a∈fp,g.H0 a=none
section
variable{K:Frag}{g:Gh}{E:En}{U:St}{H H' Hm Hm':Hp}{F:Nat->A03}
def Rl.grow(R:Rl K g E U H Hm F)(h:ah H H')(s:ah Hm Hm')(b:ah Hm' H')(o:∀i a,a∈F i->Hm' a=none)(od:∀a,g.H0 a≠none->OE (Hm' a) (Hm a)):Rl K g E U H' Hm' F where
 len:=R.len
 sub:=b
 slot:=λi k d e=>by
  obtain⟨v,h1,h2⟩:=R.slot i k d e;refine⟨v,h1,h2.step s λa ha=>?_⟩
  obtain⟨u,hu,_⟩:=h2.live a ha;rw[hu];exact h _ _ hu
 off:=o
 aX:=λi a ha=>let⟨u,hu,n⟩:=R.aX i a ha;⟨u,h _ _ hu,n⟩
 aD:=R.aD
 fr:=λp o hp ho=>h _ _ (R.fr p o hp ho)
 new:=R.new
 pin:=R.pin
 old:=λa ha=>(od a ha).trans (R.old a ha)
def Rl.more(R:Rl K g E U H Hm F)(s:ah Hm Hm')(b:ah Hm' H)(o:∀i a,a∈F i->Hm' a=none)(od:∀a,g.H0 a≠none->OE (Hm' a) (Hm a)):Rl K g E U H Hm' F:=R.grow (ah.refl _) s b o od
def Rl.yT(R:Rl K g E U H Hm F)(hq:q∈g.pins):F q.1=[q.2]:=by obtain⟨h1,ds,h2⟩:=R.pin q hq;obtain⟨v,h3,h4⟩:=R.slot _ _ _ h2;rw[h1]at h3;cases h3;generalize F q.1=fi at h4;cases h4;rfl
def Rl.notM(R:Rl K g E U H Hm F){i:Nat}(e:E[i]?=some (some (k,d)))(hk:k.pin=false){a:Addr}(ha:a∈F i):g.H0 a=none:=by rcases R.new i a ha with m|m;{obtain⟨q,hq,rfl⟩:=V8.mp m;have:=R.aD i q.1 q.2 ha (by rw[R.yT hq];exact V3);obtain⟨_,ds,h2⟩:=R.pin q hq;rw[<-this,e]at h2;cases h2;cases hk};exact m
def Rl.Rv(R:Rl K g E U H Hm F){a:Addr}(ha:a∈g.M):H a≠none:=λz=>by obtain⟨q,hq,rfl⟩:=V8.mp ha;obtain⟨u,hu,_⟩:=R.aX q.1 q.2 (by rw[R.yT hq];exact V3);rw[z]at hu;cases hu
def Rl.l5(R:Rl K g E U H Hm F){a:Addr}(ha:g.H0 a≠none):H a≠none:=λz=>by
 by_cases m:a∈g.M;{exact R.Rv m z};cases e:g.H0 a with
 |none=>exact ha e
 |some o=>rw[R.fr a o m e]at z;cases z
def Rl.fresh(R:Rl K g E U H Hm F){p:Addr}(h:H p=none){i:Nat}:p∉F i:=λz=>by obtain⟨u,hu,_⟩:=R.aX i p z;rw[h]at hu;cases hu
def Rl.g9(R:Rl K g E U H Hm F){p:Addr}(h:H p=none):Hm p=none:=by
 cases e:Hm p with
 |none=>rfl
 |some o=>rw[R.sub _ _ e]at h;cases h
def Rl.d7(R:Rl K g E U H Hm F){p:Addr}(h:H p=none):g.H0 p=none:=by
 cases e:g.H0 p with
 |none=>rfl
 |some o=>exact absurd h (R.l5 (by rw[e];simp))
end
open Classical in
def lend (Hm H:Hp)(fp:A03):Hp:=λa=>if a∈fp then H a else Hm a
open Classical in
def back (Hm:Hp)(fp:A03):Hp:=λa=>if a∈fp then none else Hm a
section
variable{Hm H:Hp}{fp:A03}{a:Addr}
def cV(h:a∈fp):lend Hm H fp a=H a:=by unfold lend;rw[if_pos h]
def bV(h:a∉fp):lend Hm H fp a=Hm a:=by unfold lend;rw[if_neg h]
def iO(h:a∈fp):back Hm fp a=none:=by unfold back;rw[if_pos h]
def b9(h:a∉fp):back Hm fp a=Hm a:=by unfold back;rw[if_neg h]
def fP(n:∀a∈fp,Hm a=none):ah Hm (lend Hm H fp):=λb o e=>by
 have:b∉fp:=λz=>by rw[n b z]at e;cases e
 rw[bV this];exact e
def gn(s:ah Hm H):ah (lend Hm H fp) H:=λb o e=>by by_cases h:b∈fp;{rw[cV h]at e;exact e};rw[bV h]at e;exact s _ _ e
def tQ(s:ah Hm H):ah (back Hm fp) H:=λb o e=>by by_cases h:b∈fp;{rw[iO h]at e;cases e};rw[b9 h]at e;exact s _ _ e
end
section
variable{K:Frag}{g:Gh}{E:En}{U:St}{H H' Hm Hm':Hp}{F:Nat->A03}{k:Kd}{v:V}{d:PyData}{fp:A03}
def Tm.dX(T:Tm K g F H Hm k v d fp)(R:Rl K g E U H Hm F)(hk:k.fz=true):∃Hm',ah Hm Hm'/\Rl K g E U H Hm' F/\Rp K Hm' v d:=by have up:=fP (Hm:=Hm) (H:=H) T.off;refine⟨lend Hm H fp,up,R.more up (gn R.sub) (λi a ha=>?_) λa ha=>.inl (bV λz=>ha (T.new a z)),T.own.rp (by cases k<;>first|rfl|cases hk) up λa ha=>cV ha⟩;rw[bV λz=>T.aD a z i ha];exact R.off i a ha
def aC{α:Type}{l:List α}{i:Nat}{a:α}(h:i<l.length):(l.set i a)[i]?=some a:=by rw[Wa];simp[h]
def ai{α:Type}{l:List α}{i j:Nat}{a:α}(h:i≠j):(l.set i a)[j]?=l[j]?:=by rw[Wa];simp[h]
def Rl.put(R:Rl K g E U H Hm F)(T:Tm K g F H Hm k v d fp){i:Nat}(o:bI E i=true):Rl K g (E.set i (some (k,d))) (U.set i (some v)) H Hm (λj=>if j=i then fp else F j) where
 len:=by rw[VT,VT];exact R.len
 sub:=R.sub
 slot:=λj k' d' e=>by
  by_cases c:j=i
  .subst c;have hl:j<E.length:=by
    rcases WM j E.length with h|h
    .exact h
    .rw[VY (by rw[VT];exact h)]at e;cases e
   rw[aC hl]at e;cases e;exact⟨v,aC (R.len▸hl),by rw[if_pos rfl];exact T.own⟩
  .rw[ai (Ne.symm c)]at e;obtain⟨u,h1,h2⟩:=R.slot j k' d' e;exact⟨u,by rw[ai (Ne.symm c)];exact h1,by rw[if_neg c];exact h2⟩
 off:=λj a ha=>by
  by_cases c:j=i
  .rw[if_pos c]at ha;exact T.off a ha
  .rw[if_neg c]at ha;exact R.off j a ha
 aX:=λj a ha=>by
  by_cases c:j=i
  .rw[if_pos c]at ha;exact T.own.live a ha
  .rw[if_neg c]at ha;exact R.aX j a ha
 aD:=λj l a h1 h2=>by
  by_cases c:j=i
  .rw[if_pos c]at h1
   by_cases c':l=i
   .rw[c,c']
   .rw[if_neg c']at h2;exact absurd h2 (T.aD a h1 l)
  .rw[if_neg c]at h1
   by_cases c':l=i
   .rw[if_pos c']at h2;exact absurd h1 (T.aD a h2 j)
   .rw[if_neg c']at h2;exact R.aD j l a h1 h2
 fr:=R.fr
 new:=λj a ha=>by
  by_cases c:j=i
  .rw[if_pos c]at ha;exact .inr (T.new a ha)
  .rw[if_neg c]at ha;exact R.new j a ha
 pin:=λq hq=>by
  obtain⟨h1,ds,h2⟩:=R.pin q hq;have c:i≠q.1:=λz=>by
   unfold bI at o;rw[z,h2]at o;cases o
  exact⟨by rw[ai c];exact h1,ds,by rw[ai c];exact h2⟩
 old:=R.old
theorem Tm.sh(h:Rp K Hm v d):Tm K g F H Hm .sh v d []:=⟨.sh h,(λ_ z=>by cases z),(λ_ z=>by cases z),λ_ z=>by cases z⟩
def Rl.chg(R:Rl K g E U H Hm F){i:Nat}{p:Bool}{ds es:A00}{ys:List V}(e:E[i]?=some (some (.ow p,.list ds)))(r:av K Hm ys es):∃a xs,U[i]?=some (some (.ref a))/\H a=some (.lst xs)/\av K Hm xs ds/\Hm a=none/\Rl K g (E.set i (some (.ow p,.list es))) U (upd H a (.lst ys)) Hm F:=by
 obtain⟨v,h1,h2⟩:=R.slot i _ _ e;generalize hf:F i=fi at h2;cases h2 with
 |@ow _ a xs _ ha hr=>
  have ma:a∈F i:=by rw[hf];exact V3
  have na:=R.off i a ma;have up:∀b,b≠a->upd H a (.lst ys) b=H b:=λb hb=>aj hb;have li:i<E.length:=by rcases WM i E.length with h|h;{exact h};rw[VY h]at e;cases e
  refine⟨a,xs,h1,ha,hr,na,?_⟩;exact {
   len:=by rw[VT];exact R.len
   sub:=λb o hb=>by
    have:b≠a:=λz=>by rw[z,na]at hb;cases hb
    rw[up b this];exact R.sub b o hb
   slot:=λj k' d' e'=>by
    by_cases c:j=i
    .subst c;rw[aC li]at e';cases e';exact⟨_,h1,by rw[hf];exact .ow aq r⟩
    .rw[ai (Ne.symm c)]at e';obtain⟨u,g1,g2⟩:=R.slot j k' d' e';refine⟨u,g1,g2.step (ah.refl _) λb hb=>up b λz=>c (R.aD j i a (z▸hb) ma)⟩
   off:=R.off
   aX:=λj b hb=>by
    by_cases c:b=a
    .rw[c];exact⟨_,aq,iM⟩
    .rw[up b c];exact R.aX j b hb
   aD:=R.aD
   fr:=λq o hq ho=>by
    have:q≠a:=λz=>by
     rcases R.new i a ma with y|y
     .exact hq (z▸y)
     .rw[z,y]at ho;cases ho
    rw[up q this];exact R.fr q o hq ho
   new:=R.new
   pin:=λq hq=>by
    obtain⟨g1,ds',g2⟩:=R.pin q hq
    by_cases c:i=q.1
    .rw[<-c]at g1 g2⊢;rw[e]at g2;cases g2;exact⟨g1,es,aC li⟩
    .exact⟨g1,ds',by rw[ai c];exact g2⟩
   old:=R.old }
theorem Rl.dI(R:Rl K g E U H Hm F){i:Nat}{E':En}{d:PyData}{k:Kd}(e:E[i]?=some (some (k,d)))(h:Dv.dI E i=some E'):∃v Hm' F',U[i]?=some (some v)/\ah Hm Hm'/\Rl K g E' U H Hm' F'/\Rp K Hm' v d:=by
 unfold Dv.dI at h;rw[e]at h;have h:(if k.fz=true then some (E.set i (some (.sh,d)))else none)=some E':=h;by_cases hk:k.fz=true
 .rw[if_pos hk]at h;cases h;obtain⟨v,h1,h2⟩:=R.slot i k d e;have up:=fP (Hm:=Hm) (H:=H) (fp:=F i) (R.off i);have rp:=h2.rp (by cases k<;>first|rfl|cases hk) up λa ha=>cV ha;have li:i<E.length:=by rcases WM i E.length with h|h;{exact h};rw[VY h]at e;cases e
  refine⟨v,lend Hm H (F i),λj=>if j=i then []else F j,h1,up,?_,rp⟩;exact {
   len:=by rw[VT];exact R.len
   sub:=gn R.sub
   slot:=λj k' d' e'=>by
    by_cases c:j=i
    .subst c;rw[aC li]at e';cases e';exact⟨v,h1,by rw[if_pos rfl];exact .sh rp⟩
    .rw[ai (Ne.symm c)]at e';obtain⟨u,g1,g2⟩:=R.slot j k' d' e';exact⟨u,g1,by rw[if_neg c];exact g2.step up λ_ _=>rfl⟩
   off:=λj a ha=>by
    by_cases c:j=i
    .rw[if_pos c]at ha;cases ha
    .rw[if_neg c]at ha;rw[bV λz=>c (R.aD j i a ha z)]
     exact R.off j a ha
   aX:=λj a ha=>by
    by_cases c:j=i
    .rw[if_pos c]at ha;cases ha
    .rw[if_neg c]at ha;exact R.aX j a ha
   aD:=λj l a g1 g2=>by
    by_cases c:j=i
    .rw[if_pos c]at g1;cases g1
    .rw[if_neg c]at g1
     by_cases c':l=i
     .rw[if_pos c']at g2;cases g2
     .rw[if_neg c']at g2;exact R.aD j l a g1 g2
   fr:=R.fr
   new:=λj a ha=>by
    by_cases c:j=i
    .rw[if_pos c]at ha;cases ha
    .rw[if_neg c]at ha;exact R.new j a ha
   pin:=λq hq=>by
    obtain⟨g1,ds',g2⟩:=R.pin q hq;have c:i≠q.1:=λz=>by
     rw[<-z,e]at g2;cases g2;cases hk
    exact⟨g1,ds',by rw[ai c];exact g2⟩
   old:=λa ha=>by
    rw[bV λz=>ha (R.notM e (by cases k<;>first|rfl|(rename_i p;cases p<;>first|rfl|cases hk)|cases hk) z)]
    exact R.old a ha }
 rw[if_neg hk]at h;cases h
end
end Dv
namespace L2
open PySem PySem.Spec PyProof.Rows
noncomputable def iT (h:Heap)(e C T:Addr)(dd:A01):Prop:=
 ∃(t0:Addr)(v2 v3 v4 v5:Value)(sl:Zo)(oT:Obj)(ts:Zz),h.get? e=some ⟨.ref C,dd,.fields #[.ref t0,.ref T,v2,v3,v4,v5],sl⟩/\T≠e/\h.get? T=some oT/\oT.data=.fields ts/\ts[3]?=some .none
structure Way(fs:A03)(e T:Addr)(h h':Heap):Prop where
 keep:∀b o,b≠e->b≠T->b∉fs->h.get? b=some o->h'.get? b=some o
 slot:∀b o,b≠e->b≠T->h.get? b=some o->∃sl,h'.get? b=some { o with slots:=sl }
section
variable{M:Model}{A:Around}{E:Zp}{s:Shared}
def pZ{L e C t0 T0:Addr}{hadNext:Bool}(hfr:A.frames=some (env::outer))(hl:s.heap.FunFrames base (env::outer))(hf:env.frame=some L)(he:s.heap.get? e=some ⟨.ref C,dd,.fields #[.ref t0,w1,v2,v3,v4,v5],sl0⟩)(q:∀h' T,s.heap.get? T=none->Way (frs (env::outer)) e T s.heap h'->iT h' e C T dd->Q () { s with heap:=h' }) :
  wpAny M A (do let a <-frameOf env;let pl <-entryPlaceOf L hadNext;let b <-EntryCells.newEntry head a .none (rawInt L) .none pl;setField (.ref e) 1 b) (λ_ s'=>wpAny M A (setFlight (.ref e) none) Q E s') E s:=by
 have ene:e∉frs (env::outer):=λhm=>by obtain⟨_,o,ho,hnf⟩:=hl.mem hm;rw[he]at ho;cases ho;exact hnf _ rfl
 refine V0 (wpAny_frameOf_fun hfr hl hf λh1 hs1=>V0 (wpAny_entryPlaceOf λpl hpl=>?_))
 unfold EntryCells.newEntry newFields;refine V0 (Wt ?_ (hpl.sizeOk5 _ _ _ _ _));have he1:h1.get? e=some ⟨.ref C,dd,.fields #[.ref t0,w1,v2,v3,v4,v5],sl0⟩:=(hs1.2.1 e ene).trans he;generalize hO:({ cls:=.type "traceback",dict:=none,data:=.fields ([head,.ref L,.none,rawInt L,.none]++(if pl.isEmpty then List.replicate 6 Value.none else pl)).toArray }:Obj)=oT
 have he2:=VW (h:=h1) oT he1;refine Xq he2 rfl (by show 1<6;decide) ?_
 have ne:h1.objs.size≠e:=Xl (VC he1);have hdT:oT.data=.fields ([head,.ref L,.none,rawInt L,.none]++(if pl.isEmpty then List.replicate 6 Value.none else pl)).toArray:=by rw[<-hO]
 have fr:oT.isFreed=false:=by rw[<-hO];rfl
 have he3:((h1.push oT).update e (Obj.mapFields (·.setIfInBounds 1 (Value.ref h1.objs.size)))).get? e=some ⟨.ref C,dd,.fields #[.ref t0,.ref h1.objs.size,v2,v3,v4,v5],sl0⟩:=XU _ he2 rfl;have hT3:((h1.push oT).update e (Obj.mapFields (·.setIfInBounds 1 (Value.ref h1.objs.size)))).get? h1.objs.size=some oT:=(Wc _ _ (Ne.symm ne)).trans (W8 h1 fr);unfold setFlight;refine V0 (Ws he3 rfl (x:=.ref h1.objs.size) rfl ?_);rw[if_pos (show(Value.ref h1.objs.size != Value.none)=true by simp)]
 have sz:s.heap.objs.size=h1.objs.size:=hs1.1.symm;refine Xq hT3 hdT (by simp only[VM,VH,VI,WD]<;>lia) (q _ h1.objs.size ?_ ⟨λb o b1 b2 b3 hb=>?_,λb o b1 b2 hb=>?_⟩ ?_)
 .exact ZF (YF sz)
 .have hb1:h1.get? b=some o:=(hs1.2.1 b b3).trans hb;rw[Wc _ _ (Ne.symm b2),Wc _ _ (Ne.symm b1)];exact VW _ hb1
 .obtain⟨sl,hb1⟩:=hs1.2.2 b o hb;refine⟨sl,?_⟩;rw[Wc _ _ (Ne.symm b2),Wc _ _ (Ne.symm b1)];exact VW _ hb1
 .have dt:=YG hdT (·.setIfInBounds 3 ((none:A01).elim Value.none λf=>rawInt f))
  refine⟨t0,v2,v3,v4,v5,sl0,_,_,?_,ne,XU _ hT3 (Yp dt),dt,?_⟩
  .rw[Wc _ _ ne];exact he3
  .first|(simp;done)|(rcases hpl with rfl|⟨_,_,_,_,_,_,_,rfl⟩<;>simp)
def leave_new{L e C t0:Addr}(hfr:A.frames=some (env::outer))(hl:s.heap.FunFrames base (env::outer))(hf:env.frame=some L)(he:s.heap.get? e=some ⟨.ref C,dd,.fields #[.ref t0,.none,v2,v3,v4,v5],sl0⟩)(q:∀h' T,s.heap.get? T=none->Way (frs (env::outer)) e T s.heap h'->iT h' e C T dd->Q () { s with heap:=h' }):wpAny M A (leaving env (.ref e)) Q E s:=by unfold leaving noteFrame;simp only[hf];refine V0 (V0 (Ws he rfl (x:=.none) rfl ?_));rw[if_neg (show ¬((Value.none != Value.none)=true)by decide)];exact pZ (T0:=e) hfr hl hf he q
def Iw{L e C T:Addr}(hfr:A.frames=some (env::outer))(hl:s.heap.FunFrames base (env::outer))(hf:env.frame=some L)(ho:iT s.heap e C T dd)(q:∀h' T2,s.heap.get? T2=none->(∀b o,b≠e->b≠T->b≠T2->b∉frs (env::outer)->s.heap.get? b=some o->h'.get? b=some o)->(∀b o,b≠e->b≠T->b≠T2->s.heap.get? b=some o->∃sl,h'.get? b=some { o with slots:=sl })->iT h' e C T2 dd->Q () { s with heap:=h' }):wpAny M A (leaving env (.ref e)) Q E s:=by
 obtain⟨t0,v2,v3,v4,v5,sl0,oT,ts,he,hTe,hT,hdT,h3⟩:=ho;unfold leaving noteFrame;simp only[hf];refine V0 (V0 (Ws he rfl (x:=.ref T) rfl ?_));rw[if_pos (show(Value.ref T != Value.none)=true by simp)];refine V0 (Ws hT hdT h3 ?_);rw[if_neg (show ¬((Value.none==rawInt L)=true)by simp[rawInt])];refine V0 (Xq hT hdT (Xr.mp h3).1 ?_);have other:∀b,b≠T->(s.heap.update T (Obj.mapFields (·.setIfInBounds 3 Value.none))).get? b=s.heap.get? b:=λb hb=>Wc _ _ (Ne.symm hb);have noRec:∀b o,s.heap.get? b=some o->(∀vs,o.data≠.fields vs)->b≠T:=λb o hb hnf z=>by rw[z,hT]at hb;cases hb;exact hnf ts hdT
 refine pZ (s:={ s with heap:=s.heap.update T (Obj.mapFields (·.setIfInBounds 3 Value.none)) }) (T0:=T) hfr (hl.of_keeps λb o hb hnf=>⟨o,(other b (noRec b o hb hnf)).trans hb,rfl⟩) hf ((other e (Ne.symm hTe)).trans he) λh' T2 n2 W O=>?_;have n2':s.heap.get? T2=none:=by
  cases c:s.heap.get? T2 with
  |none=>rfl
  |some o=>exfalso;by_cases z:T2=T;{subst z;rw[XU _ hT (Yp (YG hdT _))]at n2;cases n2};rw[show({ s with heap:=s.heap.update T (Obj.mapFields (·.setIfInBounds 3 Value.none)) }:Shared).heap.get? T2=s.heap.get? T2 from other T2 z,c]at n2;cases n2
 exact q h' T2 n2' (λb o b1 b2 b3 b4 hb=>W.keep b o b1 b3 b4 ((other b b2).trans hb)) (λb o b1 b2 b3 hb=>W.slot b o b1 b3 ((other b b2).trans hb)) O
end
end L2
namespace L2
open PySem PySem.Spec PyProof.Rows PySem.W
noncomputable def dS (P:Program)(w:World):mq:=λouter H s E e s'=>
 ∃a C T dd H',e=.ref a/\s'.os=s.os/\AllBare s'.gens/\Un (frs outer) [] H H' s.heap s'.heap/\dH P w H' s'.heap/\iT s'.heap a C T dd/\s.heap.get? T=none/\H' T=none/\s.heap.get? a=none/\H' a=some (.ext (eZ a C dd))/\E (.ref C) (some a) H'
def iT.EM{e C T:Addr}(o:iT h e C T dd):eZ e C dd h:=by obtain⟨t0,v2,v3,v4,v5,sl,_,_,he,_⟩:=o;exact⟨t0,_,v2,v3,v4,v5,sl,he⟩
def BJ{P:Program}{w:World}{H:Hp}{h h':Heap}{a C:Addr}{dd:A01}{fs:A03}{N:Addr->Prop}(ok:dH P w H h)(ha:H a=some (.ext (eZ a C dd)))(hN:∀b,N b->H b=none)(hf:∀b∈fs,H b=none)(k:∀b o,b≠a->¬N b->b∉fs->h.get? b=some o->h'.get? b=some o)(x:eZ a C dd h'):dH P w H h':=λb u e=>by by_cases z:b=a;{subst z;rw[ha]at e;cases e;exact Hl x};have nn:∀c v,H c=some v->¬N c/\c∉fs:=λc v q=>⟨λy=>(by rw[hN c y]at q;cases q),λy=>(by rw[hf c y]at q;cases q)⟩;refine(ok b u e).stay (λc v hc r=>k c v ?_ ?_ ?_ r) (λc r=>r) λc xs r=>r;{rcases hc with y|y;{rw[y];exact z};intro q;rw[q,ha]at y;cases y};{rcases hc with y|y;{rw[y];exact(nn b u e).1};exact(nn c _ y).1};rcases hc with y|y;{rw[y];exact(nn b u e).2};exact(nn c _ y).2
section
variable{CX:mq}{P:Program}{w:World}{K:Frag}{mg:Zr}{base:Heap}{N:A09}{qual:Str}{scope:Scope}{f:Addr}{cd:Value}{A:Around}{outer:List Env}{s0:Shared}{H0:Hp}{E:XK}
def Ba{pins:Zs}{U:St}{H:Hp}{s:Shared}{a C T:Addr}{dd:A01}{h':Heap}{Nw:Addr->Prop}(I:Inv (fF CX P w K mg base N qual scope f cd A outer s0 H0 E) pins U H s)(ha:H a=some (.ext (eZ a C dd)))(na:s0.heap.get? a=none)(hN:∀b,Nw b->H b=none)(hN0:∀b,Nw b->s0.heap.get? b=none)(hT:Nw T)(k:∀b o,b≠a->¬Nw b->b∉frs (envOfC qual scope s0.heap.objs.size f cd::outer)->s.heap.get? b=some o->h'.get? b=some o)(sl:∀b o,b≠a->¬Nw b->s.heap.get? b=some o->∃sl,h'.get? b=some { o with slots:=sl })(O:iT h' a C T dd)(q:E (.ref C) (some a) H):dS P w outer H0 s0 E (.ref a) { s with heap:=h' }:=by
 have B:Un (frs outer) [] H0 H s0.heap s.heap:=I.base;have old:∀b o,s0.heap.get? b=some o->b≠a/\¬Nw b:=λb o e=>⟨(λz=>by rw[z,na]at e;cases e),λz=>by rw[hN0 b z]at e;cases e⟩;have notloc:∀b o,s0.heap.get? b=some o->b∉frs outer->b∉frs (envOfC qual scope s0.heap.objs.size f cd::outer):=λb o e nb z=>by
  have z2:b∈(envOfC qual scope s0.heap.objs.size f cd).frame.toList++frs outer:=by have:frs (envOfC qual scope s0.heap.objs.size f cd::outer)=s0.heap.objs.size::frs outer:=rfl;rw[this]at z;exact z
  rcases VS.mp z2 with y|y
  .have y:some s0.heap.objs.size=some b:=by
    have y0:(envOfC qual scope s0.heap.objs.size f cd).frame=some b:=by simpa using y
    exact y0
   have y:s0.heap.objs.size=b:=Option.some.inj y;exact absurd (VC e) (by rw[<-y];exact WB _)
  exact nb y
 refine⟨a,C,T,dd,H,rfl,I.os,I.bare,⟨λb o e n nf nx=>?_,λb o e n nf nx=>?_,λb o e n nx=>B.free b o e n nx,λb o e nx=>?_,B.tups,B.ju,B.j4⟩,?_,O,hN0 T hT,hN T hT,na,ha,q⟩;{exact k b o (old b o e).1 (old b o e).2 (notloc b o e nf) (B.keep b o e n nf nx)};{obtain⟨sl1,e1⟩:=B.slot b o e n nf nx;obtain⟨sl2,e2⟩:=sl b _ (old b o e).1 (old b o e).2 e1;exact⟨sl2,e2⟩};{obtain⟨o1,e1⟩:=B.there b o e nx;obtain⟨sl2,e2⟩:=sl b _ (old b o e).1 (old b o e).2 e1;exact⟨_,e2⟩};exact BJ I.hok ha hN (I.rA) (λb o b1 b2 b3 e=>k b o b1 b2 b3 e) O.EM
def OQ{a C t0:Addr}(I:Inv (fF (dS P w) P w K mg base N qual scope f cd A outer s0 H0 E) pins U H s)(ha:H a=some (.ext (eZ a C dd)))(he:s.heap.get? a=some ⟨.ref C,dd,.fields #[.ref t0,.none,v2,v3,v4,v5],sl0⟩)(na:s0.heap.get? a=none)(q:E (.ref C) (some a) H):(fF (dS P w) P w K mg base N qual scope f cd A outer s0 H0 E).xe (.ref a) s:=by
 refine leave_new (base:=base) (L:=s0.heap.objs.size) I.ok.frames I.stack rfl he λh' T nT W O=>?_;have nT0:s0.heap.get? T=none:=by
  cases c:s0.heap.get? T with
  |none=>rfl
  |some o=>obtain⟨o1,e1⟩:=I.base.there T o c (by show T∉([]:A03);simp);rw[e1]at nT;cases nT
 exact Ba (Nw:=λb=>b=T) I ha na (λb z=>by rw[z];exact I.kG nT) (λb z=>by rw[z];exact nT0) rfl (λb o b1 b2 b3 e=>W.keep b o b1 b2 b3 e) (λb o b1 b2 e=>W.slot b o b1 b2 e) O q
def aZ:Passes (dS P w) (fF (dS P w) P w K mg base N qual scope f cd A outer s0 H0 E) E:=by
 intro pins U H s e s' I h;obtain⟨a,C,T,dd,H',rfl,os,bare,un,hok,O,nT,hT,na,ha,q⟩:=h;have I':=I.Cq (s':=s') (ch:=[]) os un hok bare λb z=>absurd z (by simp);have up:∀b,s.heap.get? b=none->s0.heap.get? b=none:=λb n=>by
  cases c:s0.heap.get? b with
  |none=>rfl
  |some o=>obtain⟨o1,e1⟩:=I.base.there b o c (by show b∉([]:A03);simp);rw[e1]at n;cases n
 refine Iw (base:=base) (L:=s0.heap.objs.size) I'.ok.frames I'.stack rfl O λh' T2 n2 k sl O2=>?_;have nT2:s0.heap.get? T2=none:=by
  cases c:s0.heap.get? T2 with
  |none=>rfl
  |some o=>obtain⟨o1,e1⟩:=I'.base.there T2 o c (by show T2∉([]:A03);simp);rw[e1]at n2;cases n2
 refine Ba (Nw:=λb=>b=T\/b=T2) I' ha (up a na) (λb z=>?_) (λb z=>?_) (.inr rfl) (λb o b1 b2 b3 e=>k b o b1 (λz=>b2 (.inl z)) (λz=>b2 (.inr z)) b3 e) (λb o b1 b2 e=>sl b o b1 (λz=>b2 (.inl z)) (λz=>b2 (.inr z)) e) O2 q;{rcases z with rfl|rfl;{exact hT};exact I'.kG n2};rcases z with rfl|rfl;{exact up _ nT};exact nT2
end
section
variable{P:Program}{w:World}{K:Frag}{mg:Zr}{base:Heap}{N:A09}{qual:Str}{scope:Scope}{f:Addr}{cd:Value}{A:Around}{outer:List Env}{s0:Shared}{H0:Hp}{E:XK}
def QC (C:Addr)(E:XK)(t:TA):TS:=λ_ U H=>t U H λvs H1=>vs.length<=sizeLine/\∀a,H1 a=none->E (.ref C) (some a) (upd H1 a (.ext (eZ a C none)))
def x9{C:Addr}(hc:i8 K C pB "ValueError.__new__" none=true)(hg:Gl (fF (dS P w) P w K mg base N qual scope f cd A outer s0 H0 E) x)(hm:mg x=some (.ref C))(ha:PA (fF (dS P w) P w K mg base N qual scope f cd A outer s0 H0 E) (e::es) t)(hdb:(x==("__debug__":Str))=false:=by decide)(he:starEach (e::es) (envOfC qual scope s0.heap.objs.size f cd)=(false,eval e (envOfC qual scope s0.heap.objs.size f cd))::starEach es (envOfC qual scope s0.heap.objs.size f cd):=by rfl)(hpl:(backTo cpos (starEach es (envOfC qual scope s0.heap.objs.size f cd))).any (·.1)=false:=by rfl) : PS (fF (dS P w) P w K mg base N qual scope f cd A outer s0 H0 E) (.Raise (some (.Call (.Name x np) (e::es) [] cpos)) none pos) (QC C E t):=by
 intro pins s U H D I h;obtain⟨bm,N0,nm,qn,bs,hd,sn,sub,ab,col,dd,k0,k1,k2,k3,k5,mN,hC,hN,hni,T⟩:=(LV I.ok.mod.ET hc).obj;refine wpAny_Raise_call_subT (C:=C) (nm:=nm) (q:=qn) (N:=N0) (bs:=bs) (bm:=bm) (hdct:=hd) (sn:=sn) (sub:=sub) (ab:=ab) (col:=col) (dd:=dd) (k0:=k0) (k1:=k1) (k2:=k2) (k3:=k3) (k5:=k5)
  PySem.F.excBase_ValueError (mN:=mN) (T.hasType (by decide)) (I.ok.hd rfl) (by show(backTo cpos (starEach (e::es) (envOfC qual scope s0.heap.objs.size f cd))).any (·.1)=false;rw[he];show(false||(backTo cpos (starEach es (envOfC qual scope s0.heap.objs.size f cd))).any (·.1))=false;rw[hpl];rfl) hni (nI I hg hm ⟨rfl,?_⟩ hdb)
 have go:=ha cpos pins s U H _ I h;show wpAny (model P w) _ (evalArgs (.ref C) true (backTo cpos (starEach (e::es) (envOfC qual scope s0.heap.objs.size f cd))) []) _ _ _;have go':wpAny (model P w) _ (spliced (backTo cpos (starEach (e::es) (envOfC qual scope s0.heap.objs.size f cd)))) _ _ _:=go;rw[he]at go'⊢;refine Calls.evalArgs_plain (aM go' λus s1 ⟨vs,H1,I1,r,hz,q⟩=>?_);have kp:∀b o,base.get? b=some o->s1.heap.get? b=some o:=I1.bk;refine⟨rfl,by rw[<-r.length];exact hz,kp _ _ hC,hN.keeps kp,T.keeps kp,λh' a M=>?_⟩;obtain⟨hp,g,dr,tk,os⟩:=s1;obtain⟨keeps,new,t0,hx,_,_⟩:=M;have I2:=I1.J1 (a:=a) (o:=.ext (eZ a C none)) (t':=tk) keeps new (Hl ⟨_,_,_,_,_,_,_,hx⟩);have na:s0.heap.get? a=none:=by
  cases c:s0.heap.get? a with
  |none=>rfl
  |some o=>obtain⟨o1,e1⟩:=I1.base.there a o c (by show a∉([]:A03);simp);rw[e1]at new;cases new
 exact OQ I2 (aq) hx na (q a (I1.kG new))
end
section
variable{M:Model}{A:Around}{E:Zp}{s:Shared}
def LG{L e C T:Addr}(hfr:A.frames=some (env::outer))(hl:s.heap.FunFrames base (env::outer))(hf:env.frame=some L)(ho:iT s.heap e C T dd)(q:∀h' T2,s.heap.get? T2=none->(∀b o,b≠e->b≠T->b≠T2->b∉frs (env::outer)->s.heap.get? b=some o->h'.get? b=some o)->(∀b o,b≠e->b≠T->b≠T2->s.heap.get? b=some o->∃sl,h'.get? b=some { o with slots:=sl })->iT h' e C T2 dd->Q () { s with heap:=h' }):wpAny M A (noteFrame (.ref e) env) (λ_ s'=>wpAny M A (setFlight (.ref e) none) Q E s') E s:=by
 obtain⟨t0,v2,v3,v4,v5,sl0,oT,ts,he,hTe,hT,hdT,h3⟩:=ho;unfold noteFrame;simp only[hf];refine V0 (Ws he rfl (x:=.ref T) rfl ?_);rw[if_pos (show(Value.ref T != Value.none)=true by simp)];refine V0 (Ws hT hdT h3 ?_);rw[if_neg (show ¬((Value.none==rawInt L)=true)by simp[rawInt])];refine V0 (Xq hT hdT (Xr.mp h3).1 ?_);have other:∀b,b≠T->(s.heap.update T (Obj.mapFields (·.setIfInBounds 3 Value.none))).get? b=s.heap.get? b:=λb hb=>Wc _ _ (Ne.symm hb);have noRec:∀b o,s.heap.get? b=some o->(∀vs,o.data≠.fields vs)->b≠T:=λb o hb hnf z=>by rw[z,hT]at hb;cases hb;exact hnf ts hdT
 refine pZ (s:={ s with heap:=s.heap.update T (Obj.mapFields (·.setIfInBounds 3 Value.none)) }) (T0:=T) hfr (hl.of_keeps λb o hb hnf=>⟨o,(other b (noRec b o hb hnf)).trans hb,rfl⟩) hf ((other e (Ne.symm hTe)).trans he) λh' T2 n2 W O=>?_;have n2':s.heap.get? T2=none:=by
  cases c:s.heap.get? T2 with
  |none=>rfl
  |some o=>exfalso;by_cases z:T2=T;{subst z;rw[XU _ hT (Yp (YG hdT _))]at n2;cases n2};rw[show({ s with heap:=s.heap.update T (Obj.mapFields (·.setIfInBounds 3 Value.none)) }:Shared).heap.get? T2=s.heap.get? T2 from other T2 z,c]at n2;cases n2
 exact q h' T2 n2' (λb o b1 b2 b3 b4 hb=>W.keep b o b1 b3 b4 ((other b b2).trans hb)) (λb o b1 b2 b3 hb=>W.slot b o b1 b3 ((other b b2).trans hb)) O
end
section
variable{X:Cx}{pins:Zs}{U:St}{H:Hp}{s:Shared}
structure Iz(X:Cx)(pins:Zs)(H:Hp)(b:Addr):Prop where
 new:X.s₀.heap.get? b=none
 free:H b=none
 loc:b≠X.env.locals
 cell:∀x c,X.env.cells.lookup x=some c->c≠b
 pin:∀p∈X.pn++pins,p.1≠b
def Inv.Ju(I:Inv X pins U H s)(hx:X.ex=[]){b:Addr}(n:s.heap.get? b=none):Iz X pins H b:=by
 refine⟨?_,I.kG n,λz=>?_,λx c e z=>?_,λp hp z=>?_⟩
 .cases c:X.s₀.heap.get? b with
  |none=>rfl
  |some o=>obtain⟨o1,e1⟩:=I.base.there b o c (by rw[hx];simp);rw[e1]at n;cases n
 .obtain⟨m,⟨o,_,_,ho,_⟩,_⟩:=I.loc;rw[<-z,n]at ho;cases ho
 .obtain⟨v,o,ho,_⟩:=I.cell x c e;rw[z,n]at ho;cases ho
 have:=(I.pin p hp).1;rw[z,n]at this;cases this
def Inv.way{a C:Addr}{h':Heap}{Nw:Addr->Prop}(I:Inv X pins U H s)(ha:H a=some (.ext (eZ a C dd)))(na:X.s₀.heap.get? a=none)(hN:∀b,Nw b->Iz X pins H b)(k:∀b o,b≠a->¬Nw b->b∉frs X.stack->s.heap.get? b=some o->h'.get? b=some o)(sl:∀b o,b≠a->¬Nw b->s.heap.get? b=some o->∃sl,h'.get? b=some { o with slots:=sl })(x:eZ a C dd h'):Inv X pins U H { s with heap:=h' }:=by
 have B:=I.base;have old:∀b o,X.s₀.heap.get? b=some o->b≠a/\¬Nw b:=λb o e=>⟨(λz=>by rw[z,na]at e;cases e),λz=>by rw[(hN b z).new]at e;cases e⟩;have fre:∀b,H b=none->b≠a:=λb n z=>by rw[z,ha]at n;cases n
 have notst:∀b,b≠X.env.locals->b∉X.fs->b∉frs X.stack:=λb n1 n2 z=>by rcases VB.mp (I.mW b z)with y|y;{exact n1 y};exact n2 y
 have cells:∀y c v,X.env.cells.lookup y=some c->s.heap.IsCell c v->h'.IsCell c v:=λy c v e z=>by obtain⟨o,ho,hd⟩:=z;obtain⟨sl1,e1⟩:=sl c o (fre c (I.eU y c e)) (λz=>(hN c z).cell y c e rfl) ho;exact⟨_,e1,hd⟩
 refine⟨I.ok,I.os,I.bare,⟨λb o e n nf nx=>?_,λb o e n nf nx=>?_,λb o e n nx=>B.free b o e n nx,λb o e nx=>?_,B.tups,B.ju,B.j4⟩,?_,λy c e=>?_,I.free,I.eU,λp hp=>?_,?_,I.len⟩;{refine k b o (old b o e).1 (old b o e).2 (notst b (λz=>?_) nf) (B.keep b o e n nf nx);exact absurd (Vv (VC e) I.ok.above) (by rw[z];exact WB _)};{obtain⟨sl1,e1⟩:=B.slot b o e n nf nx;obtain⟨sl2,e2⟩:=sl b _ (old b o e).1 (old b o e).2 e1;exact⟨sl2,e2⟩};{obtain⟨o1,e1⟩:=B.there b o e nx;obtain⟨sl2,e2⟩:=sl b _ (old b o e).1 (old b o e).2 e1;exact⟨_,e2⟩};{obtain⟨m,⟨o,es,ep,ho,hd,hs,hf⟩,hl⟩:=I.loc;obtain⟨sl1,e1⟩:=sl X.env.locals o (fre _ I.free) (λz=>(hN _ z).loc rfl) ho;refine⟨m,⟨_,es,ep,e1,hd,hs,hf⟩,λi y v h1 h2 h3=>?_⟩;obtain⟨u,r,q⟩:=hl i y v h1 h2 h3;refine⟨u,r,?_⟩;rcases q with q|⟨kk,c,e,z⟩;{exact .inl q};exact .inr ⟨kk,c,e,cells y c _ e z⟩};{obtain⟨v,z⟩:=I.cell y c e;exact⟨v,cells y c v e z⟩};{obtain⟨e,n,ne,nf,d⟩:=I.pin p hp;exact⟨k p.1 p.2 (fre _ n) (λz=>(hN _ z).pin p hp rfl) (notst _ ne nf) e,n,ne,nf,d⟩};exact BJ I.hok ha (λb z=>(hN b z).free) I.rA (λb o b1 b2 b3 e=>k b o b1 b2 b3 e) x
end
abbrev HD:=St->Addr->Addr->Hp->Prop
noncomputable def gK (X:Cx)(pins:Zs)(Hd:HD):Cx:={ X with pn:=X.pn++pins,xe:=λe s'=>∃a C T dd U H,e=.ref a/\Inv X pins U H s'/\iT s'.heap a C T dd/\Iz X pins H T/\X.s₀.heap.get? a=none/\H a=some (.ext (eZ a C dd))/\Hd U C a H }
section
variable{X:Cx}{pins:Zs}{U:St}{H:Hp}{s:Shared}{Hd:HD}
def Inv.RC(I:Inv X pins U H s):Inv (gK X pins Hd) [] U H s:=
 ⟨⟨I.ok.mod,I.ok.kind,I.ok.glob,I.ok.blt,I.ok.above,I.ok.inj,I.ok.has,I.ok.yx,I.ok.hd,I.ok.frames,I.ok.stk,I.ok.JB,I.ok.bs,I.ok.uv,I.ok.sJ,I.ok.vQ,I.ok.jm,I.ok.wL⟩,I.os,I.bare,I.base,I.loc,I.cell,I.free,I.eU,
  λp hp=>I.pin p (by simpa[gK]using hp),I.hok,I.len⟩
def Inv.ud(I:Inv (gK X pins Hd) ps2 U H s):Inv X pins U H s:=
 ⟨⟨I.ok.mod,I.ok.kind,I.ok.glob,I.ok.blt,I.ok.above,I.ok.inj,I.ok.has,I.ok.yx,I.ok.hd,I.ok.frames,I.ok.stk,I.ok.JB,I.ok.bs,I.ok.uv,I.ok.sJ,I.ok.vQ,I.ok.jm,I.ok.wL⟩,I.os,I.bare,I.base,I.loc,I.cell,I.free,I.eU,
  λp hp=>I.pin p (VS.mpr (.inl hp)),I.hok,I.len⟩
def RW(hx:X.ex=[])(I:Inv (gK X pins Hd) ps2 U H s)(h:dS X.prog X.w X.stack H s (λc o H'=>∃C a,c=.ref C/\o=some a/\Hd U C a H') e s'):(gK X pins Hd).xe e s':=by obtain⟨a,C,T,dd,H',rfl,os,bare,un,hok,O,nT,hT,na,ha,C',a',ec,eo,q⟩:=h;cases ec;cases eo;have J:=I.ud;have J':=J.Cq (s':=s') (ch:=[]) os un hok bare λb z=>absurd z (by simp);have mT:=J.Ju hx nT;exact⟨a,C,T,dd,U,H',rfl,J',O,⟨mT.new,hT,mT.loc,mT.cell,mT.pin⟩,(J.Ju hx na).new,ha,q⟩
end
def BE (X:Cx)(a:Addr):Cx:={ X with A:=X.A.mark (some (.ref a)),calm:=false,xe:=λ_ _=>False }
section
variable{X:Cx}{pins:Zs}{U:St}{H:Hp}{s:Shared}{a:Addr}
def Inv.Nu(I:Inv X pins U H s):Inv (BE X a) pins U H s:=
 ⟨⟨I.ok.mod,I.ok.kind,I.ok.glob,I.ok.blt,I.ok.above,I.ok.inj,I.ok.has,I.ok.yx,λz=>(by cases z),I.ok.frames,I.ok.stk,I.ok.JB,I.ok.bs,I.ok.uv,I.ok.sJ,I.ok.vQ,I.ok.jm,I.ok.wL⟩,I.os,I.bare,I.base,I.loc,I.cell,I.free,I.eU,I.pin,I.hok,I.len⟩
def Inv.DO(ok:X.Ok)(I:Inv (BE X a) pins U H s):Inv X pins U H s:=
 ⟨ok,I.os,I.bare,I.base,I.loc,I.cell,I.free,I.eU,I.pin,I.hok,I.len⟩
def qY{i:Nat}(I:Inv X pins U H s)(hN:X.N.Nodup)(hi:X.N[i]?=some n)(hk:X.env.scope.names.lookup n=some .local)
  (h:∀s',Inv X pins (U.set i none) H s'->Q () s'):wpAny M A (do bindName X.env n .none;unbindBehindTheSuite X.env n pos) Q E s:=by
 have hcls:(X.env.scope.kind == .class||(X.env.scope.kind == .module&&X.env.locals != X.env.globals))=false:=by rw[I.ok.kind];rfl
 have hl:X.env.kindOf n=some .local:=hk;refine V0 (wpAny_bindName (kU (v:=.aU) I hN hi (.inl hk) rfl (λs1 I1=>?_) (.inr hk)))
 obtain⟨m,hn,hlk⟩:=id I1.loc;have hiσ:i<U.length:=by rw[I.len];exact(X5.mp hi).1
 unfold unbindBehindTheSuite;refine wpAny_onRaise ?_;obtain⟨u,ru,lu⟩:=hlk i n .aU hi (by rw[Wr hiσ]) (.inl hk)
 have hv:m n=some u:=by rcases lu with⟨_,e⟩|⟨z|z,_⟩;{exact e};{rw[hl]at z;cases z};rw[hl]at z;cases z
 refine wpAny_unbindName_local hl hn hv hcls λh' u' hn' hs=>h _ ?_
 obtain⟨oL,_,_,hoL,_⟩:=id hn;refine⟨I1.ok,I1.os,I1.bare,⟨λb o e n hb hx=>?_,λb o e n hb hx=>?_,I1.base.free,λb o e hx=>?_,I1.base.tups,I1.base.ju,I1.base.j4⟩,⟨_,hn',λj y v' e1 e2 e3=>?_⟩,λy c e=>?_,I1.free,I1.eU,λp hp=>?_,?_,by simpa using I.len⟩
 .exact(hs.2 b (VQ (Vv (VC e) I1.ok.above))).trans (I1.base.keep b o e n hb hx)
 .obtain⟨sl,e1⟩:=I1.base.slot b o e n hb hx;exact⟨sl,(hs.2 b (VQ (Vv (VC e) I1.ok.above))).trans e1⟩
 .obtain⟨o',e1⟩:=I1.base.there b o e hx;exact⟨o',(hs.2 b (VQ (Vv (VC e) I1.ok.above))).trans e1⟩
 .by_cases hj:j=i
  .subst hj;rw[Wr hiσ]at e2;cases e2
  .rw[Wg (Ne.symm hj)]at e2;obtain⟨u',r',q⟩:=hlk j y v' e1 (by rw[Wg (Ne.symm hj)];exact e2) e3
   refine⟨u',r',?_⟩;rcases q with⟨k,e⟩|⟨k,c,e,z⟩
   .refine .inl ⟨k,?_⟩;have:y≠n:=λe=>hj (sY hN e1 (e▸hi))
    simp[this,e]
   .exact .inr ⟨k,c,e,z.sameBut hs (I1.uX y c e)⟩
 .obtain⟨w',z⟩:=I1.cell y c e;exact⟨w',z.sameBut hs (I1.uX y c e)⟩
 .obtain⟨e,n,ne,nf,d⟩:=I1.pin p hp;exact⟨(hs.2 p.1 ne).trans e,n,ne,nf,d⟩
 .intro b ob e;refine(I1.hok b ob e).stay (λc w' hc q=>(hs.2 c ?_).trans q) (λ_ q=>q) λ_ _ q=>q
  rintro rfl;rcases hc with hc|hc
  .rw[<-hc,I1.free]at e;cases e
  .rw[I1.free]at hc;cases hc
end
def gone (i:Nat)(D:Ends):Ends:=⟨λU H=>D.nx (U.set i none) H,D.rt,λU H=>D.bk (U.set i none) H,λU H=>D.ct (U.set i none) H⟩
def Tv (K:Frag)(B:Addr) (i:Nat)(tb:Zs->HD->TS)(th:Addr->TS):TS:=λD U H=>∀pins,tb pins (λσ1 C a H1=>exmOne K (.ref C) (.ref B)=some true/\th a (gone i D) (σ1.set i (some (.ref a))) H1) D U H
section
variable{X:Cx}{x n:Str}{np hpos pos:Pos}{B:Addr}{i:Nat}{body suite:A06}{b₀:Stmt}{tb:Zs->HD->TS}{th:Addr->TS}
def Of(hx:X.ex=[])(hst:X.stack=X.env::X.outer)(hfr:X.env.frame=some X.env.locals)(hg:Gl X x)(hm:X.mg x=some (.ref B))(hN:X.N.Nodup)(hi:X.N[i]?=some n)(hk:X.env.scope.names.lookup n=some .local)(hb:∀pins Hd,l8 (gK X pins Hd) body (tb pins Hd))(hh:∀a,l8 (BE X a) (b₀::suite) (th a))(hdb:(x==("__debug__":Str))=false:=by decide) : PS X (.Try body [.ExceptHandler (some (.Name x np)) (some n) (b₀::suite) hpos] [] [] pos) (Tv X.K B i tb th):=by
 intro pins s U H D I h;refine wpAny_Try_except (WC (hb pins _ [] s U H D I.RC (h pins)) (λf s1 h1=>?_) λe s1 h1=>?_)
 .cases f with
  |next=>obtain⟨σ',H',J,q⟩:=h1;exact Y8 ⟨σ',H',J.ud,q⟩
  |brk=>obtain⟨σ',H',J,q⟩:=h1;exact⟨σ',H',J.ud,q⟩
  |cont=>obtain⟨σ',H',J,q⟩:=h1;exact⟨σ',H',J.ud,q⟩
  |ret u=>obtain⟨v,σ',H',J,r,q⟩:=h1;exact⟨v,σ',H',J.ud,r,q⟩
 obtain⟨a,C,T,dd,σ1,H1,rfl,J,O,mT,na,ha,hxm,q⟩:=h1;refine LG (base:=X.base) (L:=X.env.locals) (by rw[<-hst];exact J.ok.frames) (by rw[<-hst];exact J.stack) hfr O λh' T2 n2 k sl O2=>?_;have m2:=J.Ju hx n2;have J2:Inv X pins σ1 H1 { s1 with heap:=h' }:=J.way (Nw:=λb=>b=T\/b=T2) ha na (λb z=>by rcases z with rfl|rfl;exact mT;exact m2)
  (λb o b1 b2 b3 e=>k b o b1 (λz=>b2 (.inl z)) (λz=>b2 (.inr z)) (by rw[<-hst];exact b3) e) (λb o b1 b2 e=>sl b o b1 (λz=>b2 (.inl z)) (λz=>b2 (.inr z)) e) O2.EM
 refine wpAny_handleBy_cons (codeAny_handlers_test ?_) (by intro z;cases z);refine nI (X:=BE X a) J2.Nu hg hm ?_ hdb;obtain⟨t0,v2,v3,v4,v5,sl0,oT,ts,he,hTe,hT,hdT,h3⟩:=id O2;have L:Looks (model X.prog X.w) h' (excMatches (.ref a) (.ref B)) true:=exm_one J2.dG ((Looks.ld he).andThen .now) hxm;refine L.here ?_;show codeAny _ _ _ _ _;refine codeAny_handlers_suite_as ?_;refine wpAny_setFlight_none he rfl (tb:=T2) rfl hT hdT (Xr.mp h3).1 ?_;have hup:∀b,b≠T2->(h'.update T2 (Obj.mapFields (·.setIfInBounds 3 Value.none))).get? b=h'.get? b:=λb z=>Wc _ _ (Ne.symm z);have J3:Inv X pins σ1 H1 { s1 with heap:=h'.update T2 (Obj.mapFields (·.setIfInBounds 3 Value.none)) }:=J2.way (s:={ s1 with heap:=h' }) (Nw:=λb=>b=T2) ha na (λb z=>by rw[z];exact m2)
  (λb o b1 b2 b3 e=>(hup b b2).trans e) (λb o b1 b2 e=>⟨o.slots,(hup b b2).trans e⟩) ⟨t0,_,v2,v3,v4,v5,sl0,(hup a (Ne.symm hTe)).trans he⟩
 refine kU (X:=BE X a) (v:=.ref a) J3.Nu hN hi (.inl hk) rfl (λs4 J4=>?_) (.inr hk);refine WC (hh a pins s4 _ H1 (gone i D) J4 q) (λf s5 h5=>?_) λ_ _ z=>z.elim;cases f with
 |next=>obtain⟨σ',H',J5,q5⟩:=h5;exact qY (J5.DO I.ok) hN hi hk λs6 J6=>⟨_,H',J6,q5⟩
 |brk=>obtain⟨σ',H',J5,q5⟩:=h5;exact qY (J5.DO I.ok) hN hi hk λs6 J6=>⟨_,H',J6,q5⟩
 |cont=>obtain⟨σ',H',J5,q5⟩:=h5;exact qY (J5.DO I.ok) hN hi hk λs6 J6=>⟨_,H',J6,q5⟩
 |ret u=>obtain⟨v,σ',H',J5,r5,q5⟩:=h5;exact qY (J5.DO I.ok) hN hi hk λs6 J6=>⟨v,_,H',J6,r5,q5⟩
end
section
variable{X0:Cx}{pins0:Zs}{Hd:HD}{k:Nat}{f:Addr}{fd:FuncData}{ps:A09}{sp:Sp}{dvs:List V}{ds:A02}{x:Str}{p pos:Pos}{e:Expr}{es:A05}{t:TA}
def Ef (sp:Sp)(dvs:List V)(Hd:HD)(t:TA):TE:=λU H Q=>t U H λvs H1=>sp (vs++dvs) H1 Q (λc o H'=>∃C a,c=.ref C/\o=some a/\Hd U C a H')
def Ik(hex:X0.ex=[])(F:gu X0.prog X0.w X0.K X0.mg X0.base (dS X0.prog X0.w) k f fd ps sp)(hr:cW k X0.A)(hg:Gl X0 x)(hm:X0.mg x=some (.ref f))(hk:PySem.W.keepIn X0.K (.ref f)=true)(hb:Binds X0.K fd ps ds)(hd:Vals dvs ds)(ha:PA (gK X0 pins0 Hd) (e::es) t)(hdb:(x==("__debug__":Str))=false:=by decide)(he:starEach (e::es) X0.env=(false,eval e X0.env)::starEach es X0.env:=by rfl)(hpl:(backTo pos (starEach es X0.env)).any (·.1)=false:=by rfl) : PE (gK X0 pins0 Hd) (.Call (.Name x p) (e::es) [] pos) (Ef sp dvs Hd t):=by
 intro pins s U H Q I h;refine Yi (nI I hg hm ?_ hdb);refine PySem.W.callWith_K (h₀:=X0.base) I.ok.mod.ET hk (aM (ha pos pins s U H _ I h) λus s1 ⟨vs,H1,I1,r,q⟩=>⟨I1.dG,?_⟩) he hpl;have r2:Vals (vs++dvs) (us++ds):=r.append hd;have hl:(us++ds).length=ps.length:=by rw[<-r2.length];exact F.len _ _ _ _ q
 refine wpAny_call (Y9 (F.run X0.A X0.stack s1 H1 ⟨us,[]⟩ (us++ds) (vs++dvs) Q _ hr I1.Qq (hb s1 us I1.dG hl) r2 q) λr s' hq=>?_);cases r with
 |error e=>exact RW hex I1 hq
 |ok fl=>
  cases fl with
  |ret u=>exact I1.after hq
  |next=>exact False.elim hq
  |brk=>exact False.elim hq
  |cont=>exact False.elim hq
end
section
variable{P:Program}{w:World}{K:Zx}{mg:Zr}{base:Heap}
def uo.Gj{x qual:Str}{st:Stmt}{f:Addr}{fd:FuncData}{N ps:A09}{k:Nat}{sp:Sp}(F:uo K x qual st f fd)(S:aH N ps (au st))(len:∀vs H Q E,sp vs H Q E->vs.length=ps.length)(hbody:∀(cdv:Value)(A:Around)(outer:List Env)(s:Shared)(H:Hp)(vs:List V)(Q:VK)(E:XK),cW k (A.deeper (envOfC qual (au st) s.heap.objs.size f cdv))->sp vs H Q E-> ∃t,l8 (fF (dS P w) P w K mg base N qual (au st) f cdv A outer s H E) (gA st) t/\t { nx:=λ_ H'=>Q .aU H',rt:=Q } (start N vs) H):gu P w K mg base (dS P w) (k+1) f fd ps sp:=by obtain⟨oc,od,kV,doc,pm,an,cdv,ct,osl,rfl,lk,hcd⟩:=F.ex;refine Q9 lk hcd S len λA outer s H vs Q E hr hsp=>?_;obtain⟨t,h,q⟩:=hbody cdv A outer s H vs Q E hr hsp;exact⟨t,h,q⟩
noncomputable def bG (P:Program)(w:World)(K:Zx)(mg:Zr)(base:Heap) (k:Nat) (x:Str)(ps:A09)(sp:Sp):Prop:=
 ∃f fd,mg x=some (.ref f)/\PySem.W.keepIn K (.ref f)=true/\Binds K fd ps []/\gu P w K mg base (dS P w) k f fd ps sp
end
def Ln{k:Nat}(hex:X0.ex=[])(h:bG X0.prog X0.w X0.K X0.mg X0.base k x ps sp)(hr:cW k X0.A)(hg:Gl X0 x)(ha:PA (gK X0 pins0 Hd) (e::es) t)(hdb:(x==("__debug__":Str))=false:=by decide)(he:starEach (e::es) X0.env=(false,eval e X0.env)::starEach es X0.env:=by rfl)(hpl:(backTo pos (starEach es X0.env)).any (·.1)=false:=by rfl) : PE (gK X0 pins0 Hd) (.Call (.Name x p) (e::es) [] pos) (Ef sp [] Hd t):=by obtain⟨f,fd,h1,h2,h3,h4⟩:=h;exact Ik hex h4 hr hg h1 h2 h3 .nil ha hdb he hpl
end L2
namespace Dv
open PySem L2 PySem.W
def WE (X:Cx)(e:Expr):TE:=λU H Q=>∀(pins:Zs)(s:Shared),Inv X pins U H s->wpAny (model X.prog X.w) X.A (eval e X.env) (EP X pins U Q) X.xe s
def aV:PE X e (WE X e):=λpins s _ _ _ I h=>h pins s I
def WE.of(h:PE X e t)(q:t U H Q):WE X e U H Q:=λpins s I=>h pins s U H Q I q
def WT (X:Cx)(e:Expr):TT:=λU H Q=>∀(pins:Zs)(s:Shared),Inv X pins U H s->wpAny (model X.prog X.w) X.A (isTrue e X.env (eval e X.env)) (TP X pins U Q) X.xe s
def jI:PT X e (WT X e):=λpins s _ _ _ I h=>h pins s I
def WT.of(h:PT X e t)(q:t U H Q):WT X e U H Q:=λpins s I=>h pins s U H Q I q
def pV (X:Cx):A05->TA
 |[],_,H,Q=>Q [] H
 |e::es,U,H,Q=>WE X e U H λv H1=>pV X es U H1 λvs H2=>Q (v::vs) H2
def sel (Y:A07)(U:St):St:=Y.map λi=>(U[i]?).join
def bR{j i:Nat}(h:Y[j]?=some i)(e:U[i]?=some (some v)):(sel Y U)[j]?=some (some v):=by unfold sel;rw[VE,h];show some (U[i]?).join=_;rw[e];rfl
noncomputable def XL (X:Cx)(Ex:XK)(x:XC)(g:Gh):Prop:=∀(c:Str)(d:PyData)(C a:Addr)(H':Hp),X.mg c=some (.ref C)->x c d->(∀p o,p∉g.M->g.H0 p=some o->H' p=some o)->H' a=some (.ext (eZ a C none))->g.H0 a=none->Ex (.ref C) (some a) H'
def XL.no:XL X Ex xF g:=λ_ _ _ _ _ _ z=>z.elim
noncomputable def SE (X:Cx)(Ex:XK)(Y:A07)(e:Expr)(d:DE):Prop:=
 ∀(g:Gh)(x:XC)(E:En)(U:St)(H Hm:Hp)(F:Nat->A03)(P:En->Kd->PyData->Prop)(Q:VK),XL X Ex x g->Rl X.K g E U H Hm F->d x E P->
  (∀E' k v u H' Hm' F' fp,P E' k v->Rl X.K g E' U H' Hm' F'->ah Hm Hm'->Tm X.K g F' H' Hm' k u v fp->Q u H')->WE X e (sel Y U) H Q
noncomputable def ST (X:Cx)(Ex:XK)(Y:A07)(e:Expr)(d:DT):Prop:=
 ∀(g:Gh)(x:XC)(E:En)(U:St)(H Hm:Hp)(F:Nat->A03)(P:En->Bool->Prop)(Q:Bool->Hp->Prop),XL X Ex x g->Rl X.K g E U H Hm F->d x E P->
  (∀E' b H' Hm' F',P E' b->Rl X.K g E' U H' Hm' F'->ah Hm Hm'->Q b H')->WT X e (sel Y U) H Q
inductive aJ(X:Cx)(Ex:XK)(Y:A07):A05->List Arg->Prop
 |nil:aJ X Ex Y [] []
 |pk {e:Expr}{es:A05}{as:List Arg}{i j:Nat}:PE X e (lQ j)->Y[j]?=some i->aJ X Ex Y es as->aJ X Ex Y (e::es) (.pk i::as)
 |ev {e:Expr}{es:A05}{as:List Arg}{d:DE}:SE X Ex Y e d->aJ X Ex Y es as->aJ X Ex Y (e::es) (.ev d::as)
inductive Got(K:Frag)(U:St)(Hm:Hp):List Arg->List (Option PyData)->List V->Prop
 |nil:Got K U Hm [] [] []
 |pk {i:Nat}{v:V}{as:List Arg}{os:List (Option PyData)}{vs:List V}:U[i]?=some (some v)->Got K U Hm as os vs->Got K U Hm (.pk i::as) (none::os) (v::vs)
 |ev {e:DE}{v:V}{d:PyData}{as:List Arg}{os:List (Option PyData)}{vs:List V}:Rp K Hm v d->Got K U Hm as os vs->Got K U Hm (.ev e::as) (some d::os) (v::vs)
def l6{F:Nat->A03}(R:Rl K g E U H Hm F){i:Nat}(h:here E i=true):∃v,U[i]?=some (some v):=by unfold here at h;split at h;{rename_i kd e;obtain⟨v,h1,_⟩:=R.slot i kd.1 kd.2 e;exact⟨v,h1⟩};cases h
section
variable{X:Cx}{Ex:XK}{Y:A07}{g:Gh}{x:XC}{U:St}
def iS(hx:XL X Ex x g)(S:aJ X Ex Y es as):∀{E:En}{H Hm:Hp}{F:Nat->A03}{P:En->List (Option PyData)->Prop}{Q:List V->Hp->Prop},Rl X.K g E U H Hm F->gH as x E P->(∀E' os vs H' Hm' F',P E' os->Rl X.K g E' U H' Hm' F'->ah Hm Hm'->Got X.K U Hm' as os vs->Q vs H')->pV X es (sel Y U) H Q:=by
 induction S with
 |nil=>exact λR h q=>q _ _ _ _ _ _ h R (ah.refl _) .nil
 |@pk e es as i j hp hj _ ih=>intro E H Hm F P Q R h q;replace h:bK (here E i) _:=h;rw[cS]at h;obtain⟨h1,h2⟩:=h;obtain⟨v,hv⟩:=l6 R h1;refine WE.of hp ⟨v,bR hj hv,ih R h2 λE' os vs H' Hm' F' p R' s G=>q _ _ _ _ _ _ p R' s (.pk hv G)⟩
 |@ev e es as d hd _ ih=>intro E H Hm F P Q R h q;refine hd g x E U H Hm F _ _ hx R h λE1 k v u H1 Hm1 F1 fp p R1 s1 T=>?_;replace p:bK k.fz _:=p;rw[cS]at p;obtain⟨hk,p⟩:=p;obtain⟨Hm2,s2,R2,r⟩:=T.dX R1 hk;exact ih R2 p λE' os vs H' Hm' F' p' R' s' G=>q _ _ _ _ _ _ p' R' (s1.trans (s2.trans s')) (.ev (r.mono s') G)
def kM{F:Nat->A03}(R:Rl K g E U H Hm F)(s:ah Hm Hm1):∀{as:List Arg}{os:List (Option PyData)}{vs:List V}{ds:A00},Got K U Hm as os vs->fill as E os=some ds->(∀i∈cL as,∀a∈F i,Hm1 a=H a)->av K Hm1 vs ds:=by
 intro as os vs ds G;induction G generalizing ds with
 |nil=>intro h _;cases h;exact .nil
 |@pk i v as os vs hv G ih=>
  intro h n;rw[fill]at h;split at h
  .rename_i k d e;by_cases hk:k.rd=true
   .rw[if_pos hk]at h;cases hf:fill as E os with
    |none=>rw[hf]at h;cases h
    |some es=>rw[hf]at h;cases h;obtain⟨v',h1,h2⟩:=R.slot i k d e;rw[hv]at h1;cases h1;exact .cons (h2.rp hk s (n i V3)) (ih hf λj hj=>n j (VA _ hj))
   rw[if_neg hk]at h;cases h
  cases h
 |@ev d v u as os vs r G ih=>
  intro h n;rw[fill]at h;cases hf:fill as E os with
  |none=>rw[hf]at h;cases h
  |some es=>rw[hf]at h;cases h;exact .cons (r.mono s) (ih hf n)
theorem oA:∀{is:A07}{E E2:En},d8 is E=some E2->E2.length=E.length/\∀j,(j∉is->E2[j]?=E[j]?)/\(j∈is->∃k d,E[j]?=some (some (k,d))/\k.fz=true/\E2[j]?=some (some (.sh,d)))
 |[],E,E2,h=>by cases h;exact⟨rfl,λj=>⟨λ_=>rfl,λz=>by cases z⟩⟩
 |i::r,E,E2,h=>by
  have h:(dI E i).bind (d8 r)=some E2:=h;cases hf:dI E i with
  |none=>rw[hf]at h;cases h
  |some E1=>
   rw[hf]at h;obtain⟨l1,g1⟩:=oA (is:=r) (E:=E1) (E2:=E2) h;unfold dI at hf;split at hf
   .rename_i k d e;by_cases hk:k.fz=true
    .rw[if_pos hk]at hf;cases hf;have li:i<E.length:=by rcases WM i E.length with h|h;{exact h};rw[VY h]at e;cases e
     rw[VT]at l1;refine⟨l1,λj=>⟨λn=>?_,λm=>?_⟩⟩;{have n1:j≠i:=λz=>n (z▸V3);rw[(g1 j).1 λz=>n (VA _ z),ai (Ne.symm n1)]};by_cases c:j=i;{subst c;by_cases m':j∈r;{obtain⟨k2,d2,e2,_,e3⟩:=(g1 j).2 m';rw[aC li]at e2;cases e2;exact⟨k,d,e,hk,e3⟩};exact⟨k,d,e,hk,by rw[(g1 j).1 m',aC li]⟩};have m':j∈r:=(VB.mp m).resolve_left c;obtain⟨k2,d2,e2,h2,e3⟩:=(g1 j).2 m';rw[ai (Ne.symm c)]at e2;exact⟨k2,d2,e2,h2,e3⟩
    rw[if_neg hk]at hf;cases hf
   cases hf
def yJ{F:Nat->A03}(R:Rl K g E U H Hm F)(hE:(if flat k v=true then some E else d8 is E)=some E2)(sH:ah H H')(s1:ah (lend Hm H (is.flatMap F)) Hm2)(s2:ah Hm2 H')(old:∀a,H a≠none->OE (Hm2 a) (lend Hm H (is.flatMap F) a))(o:Own K H' Hm2 k u v fp)(fr:∀a∈fp,H a=none/\Hm2 a=none) : ∃Hm' F',Rl K g E2 U H' Hm' F'/\ah Hm Hm'/\Tm K g F' H' Hm' k u v fp:=by
 have mem:∀{a i},a∈F i->i∈is->a∈is.flatMap F:=λha hi=>W2.mpr ⟨_,hi,ha⟩;have off:∀a∈is.flatMap F,Hm a=none:=λa ha=>by obtain⟨i,_,h⟩:=W2.mp ha;exact R.off i a h
 have up:ah Hm (lend Hm H (is.flatMap F)):=fP off;have aX:∀{i a},a∈F i->H a≠none:=λha z=>by obtain⟨u,hu,_⟩:=R.aX _ _ ha;rw[z]at hu;cases hu
 have nfp:∀a∈fp,∀i,a∉F i:=λa ha i=>R.fresh (fr a ha).1;by_cases hf:flat k v=true
 .rw[if_pos hf]at hE;cases hE;refine⟨back Hm2 (is.flatMap F),F,R.grow sH (λb o e=>?_) (tQ s2) (λi a ha=>?_) (λa ha=>?_),λb o e=>?_,⟨o.flat (λa xs h=>?_) hf,λa ha=>?_,nfp,λa ha=>R.d7 (fr a ha).1⟩⟩;{rw[b9 λz=>by rw[off b z]at e;cases e];exact s1 _ _ (up _ _ e)};{by_cases c:a∈is.flatMap F;{exact iO c};rw[b9 c];obtain⟨w,hw,nt⟩:=R.aX i a ha;exact(old a (aX ha)).off (by rw[bV c];exact R.off i a ha) s2 (sH _ _ hw) nt};{by_cases c:a∈is.flatMap F;{rw[iO c,off a c];exact .inl rfl};have h:=old a (R.l5 ha);rw[bV c]at h;rw[b9 c];exact h};{rw[b9 λz=>by rw[off b z]at e;cases e];exact s1 _ _ (up _ _ e)}
  .have c:a∉is.flatMap F:=λz=>by obtain⟨i,_,hi⟩:=W2.mp z;obtain⟨w,hw,nt⟩:=R.aX i a hi;have e2:Hm2 a=some w:=s1 _ _ (by rw[cV z];exact hw);rw[e2]at h;cases h;exact nt xs rfl
   rw[b9 c];exact h
  by_cases c:a∈is.flatMap F;{exact iO c};rw[b9 c];exact(fr a ha).2
 rw[if_neg hf]at hE;obtain⟨l2,g2⟩:=oA hE;have R':Rl K g E2 U H' Hm2 (λj=>if j∈is then []else F j):={
  len:=l2.trans R.len
  sub:=s2
  slot:=λj k' d' e'=>by
   by_cases c:j∈is
   .obtain⟨k0,d0,e0,hk0,e1⟩:=(g2 j).2 c;rw[e1]at e';cases e';obtain⟨v',h1,h2⟩:=R.slot j k0 _ e0;refine⟨v',h1,?_⟩;rw[if_pos c];exact .sh ((h2.rp (by cases k0<;>first|rfl|cases hk0) up λa ha=>cV (mem ha c)).mono s1)
   .rw[(g2 j).1 c]at e';obtain⟨v',h1,h2⟩:=R.slot j k' d' e';refine⟨v',h1,?_⟩;rw[if_neg c];refine h2.step (up.trans s1) λa ha=>?_
    obtain⟨w,hw,_⟩:=h2.live a ha;rw[hw];exact sH _ _ hw
  off:=λj a ha=>by
   by_cases c:j∈is
   .rw[if_pos c]at ha;cases ha
   .rw[if_neg c]at ha;obtain⟨w,hw,nt⟩:=R.aX j a ha;refine(old a (aX ha)).off ?_ s2 (sH _ _ hw) nt;rw[bV]
    .exact R.off j a ha
    .intro z;obtain⟨i,hi,h⟩:=W2.mp z;exact c (R.aD i j a h ha▸hi)
  aX:=λj a ha=>by
   by_cases c:j∈is
   .rw[if_pos c]at ha;cases ha
   .rw[if_neg c]at ha;obtain⟨w,hw,nt⟩:=R.aX j a ha;exact⟨w,sH _ _ hw,nt⟩
  aD:=λj l a h1 h2=>by
   by_cases c:j∈is
   .rw[if_pos c]at h1;cases h1
   .rw[if_neg c]at h1
    by_cases c':l∈is
    .rw[if_pos c']at h2;cases h2
    .rw[if_neg c']at h2;exact R.aD j l a h1 h2
  fr:=λp o hp ho=>sH _ _ (R.fr p o hp ho)
  new:=λj a ha=>by
   by_cases c:j∈is
   .rw[if_pos c]at ha;cases ha
   .rw[if_neg c]at ha;exact R.new j a ha
  pin:=λq hq=>by
   obtain⟨h1,ds',h2⟩:=R.pin q hq;have c:q.1∉is:=λz=>by
    obtain⟨k0,d0,e0,hk0,_⟩:=(g2 q.1).2 z;rw[h2]at e0;cases e0;cases hk0
   exact⟨h1,ds',by rw[(g2 q.1).1 c];exact h2⟩
  old:=λa ha=>by
   refine(old a (R.l5 ha)).trans ?_;rw[bV]
   .exact R.old a ha
   .intro z;obtain⟨i,hi,h⟩:=W2.mp z;obtain⟨k0,d0,e0,hk0,_⟩:=(g2 i).2 hi;exact ha (R.notM e0 (by cases k0<;>first|rfl|(rename_i p;cases p<;>first|rfl|cases hk0)|cases hk0) h) }
 refine⟨Hm2,_,R',up.trans s1,⟨o,λa ha=>(fr a ha).2,λa ha i=>?_,λa ha=>R.d7 (fr a ha).1⟩⟩;by_cases c:i∈is;{rw[if_pos c];simp};rw[if_neg c];exact nfp a ha i
noncomputable def cT (K:Frag)(f:DR)(r:List V->Hp->VK->Prop):Prop:=
 ∀(H Hm:Hp)(vs:List V)(ds:A00)(P:Kd->PyData->Prop)(Q:VK),ah Hm H->av K Hm vs ds->f ds P->
  (∀k v u H' Hm' fp,P k v->ah H H'->ah Hm Hm'->ah Hm' H'->(∀a,H a≠none->OE (Hm' a) (Hm a))->Own K H' Hm' k u v fp->(∀a∈fp,H a=none/\Hm' a=none)->Q u H')->r vs H Q
def eV(S:aJ X Ex Y es as)(hr:∀U H Q,pV X es U H (λvs H1=>r vs H1 Q)->WE X e U H Q)(D:cT X.K f r):SE X Ex Y e (aa f as):=by
 intro g x E U H Hm F P Q hx R h q;refine hr _ _ _ (iS hx S R h λE1 os vs H1 Hm1 F1 p R1 s1 G=>?_);replace p:zQ f as E1 os P:=p;unfold zQ at p;rw[<-bq,dR]at p;obtain⟨ds,hf,hg⟩:=p;have off:∀a∈(cL as).flatMap F1,Hm1 a=none:=λa ha=>by obtain⟨i,_,h⟩:=W2.mp ha;exact R1.off i a h
 have up:=fP (Hm:=Hm1) (H:=H1) off;refine D H1 (lend Hm1 H1 ((cL as).flatMap F1)) vs ds _ Q (gn R1.sub) (kM R1 up G hf λi hi a ha=>cV (W2.mpr ⟨i,hi,ha⟩)) hg λk v u H' Hm2 fp p sH sM sS old o fr=>?_;replace p:ay (tU as E1 k v) _:=p;rw[<-bq,Bo]at p;obtain⟨E2,ha,p⟩:=p;obtain⟨Hm',F',R',s',T⟩:=yJ R1 (is:=cL as) (t9 ha) sH sM sS old o fr;exact q _ _ _ _ _ _ _ _ p R' (s1.trans s') T
end
end Dv
namespace L2
open PySem PySem.Spec PyProof.Rows
section
variable{X:Cx}
def Cn (i j:Int):Prop:=0<j/\j<115792089237316195423570985008687907853269984665640564039457584007913129639936
def IK:bN X (binaryOp .FloorDiv) (rI Cn λi j=>.int (i/j)):=Cc λi j _ _ _ _ _ hc q=>by
 have h1:(0:Int)<j:=hc.1;have h2:j<115792089237316195423570985008687907853269984665640564039457584007913129639936:=hc.2;refine floordiv_int (by lia) (by rw[Int.fdiv_eq_ediv_of_nonneg i (by lia)];exact q) (.inl (PyProof.noPylong_of_log2 ?_));have:j.natAbs.log2<256:=(Nat.log2_lt (by lia)).mpr (by
  have:(2:Nat)^256=115792089237316195423570985008687907853269984665640564039457584007913129639936:=by decide
  lia)
 lia
end
end L2
namespace TS
open PySem PyProof.Rows
def vR:Bool->Keyed->Array Keyed->Nat->Nat->Nat->StateT SortSt Sem (Option Nat):=sortPriv%PySem.Builtin.gallop
def za:Array Keyed->Array Keyed->StateT SortSt Sem (Array Keyed):=sortPriv%PySem.Builtin.mergeLo
def z0:Array Keyed->Array Keyed->StateT SortSt Sem (Array Keyed):=sortPriv%PySem.Builtin.mergeHi
section
variable{prog:Program}{w:World}{A:Around}{E:Zp}{s:Shared}
def jE (prog:Program)(w:World)(A:Around)(s:Shared)(kd:SortKind)(P:Value->Prop):Prop:=∀(E:Zp) x y,P x->P y->∀Q:Bool->Shared->Prop,(∀b,Q b s)->wpAny (model prog w) A (keyLt' kd x y) Q E s
def Good (P:Value->Prop)(xs:Array Keyed):Prop:=∀(i:Nat)(p:Keyed),xs[i]?=some p->P p.1
variable{kd:SortKind}{P:Value->Prop}
def ask{st:SortSt}(L:jE prog w A s kd P)(hk:kindOf st=kd)(hx:P x.1)(hy:P y.1)(h:∀b,Q (some b) st):wpS (model prog w) A E s (lt' x y) Q st:=by rw[lt'_eq];refine V1 (wpS_get ?_);rw[hk];refine V1 (XE (YE (L _ _ _ hx hy _ λb=>⟨rfl,?_⟩)));exact V2 (h b)
def kK{st:SortSt}{i:Nat}(hi:i<xs.size)(h:∀p,xs[i]?=some p->Q p st):wpS (model prog w) A E s (elem' xs i) Q st:=by rw[elem'_eq,YH hi];exact V2 (h _ (YH hi))
def qt{st:SortSt}{left:Bool}{base n hint:Nat}(L:jE prog w A s kd P)(hk:kindOf st=kd)(hy:P key.1)(G:Good P xs)(hn:base+n<=xs.size)(hh:hint<n)(h:∀k,k<=n->Q (some k) st) : wpS (model prog w) A E s (vR left key xs base n hint) Q st:=by
 have sj:∀(i:Nat){R:Option Bool->SortSt->Prop},i<n->(∀b,R (some b) st)->wpS (model prog w) A E s (do
   let x <-elem' xs (base+i)
   if left then lt' x key else return (<-lt' key x).map (!·)) R st:=λi R hi hR=>by
  refine V1 (kK (by lia) λp hp=>?_)
  cases left with
  |true=>exact ask L hk (G _ _ hp) hy hR
  |false=>exact V1 (ask L hk hy (G _ _ hp) λb=>V2 (hR _))
 unfold vR;refine V1 (sj hint hh λb=>?_);dsimp only;split;all_goals
  refine V1 (W3 (W4 (I:=λ_ c st'=>st'=st/\c.1=none) (Q:=λc st'=>st'=st/\c.1=none) ?step (λ_ _ q=>q) ⟨rfl,rfl⟩) ?post)
  case step=>
   rintro x⟨o,a,c⟩st' _ _⟨rfl,rfl⟩;dsimp only;split
   .exact V2 ⟨rfl,rfl⟩
   .refine V1 (sj _ (by lia) λb'=>?_)
    dsimp only;split
    .exact V2 ⟨rfl,rfl⟩
    .exact V2 ⟨rfl,rfl⟩
  case post=>
   rintro⟨o,a,c⟩st'⟨rfl,rfl⟩;dsimp only;refine V1 (W3 (W4 (I:=λ_ c st''=>st''=st'/\c.1=none/\c.2.2<=n) (Q:=λc st''=>st''=st'/\c.1=none/\c.2.2<=n) ?step2 (λ_ _ q=>q) ⟨rfl,rfl,by dsimp only;lia⟩) ?post2)
   case step2=>
    rintro x⟨o,a,c⟩st'' _ _⟨rfl,rfl,le⟩;dsimp only at le⊢;split
    .exact V2 ⟨rfl,rfl,le⟩
    .refine V1 (sj _ (by lia) λb'=>?_)
     dsimp only;split
     .exact V2 ⟨rfl,rfl,le⟩
     .exact V2 ⟨rfl,rfl,by dsimp only;lia⟩
   case post2=>
    rintro⟨o,a,c⟩st''⟨rfl,rfl,le⟩;dsimp only;exact V2 (h _ le)
end
def Pm (xs ys out:Array Keyed) (ia ib:Nat):Prop:=out.toList.Perm (xs.toList.take ia++ys.toList.take ib)
section
variable{xs ys out:Array Keyed}{ia ib k:Nat}
def zB(zs:Array Keyed) (i k:Nat):zs.toList.take (i+k)=zs.toList.take i++(zs.extract i (i+k)).toList:=by rw[ZQ,List.take_add,ZR];congr 2;lia
def Pm.x(h:Pm xs ys out ia ib) (k:Nat):Pm xs ys (out++xs.extract ia (ia+k)) (ia+k) ib:=by unfold Pm at *;rw[WH,zB xs ia k,Vz];refine(h.append_right _).trans ?_;rw[Vz];exact XZ _ Xa
def Pm.y(h:Pm xs ys out ia ib) (k:Nat):Pm xs ys (out++ys.extract ib (ib+k)) ia (ib+k):=by unfold Pm at *;rw[WH,zB ys ib k,<-Vz];exact h.append_right _
def tS{zs out:Array Keyed}{i:Nat}(hp:zs[i]?=some p):out.push p=out++zs.extract i (i+1):=by
 obtain⟨hi,e⟩:=Xr.mp hp;have:zs.extract i (i+1)=#[p]:=by
  rw[<-e];apply Array.ext;{simp;lia};intro j h1 h2;have:j=0:=by simp at h2;exact h2
  subst this;simp
 rw[this];rfl
def Pm.px{p:Keyed}(h:Pm xs ys out ia ib)(hp:xs[ia]?=some p):Pm xs ys (out.push p) (ia+1) ib:=by rw[tS hp];exact h.x 1
def Pm.py{p:Keyed}(h:Pm xs ys out ia ib)(hp:ys[ib]?=some p):Pm xs ys (out.push p) ia (ib+1):=by rw[tS hp];exact h.y 1
def yV(zs:Array Keyed) (i:Nat):zs.toList=zs.toList.take i++(zs.extract i).toList:=by rw[ZQ,ZR];have:List.take (zs.size-i) (List.drop i zs.toList)=List.drop i zs.toList:=Xb (by simp);rw[this,Xs]
def Pm.done(h:Pm xs ys out ia ib):(out++xs.extract ia++ys.extract ib).toList.Perm (xs.toList++ys.toList):=by unfold Pm at h;rw[WH,WH,yV xs ia,yV ys ib];refine((h.append_right _).append_right _).trans ?_;simp only[Vz];refine XZ _ ?_;rw[<-Vz,<-Vz];exact YI _ Xa
def Pm.last(h:Pm xs ys out ia ib):(out++ys.extract ib++xs.extract ia).toList.Perm (xs.toList++ys.toList):=by refine List.Perm.trans ?_ h.done;rw[WH,WH,WH,WH,Vz,Vz];exact XZ _ Xa
end
def l7 (st st':SortSt):Prop:=kindOf st'=kindOf st/\arrOf st'=arrOf st/\pendingOf st'=pendingOf st/\failedOf st'=failedOf st
inductive QD(st:SortSt)(xs ys:Array Keyed) (x:Nat):Option (Array Keyed)×Array Keyed×Nat×Nat×Nat->SortSt->Prop
 |mk:∀(out:Array Keyed) (ia ib mg:Nat)(st':SortSt),l7 st st'->Pm xs ys out ia ib->ia+1<xs.size->ib<ys.size->x+1<=ia+ib->QD st xs ys x (none,out,ia,ib,mg) st'
inductive Dc(st:SortSt)(xs ys:Array Keyed):Option (Array Keyed)×Array Keyed×Nat×Nat×Nat->SortSt->Prop
 |mk:∀(r out:Array Keyed) (ia ib mg:Nat)(st':SortSt),l7 st st'->r.toList.Perm (xs.toList++ys.toList)->Dc st xs ys (some r,out,ia,ib,mg) st'
inductive KY(st:SortSt)(xs ys:Array Keyed) (n y:Nat):Option (Array Keyed)×Array Keyed×Nat×Nat×Nat×Nat->SortSt->Prop
 |mk:∀(out:Array Keyed) (ia ib ac bc:Nat),Pm xs ys out ia ib->ia+1<xs.size->ib<ys.size->y+n<=ia+ib->KY st xs ys n y (none,out,ia,ib,ac,bc) st
inductive tF(st:SortSt)(xs ys:Array Keyed) (n:Nat):Option (Array Keyed)×Array Keyed×Nat×Nat×Nat×Nat->SortSt->Prop
 |dn:∀(r out:Array Keyed) (ia ib ac bc:Nat),r.toList.Perm (xs.toList++ys.toList)->tF st xs ys n (some r,out,ia,ib,ac,bc) st
 |go:∀(out:Array Keyed) (ia ib ac bc:Nat),Pm xs ys out ia ib->ia+1<xs.size->ib<ys.size->n+1<=ia+ib->tF st xs ys n (none,out,ia,ib,ac,bc) st
inductive NR(st:SortSt)(xs ys:Array Keyed) (n:Nat):Option (Array Keyed)×Array Keyed×Nat×Nat×Nat×Nat×Nat->SortSt->Prop
 |mk:∀(out:Array Keyed) (ia ib mg ac bc:Nat)(st':SortSt),l7 st st'->Pm xs ys out ia ib->ia+1<xs.size->ib<ys.size->n<=ia+ib->NR st xs ys n (none,out,ia,ib,mg,ac,bc) st'
inductive oQ(st:SortSt)(xs ys:Array Keyed) (n:Nat):Option (Array Keyed)×Array Keyed×Nat×Nat×Nat×Nat×Nat->SortSt->Prop
 |dn:∀(r out:Array Keyed) (ia ib mg ac bc:Nat)(st':SortSt),l7 st st'->r.toList.Perm (xs.toList++ys.toList)->oQ st xs ys n (some r,out,ia,ib,mg,ac,bc) st'
 |go:∀(out:Array Keyed) (ia ib mg ac bc:Nat)(st':SortSt),l7 st st'->Pm xs ys out ia ib->ia+1<xs.size->ib<ys.size->n<=ia+ib->oQ st xs ys n (none,out,ia,ib,mg,ac,bc) st'
section
variable{prog:Program}{w:World}{A:Around}{E:Zp}{s:Shared}{kd:SortKind}{P:Value->Prop}
def eO{M:Model}{U α:Type}{a b:Nat}{m1 m2:StateT U Sem α}{Q:α->U->Prop}{st:U}(h1:a=b->wpS M A E s m1 Q st)(h2:a≠b->wpS M A E s m2 Q st):wpS M A E s (if(a==b)=true then m1 else m2) Q st:=by by_cases e:a=b;{rw[if_pos (beq_iff_eq.mpr e)];exact h1 e};rw[if_neg (λz=>e (beq_iff_eq.mp z))];exact h2 e
def cM{M:Model}{U α:Type}{c:Prop} [Decidable c]{m1 m2:StateT U Sem α}{Q:α->U->Prop}{st:U}(h1:c->wpS M A E s m1 Q st)(h2:¬c->wpS M A E s m2 Q st):wpS M A E s (if c then m1 else m2) Q st:=by by_cases e:c;{rw[if_pos e];exact h1 e};rw[if_neg e];exact h2 e
def cz{α:Type}{st:SortSt}{zs:Array Keyed}{i:Nat}{f:Keyed->StateT SortSt Sem α}{Q:α->SortSt->Prop}(hi:i<zs.size)(h:∀p,zs[i]?=some p->wpS (model prog w) A E s (f p) Q st):wpS (model prog w) A E s (elem' zs i>>=f) Q st:=V1 (kK hi h)
def zI{α:Type}{st:SortSt}{x y:Keyed}{f:Option Bool->StateT SortSt Sem α}{Q:α->SortSt->Prop}(L:jE prog w A s kd P)(hk:kindOf st=kd)(hx:P x.1)(hy:P y.1)(h:∀b,wpS (model prog w) A E s (f (some b)) Q st):wpS (model prog w) A E s (lt' x y>>=f) Q st:=V1 (ask L hk hx hy h)
def oH{α:Type}{st:SortSt}{left:Bool}{key:Keyed}{xs:Array Keyed}{base n hint:Nat}{f:Option Nat->StateT SortSt Sem α}{Q:α->SortSt->Prop}(L:jE prog w A s kd P)(hk:kindOf st=kd)(hy:P key.1)(G:Good P xs)(hn:base+n<=xs.size)(hh:hint<n)(h:∀k,k<=n->wpS (model prog w) A E s (f (some k)) Q st):wpS (model prog w) A E s (vR left key xs base n hint>>=f) Q st:=V1 (qt L hk hy G hn hh h)
def RO{st:SortSt}{xs ys:Array Keyed}{Q:Array Keyed->SortSt->Prop}(L:jE prog w A s kd P)(hk:kindOf st=kd)(G1:Good P xs)(G2:Good P ys)(h1:1<=xs.size)(h2:1<=ys.size)(h:∀zs st',l7 st st'->zs.toList.Perm (xs.toList++ys.toList)->Q zs st') : wpS (model prog w) A E s (za xs ys) Q st:=by
 unfold za;refine V1 (XE (Wl ⟨rfl,?_⟩));dsimp only;refine cz (by lia) λp hp=>?_;have pm0:Pm xs ys #[p] 0 1:=by have:Pm xs ys #[] 0 0:=List.Perm.refl _;exact this.py hp
 have g0:l7 st st:=⟨rfl,rfl,rfl,rfl⟩;refine eO (λe1=>V2 (h _ _ g0 pm0.done)) (λe1=>?_);refine eO (λe2=>V2 (h _ _ g0 pm0.last)) (λe2=>?_);refine V1 (wpS_get ?_);refine V1 (W3 (W4 (I:=QD st xs ys) (Q:=Dc st xs ys) ?step ?fin (.mk _ _ _ _ _ g0 pm0 (by lia) (by lia) (by lia))) ?post)
 case post=>
  rintro _ st'⟨r,out,ia,ib,mg,_,g,pr⟩;dsimp only;exact V2 (h _ _ g pr)
 case fin=>
  rintro _ st'⟨out,ia,ib,mg,_,_,_,a,b,c⟩;lia
 case step=>
  rintro x _ st' _ _⟨out,ia,ib,mg,_,g,pm,a1,b1,c1⟩;dsimp only;have hk':kindOf st'=kd:=g.1.trans hk;refine V1 (W3 (W4 (I:=KY st' xs ys (ia+ib)) (Q:=tF st' xs ys (ia+ib)) ?step1 ?fin1 (.mk _ _ _ _ _ pm a1 b1 (by lia))) ?post1)
  case fin1=>
   rintro _ _⟨out2,ia2,ib2,ac,bc,_,a,b,c⟩;lia
  case step1=>
   rintro y _ _ _ _⟨out2,ia2,ib2,ac,bc,pm2,a2,b2,c2⟩;dsimp only;refine cz (by lia) λp1 hp1=>?_
   refine cz (by lia) λp2 hp2=>?_
   refine zI L hk' (G2 _ _ hp1) (G1 _ _ hp2) λb=>?_
   dsimp only;cases b with
   |true=>rw[if_pos rfl];refine cz (by lia) λp3 hp3=>?_;have pm3:=pm2.py hp3;refine eO (λe3=>V2 (tF.dn _ _ _ _ _ _ pm3.done)) (λe3=>?_);refine cM (λe4=>?_) (λe4=>?_);{exact V2 (tF.go _ _ _ _ _ pm3 a2 (by lia) (by lia))};exact V2 (KY.mk _ _ _ _ _ pm3 a2 (by lia) (by lia))
   |false=>rw[if_neg VV];refine cz (by lia) λp3 hp3=>?_;have pm3:=pm2.px hp3;refine eO (λe3=>V2 (tF.dn _ _ _ _ _ _ pm3.last)) (λe3=>?_);refine cM (λe4=>?_) (λe4=>?_);{exact V2 (tF.go _ _ _ _ _ pm3 (by lia) b2 (by lia))};exact V2 (KY.mk _ _ _ _ _ pm3 (by lia) b2 (by lia))
  case post1=>
   rintro _ _ (⟨r,out2,ia2,ib2,ac,bc,pr⟩|⟨out2,ia2,ib2,ac,bc,pm2,a2,b2,c2⟩)
   .exact V2 (Dc.mk _ _ _ _ _ _ g pr)
   .dsimp only;refine V1 (XE (Wl ⟨rfl,?_⟩));refine V1 (W3 (W4 (I:=λ_=>NR st xs ys (ia2+ib2)) (Q:=oQ st xs ys (ia2+ib2)) ?step2 (λc st3 q=>by cases q;exact .go _ _ _ _ _ _ _ ‹_› ‹_› ‹_› ‹_› ‹_›) (.mk _ _ _ _ _ _ _ g pm2 a2 b2 (V5 _))) ?post2)
    case step2=>
     rintro y _ st3 _ _⟨out3,ia3,ib3,mg3,ac3,bc3,_,g3,pm3,a3,b3,c3⟩;dsimp only;have hk3:kindOf st3=kd:=g3.1.trans hk;refine cM (λe5=>?b1) (λe5=>?b2)
     generalize mg3-1=v;clear e5;revert v;refine ?key
     case b2=>exact ?key mg3
     intro v;refine V1 (WR ?_);refine cz (by lia) λp1 hp1=>?_
     refine oH L hk3 (G2 _ _ hp1) G1 (by lia) (by lia) λk hk1=>?_
     dsimp only;refine cM (λk0=>?c1) (λk0=>?c2)
     have pm4:=pm3.x k;refine eO (λe6=>V2 (oQ.dn _ _ _ _ _ _ _ _ g3 pm4.last)) (λe6=>?_)
     refine eO (λe7=>V2 (oQ.dn _ _ _ _ _ _ _ _ g3 pm4.done)) (λe7=>?_)
     generalize out3++xs.extract ia3 (ia3+k)=o at pm4⊢;have n1:ia3+k+1<xs.size:=by lia
     have n0:ia3<=ia3+k:=by lia
     revert n0 n1 pm4;clear e6 e7 k0;generalize ia3+k=n;clear hk1;generalize k=d;revert o n d;refine ?key2
     case c2=>exact ?key2 out3 ia3 k pm3 a3 (V5 _)
     intro o n d pm4 n1 n0;refine cz (by lia) λp2 hp2=>?_
     have pm5:=pm4.py hp2;refine eO (λe8=>V2 (oQ.dn _ _ _ _ _ _ _ _ g3 pm5.done)) (λe8=>?_)
     refine cz (by lia) λp3 hp3=>?_
     refine oH L hk3 (G1 _ _ hp3) G2 (by lia) (by lia) λk2 hk2=>?_
     dsimp only;refine cM (λk20=>?d1) (λk20=>?d2)
     have pm6:=pm5.y k2;refine eO (λe9=>V2 (oQ.dn _ _ _ _ _ _ _ _ g3 pm6.done)) (λe9=>?_)
     generalize o.push _++ys.extract (ib3+1) (ib3+1+k2)=o2 at pm6⊢;have m1:ib3+1+k2<ys.size:=by lia
     have m0:ib3+1<=ib3+1+k2:=by lia
     revert m0 m1 pm6;clear e9 k20;generalize ib3+1+k2=m;clear hk2;generalize k2=d2;revert o2 m d2;refine ?key3
     case d2=>exact ?key3 _ _ _ pm5 (by lia) (V5 _)
     intro o2 m d2 pm6 m1 m0;refine cz (by lia) λp4 hp4=>?_
     have pm7:=pm6.px hp4;refine eO (λe10=>V2 (oQ.dn _ _ _ _ _ _ _ _ g3 pm7.last)) (λe10=>?_)
     refine cM (λ_=>?_) (λ_=>?_)
     .exact V2 (oQ.go _ _ _ _ _ _ _ g3 pm7 (by lia) (by lia) (by lia))
     .exact V2 (NR.mk _ _ _ _ _ _ _ g3 pm7 (by lia) (by lia) (by lia))
    case post2=>
     rintro _ st3 (⟨r,out3,ia3,ib3,mg3,ac3,bc3,_,g3,pr⟩|⟨out3,ia3,ib3,mg3,ac3,bc3,_,g3,pm3,a3,b3,c3⟩)
     .exact V2 (Dc.mk _ _ _ _ _ _ g3 pr)
     .dsimp only;refine V1 (WR ?_);exact V2 (QD.mk _ _ _ _ _ g3 pm3 a3 b3 (by lia))
end
def Pr (xs ys out:Array Keyed) (na nb:Nat):Prop:=out.toList.Perm (xs.toList.drop na++ys.toList.drop nb)
section
variable{xs ys out:Array Keyed}{na nb k:Nat}
def jy(zs:Array Keyed){i n:Nat}(h:i<=n):zs.toList.drop i=(zs.extract i n).toList++zs.toList.drop n:=by obtain⟨d,rfl⟩:=Nat.exists_eq_add_of_le h;rw[ZQ,ZR,Xu,<-List.drop_drop];exact(Xs d _).symm
def Pr.x(h:Pr xs ys out na nb)(hk:k<=na):Pr xs ys (out++(xs.extract k na).reverse) k nb:=by unfold Pr at *;rw[WH,jy xs hk,ZS,Vz];refine(h.append_right _).trans ?_;refine Xa.trans ?_;exact YI _ (ZT _)
def Pr.y(h:Pr xs ys out na nb)(hk:k<=nb):Pr xs ys (out++(ys.extract k nb).reverse) na k:=by unfold Pr at *;rw[WH,jy ys hk,ZS];refine(h.append_right _).trans ?_;rw[Vz];refine XZ _ ?_;refine Xa.trans ?_;exact YI _ (ZT _)
def zV{zs out:Array Keyed}{i:Nat}(h1:1<=i)(hp:zs[i-1]?=some p):out.push p=out++(zs.extract (i-1) i).reverse:=by
 have e:=tS (out:=#[]) hp;rw[show i-1+1=i by lia]at e;have e2:zs.extract (i-1) i=#[p]:=by rw[Array.empty_append]at e;exact e.symm
 rw[e2];rfl
def Pr.px{p:Keyed}(h:Pr xs ys out na nb)(h1:1<=na)(hp:xs[na-1]?=some p):Pr xs ys (out.push p) (na-1) nb:=by rw[zV h1 hp];exact h.x (by lia)
def Pr.py{p:Keyed}(h:Pr xs ys out na nb)(h1:1<=nb)(hp:ys[nb-1]?=some p):Pr xs ys (out.push p) na (nb-1):=by rw[zV h1 hp];exact h.y (by lia)
def Pr.done(h:Pr xs ys out na nb):(xs.extract 0 na++ys.extract 0 nb++out.reverse).toList.Perm (xs.toList++ys.toList):=by
 unfold Pr at h;have e1:=jy xs (W7 na);have e2:=jy ys (W7 nb);rw[YJ]at e1 e2;rw[WH,WH,ZS]
 conv=>rhs;rw[e1,e2]
 rw[Vz,Vz];refine XZ _ ?_;refine(XZ _ ((ZT _).trans h)).trans ?_;rw[<-Vz,<-Vz];exact YI _ Xa
def Pr.first(h:Pr xs ys out na nb):(ys.extract 0 nb++xs.extract 0 na++out.reverse).toList.Perm (xs.toList++ys.toList):=by refine List.Perm.trans ?_ h.done;rw[WH,WH,WH,WH];exact YI _ Xa
end
inductive Pn(st:SortSt)(xs ys:Array Keyed) (x:Nat):Option (Array Keyed)×Nat×Nat×Array Keyed×Nat->SortSt->Prop
 |mk:∀(na nb:Nat)(out:Array Keyed) (mg:Nat)(st':SortSt),l7 st st'->Pr xs ys out na nb->1<=na->2<=nb->na<=xs.size->nb<=ys.size->na+nb+x+1<=xs.size+ys.size->Pn st xs ys x (none,na,nb,out,mg) st'
inductive Cv(st:SortSt)(xs ys:Array Keyed):Option (Array Keyed)×Nat×Nat×Array Keyed×Nat->SortSt->Prop
 |mk:∀(r:Array Keyed) (na nb:Nat)(out:Array Keyed) (mg:Nat)(st':SortSt),l7 st st'->r.toList.Perm (xs.toList++ys.toList)->Cv st xs ys (some r,na,nb,out,mg) st'
inductive KA(st:SortSt)(xs ys:Array Keyed) (n y:Nat):Option (Array Keyed)×Nat×Nat×Array Keyed×Nat×Nat->SortSt->Prop
 |mk:∀(na nb:Nat)(out:Array Keyed) (ac bc:Nat),Pr xs ys out na nb->1<=na->2<=nb->na<=xs.size->nb<=ys.size->na+nb+y<=n->KA st xs ys n y (none,na,nb,out,ac,bc) st
inductive tM(st:SortSt)(xs ys:Array Keyed) (n:Nat):Option (Array Keyed)×Nat×Nat×Array Keyed×Nat×Nat->SortSt->Prop
 |dn:∀(r:Array Keyed) (na nb:Nat)(out:Array Keyed) (ac bc:Nat),r.toList.Perm (xs.toList++ys.toList)->tM st xs ys n (some r,na,nb,out,ac,bc) st
 |go:∀(na nb:Nat)(out:Array Keyed) (ac bc:Nat),Pr xs ys out na nb->1<=na->2<=nb->na<=xs.size->nb<=ys.size->na+nb+1<=n->tM st xs ys n (none,na,nb,out,ac,bc) st
inductive O0(st:SortSt)(xs ys:Array Keyed) (n:Nat):Option (Array Keyed)×Nat×Nat×Array Keyed×Nat×Nat×Nat->SortSt->Prop
 |mk:∀(na nb:Nat)(out:Array Keyed) (mg ac bc:Nat)(st':SortSt),l7 st st'->Pr xs ys out na nb->1<=na->2<=nb->na<=xs.size->nb<=ys.size->na+nb<=n->O0 st xs ys n (none,na,nb,out,mg,ac,bc) st'
inductive ou(st:SortSt)(xs ys:Array Keyed) (n:Nat):Option (Array Keyed)×Nat×Nat×Array Keyed×Nat×Nat×Nat->SortSt->Prop
 |dn:∀(r:Array Keyed) (na nb:Nat)(out:Array Keyed) (mg ac bc:Nat)(st':SortSt),l7 st st'->r.toList.Perm (xs.toList++ys.toList)->ou st xs ys n (some r,na,nb,out,mg,ac,bc) st'
 |go:∀(na nb:Nat)(out:Array Keyed) (mg ac bc:Nat)(st':SortSt),l7 st st'->Pr xs ys out na nb->1<=na->2<=nb->na<=xs.size->nb<=ys.size->na+nb<=n->ou st xs ys n (none,na,nb,out,mg,ac,bc) st'
section
variable{prog:Program}{w:World}{A:Around}{E:Zp}{s:Shared}{kd:SortKind}{P:Value->Prop}
def RS{st:SortSt}(L:jE prog w A s kd P)(hk:kindOf st=kd)(G1:Good P xs)(G2:Good P ys)(h1:1<=xs.size)(h2:1<=ys.size)(h:∀zs st',l7 st st'->zs.toList.Perm (xs.toList++ys.toList)->Q zs st') : wpS (model prog w) A E s (z0 xs ys) Q st:=by
 unfold z0;refine V1 (XE (Wl ⟨rfl,?_⟩));dsimp only;refine cz (by lia) λp hp=>?_;have pm0:Pr xs ys #[p] (xs.size-1) ys.size:=by
  have z:Pr xs ys #[] xs.size ys.size:=by unfold Pr;rw[Yq (by simp),Yq (by simp)];exact List.Perm.refl _
  exact z.px h1 hp
 have g0:l7 st st:=⟨rfl,rfl,rfl,rfl⟩;refine eO (λe1=>V2 (h _ _ g0 pm0.done)) (λe1=>?_);refine eO (λe2=>V2 (h _ _ g0 pm0.first)) (λe2=>?_);refine V1 (wpS_get ?_);refine V1 (W3 (W4 (I:=Pn st xs ys) (Q:=Cv st xs ys) ?step ?fin (.mk _ _ _ _ _ g0 pm0 (by lia) (by lia) (by lia) (by lia) (by lia))) ?post)
 case post=>
  rintro _ st'⟨r,na,nb,out,mg,_,g,pr⟩;dsimp only;exact V2 (h _ _ g pr)
 case fin=>
  rintro _ st'⟨na,nb,out,mg,_,_,_,a,b,c,d,e⟩;lia
 case step=>
  rintro x _ st' _ _⟨na,nb,out,mg,_,g,pm,a1,b1,c1,d1,f1⟩;dsimp only;have hk':kindOf st'=kd:=g.1.trans hk;refine V1 (W3 (W4 (I:=KA st' xs ys (na+nb)) (Q:=tM st' xs ys (na+nb)) ?step1 ?fin1 (.mk _ _ _ _ _ pm a1 b1 c1 d1 (by lia))) ?post1)
  case fin1=>
   rintro _ _⟨na2,pG,out2,ac,bc,_,a,b,c,d,e⟩;lia
  case step1=>
   rintro y _ _ _ _⟨na2,pG,out2,ac,bc,pm2,a2,b2,c2,d2,f2⟩;dsimp only;refine cz (by lia) λp1 hp1=>?_
   refine cz (by lia) λp2 hp2=>?_
   refine zI L hk' (G2 _ _ hp1) (G1 _ _ hp2) λb=>?_
   dsimp only;cases b with
   |true=>rw[if_pos rfl];refine cz (by lia) λp3 hp3=>?_;have pm3:=pm2.px (by lia) hp3;refine eO (λe3=>V2 (tM.dn _ _ _ _ _ _ pm3.done)) (λe3=>?_);refine cM (λe4=>?_) (λe4=>?_);{exact V2 (tM.go _ _ _ _ _ pm3 (by lia) (by lia) (by lia) (by lia) (by lia))};exact V2 (KA.mk _ _ _ _ _ pm3 (by lia) (by lia) (by lia) (by lia) (by lia))
   |false=>rw[if_neg VV];refine cz (by lia) λp3 hp3=>?_;have pm3:=pm2.py (by lia) hp3;refine eO (λe3=>V2 (tM.dn _ _ _ _ _ _ pm3.first)) (λe3=>?_);refine cM (λe4=>?_) (λe4=>?_);{exact V2 (tM.go _ _ _ _ _ pm3 (by lia) (by lia) (by lia) (by lia) (by lia))};exact V2 (KA.mk _ _ _ _ _ pm3 (by lia) (by lia) (by lia) (by lia) (by lia))
  case post1=>
   rintro _ _ (⟨r,na2,pG,out2,ac,bc,pr⟩|⟨na2,pG,out2,ac,bc,pm2,a2,b2,c2,d2,f2⟩)
   .exact V2 (Cv.mk _ _ _ _ _ _ g pr)
   .dsimp only;refine V1 (XE (Wl ⟨rfl,?_⟩));refine V1 (W3 (W4 (I:=λ_=>O0 st xs ys (na2+pG)) (Q:=ou st xs ys (na2+pG)) ?step2 (λc st3 q=>by cases q;exact .go _ _ _ _ _ _ _ ‹_› ‹_› ‹_› ‹_› ‹_› ‹_› ‹_›) (.mk _ _ _ _ _ _ _ g pm2 a2 b2 c2 d2 (V5 _))) ?post2)
    case step2=>
     rintro y _ st3 _ _⟨na3,nb3,out3,mg3,ac3,bc3,_,g3,pm3,a3,b3,c3,d3,f3⟩;dsimp only;have hk3:kindOf st3=kd:=g3.1.trans hk;refine cM (λe5=>?b1) (λe5=>?b2)
     generalize mg3-1=v;clear e5;revert v;refine ?key
     case b2=>exact ?key mg3
     intro v;refine V1 (WR ?_);refine cz (by lia) λp1 hp1=>?_
     refine oH L hk3 (G2 _ _ hp1) G1 (by lia) (by lia) λk hk1=>?_
     dsimp only;refine cM (λk0=>?c1) (λk0=>?c2)
     have pm4:=pm3.x hk1;refine eO (λe7=>V2 (ou.dn _ _ _ _ _ _ _ _ g3 pm4.done)) (λe7=>?_)
     generalize out3++(xs.extract k na3).reverse=o at pm4⊢;generalize na3-k=d;have n1:1<=k:=by lia
     revert n1 pm4;clear e7 k0;revert hk1;generalize k=n;revert d o n;refine ?key2
     case c2=>exact ?key2 out3 (na3-k) na3 (V5 _) pm3 (by lia)
     intro o d n hk1 pm4 n1;refine cz (by lia) λp2 hp2=>?_
     have pm5:=pm4.py (by lia) hp2
     refine eO (λe8=>V2 (ou.dn _ _ _ _ _ _ _ _ g3 pm5.first)) (λe8=>?_)
     refine cz (by lia) λp3 hp3=>?_
     refine oH L hk3 (G1 _ _ hp3) G2 (by lia) (by lia) λk2 hk2=>?_
     dsimp only;refine cM (λk20=>?d1) (λk20=>?d2)
     have pm6:=pm5.y hk2;refine eO (λe9=>V2 (ou.dn _ _ _ _ _ _ _ _ g3 pm6.first)) (λe9=>?_)
     refine eO (λe9'=>V2 (ou.dn _ _ _ _ _ _ _ _ g3 pm6.done)) (λe9'=>?_)
     have n2:2<=k2:=by lia
     revert n2 pm6;generalize o.push _++(ys.extract k2 (nb3-1)).reverse=o2;generalize nb3-1-k2=d2;clear e9 e9' k20;revert hk2;generalize k2=m;revert d2 o2 m;refine ?key3
     case d2=>exact ?key3 _ _ _ (V5 _) pm5 (by lia)
     intro o2 d2 m hm pm6 n2;refine cz (by lia) λp4 hp4=>?_
     have pm7:=pm6.px (by lia) hp4
     refine eO (λe10=>V2 (ou.dn _ _ _ _ _ _ _ _ g3 pm7.done)) (λe10=>?_)
     refine cM (λ_=>?_) (λ_=>?_)
     .exact V2 (ou.go _ _ _ _ _ _ _ g3 pm7 (by lia) (by lia) (by lia) (by lia) (by lia))
     .exact V2 (O0.mk _ _ _ _ _ _ _ g3 pm7 (by lia) (by lia) (by lia) (by lia) (by lia))
    case post2=>
     rintro _ st3 (⟨r,na3,nb3,out3,mg3,ac3,bc3,_,g3,pr⟩|⟨na3,nb3,out3,mg3,ac3,bc3,_,g3,pm3,a3,b3,c3,d3,f3⟩)
     .exact V2 (Cv.mk _ _ _ _ _ _ g3 pr)
     .dsimp only;refine V1 (WR ?_);exact V2 (Pn.mk _ _ _ _ _ g3 pm3 a3 b3 c3 d3 (by lia))
end
structure SB(kd:SortKind)(xs0:Array Keyed)(st:SortSt):Prop where
 perm:(arrOf st).Perm xs0
 kind:kindOf st=kd
 ok:failedOf st=none
theorem SB.size{kd:SortKind}{st:SortSt}(B:SB kd xs0 st):(arrOf st).size=xs0.size:=B.perm.size_eq
def Good.perm(G:Good P ys)(p:xs.Perm ys):Good P xs:=λi q h=>by have m:q∈xs.toList:=VZ (by rw[Xc];exact h);have m2:q∈ys.toList:=(ZU.mp p).mem_iff.mp m;obtain⟨j,hj⟩:=Wz m2;rw[Xc]at hj;exact G j q hj
section
variable{prog:Program}{w:World}{A:Around}{E:Zp}{s:Shared}{kd:SortKind}{P:Value->Prop}{xs0:Array Keyed}
def gk{st:SortSt}{i j:Nat}(L:jE prog w A s kd P)(G:Good P xs0)(B:SB kd xs0 st)(hi:i<xs0.size)(hj:j<xs0.size)(h:∀b,Q (some b) st):wpS (model prog w) A E s (ltAt' i j) Q st:=by rw[ltAt'_eq];refine V1 (wpS_get ?_);have G':=G.perm B.perm;refine V1 (kK (by rw[B.size];exact hi) λp hp=>?_);refine V1 (kK (by rw[B.size];exact hj) λq hq=>?_);exact ask L B.kind (G' _ _ hp) (G' _ _ hq) h
def je{st:SortSt}{i j:Nat}(B:SB kd xs0 st)(h:∀st',SB kd xs0 st'->pendingOf st'=pendingOf st->Q () st'):wpS (model prog w) A E s (reverseSlice' i j) Q st:=by rw[reverseSlice'_eq];exact WR (h _ ⟨(mirror_perm _ _ _ _).trans B.perm,B.kind,B.ok⟩ rfl)
def IL{st:SortSt}{lo nrem:Nat}(L:jE prog w A s kd P)(G:Good P xs0)(B:SB kd xs0 st)(h1:1<=nrem)(hn:lo+nrem<=xs0.size)(h:∀m st',SB kd xs0 st'->pendingOf st'=pendingOf st->1<=m->m<=nrem->Q (some m) st') : wpS (model prog w) A E s (countRun' lo nrem) Q st:=by
 unfold countRun';refine V1 (W3 (W4 (I:=λx c st'=>st'=st/\c.1=none/\c.2=x) (Q:=λc st'=>st'=st/\c.1=none/\1<=c.2/\c.2<=nrem) ?step ?fin ⟨rfl,rfl,rfl⟩) ?post)
 case step=>
  rintro x⟨o,n⟩st' a b⟨rfl,rfl,rfl⟩;dsimp only;refine V1 (gk L G B (by dsimp only at a b;lia) (by dsimp only at a b;lia) λc=>?_)
  dsimp only;refine cM (λ_=>V2 ⟨rfl,rfl,by dsimp only at a b⊢;lia,by dsimp only at a b⊢;lia⟩) (λ_=>V2 ⟨rfl,rfl,rfl⟩)
 case fin=>
  rintro⟨o,n⟩st'⟨rfl,rfl,e⟩;dsimp only at e;exact⟨rfl,rfl,by dsimp only;lia,by dsimp only;lia⟩
 case post=>
  rintro⟨o,n⟩st'⟨rfl,rfl,n1,n2⟩;dsimp only at n1 n2⊢;refine eO (λe=>V2 (h _ _ B rfl n1 n2)) (λe=>?_)
  refine cM (λn0=>?_) (λn0=>?_)
  .refine V1 (gk L G B (by lia) (by lia) λc=>?_)
   dsimp only;refine cM (λ_=>V2 (h _ _ B rfl n1 n2)) (λ_=>?_)
   refine V1 (je B λst6 B6 p6=>?_)
   refine V1 (XE (Wl ⟨rfl,?_⟩));refine V1 (W3 (W4 (I:=λx c st2=>SB kd xs0 st2/\pendingOf st2=pendingOf st'/\c.1=none/\c.2.1=x) (Q:=λc st2=>SB kd xs0 st2/\pendingOf st2=pendingOf st'/\c.1=none/\1<=c.2.1/\c.2.1<=nrem) ?step1 ?fin1 ⟨B6,p6,rfl,rfl⟩) ?post1)
   case step1=>
    rintro x⟨o,m,q⟩st2 a b⟨B2,p2,rfl,rfl⟩;dsimp only at a b⊢;refine V1 (gk L G B2 (by lia) (by lia) λc=>?_)
    dsimp only;refine cM (λ_=>?_) (λ_=>?_)
    .refine cM (λ_=>?_) (λ_=>?_)
     .exact V1 (je B2 λst3 B3 p3=>V2 ⟨B3,p3.trans p2,rfl,rfl⟩)
     .exact V2 ⟨B2,p2,rfl,rfl⟩
    .refine V1 (gk L G B2 (by lia) (by lia) λc2=>?_)
     dsimp only;refine cM (λ_=>?_) (λ_=>?_)
     .exact V2 ⟨B2,p2,rfl,by dsimp only;lia,by dsimp only;lia⟩
     .exact V2 ⟨B2,p2,rfl,rfl⟩
   case fin1=>
    rintro⟨o,m,q⟩st2⟨B2,p2,rfl,e2⟩;dsimp only at e2;exact⟨B2,p2,rfl,by dsimp only;lia,by dsimp only;lia⟩
   case post1=>
    rintro⟨o,m,q⟩st2⟨B2,p2,rfl,m1,m2⟩;dsimp only at m1 m2⊢;refine cM (λ_=>?_) (λ_=>?_)
    .refine V1 (je B2 λst3 B3 p3=>?_)
     refine V1 (je B3 λst4 B4 p4=>?_)
     refine V1 (W3 (W4 (I:=λx c st5=>st5=st4/\c.1=none/\c.2=x) (Q:=λc st5=>st5=st4/\c.1=none/\1<=c.2/\c.2<=nrem) ?stepL2 ?finL2 ⟨rfl,rfl,rfl⟩) ?postL2)
     case stepL2=>
      rintro x⟨o,m⟩st5 a b⟨rfl,rfl,rfl⟩;dsimp only at a b⊢;refine V1 (gk L G B4 (by lia) (by lia) λc=>?_)
      dsimp only;refine cM (λ_=>V2 ⟨rfl,rfl,by dsimp only;lia,by dsimp only;lia⟩) (λ_=>V2 ⟨rfl,rfl,rfl⟩)
     case finL2=>
      rintro⟨o,m⟩st5⟨rfl,rfl,e2⟩;dsimp only at e2;exact⟨rfl,rfl,by dsimp only;lia,by dsimp only;lia⟩
     case postL2=>
      rintro⟨o,m⟩st5⟨rfl,rfl,k1,k2⟩;dsimp only at k1 k2⊢;exact V2 (h _ _ B4 (p4.trans (p3.trans p2)) k1 k2)
    .refine V1 (je B2 λst4 B4 p4=>?_)
     refine V1 (W3 (W4 (I:=λx c st5=>st5=st4/\c.1=none/\c.2=x) (Q:=λc st5=>st5=st4/\c.1=none/\1<=c.2/\c.2<=nrem) ?stepL3 ?finL3 ⟨rfl,rfl,rfl⟩) ?postL3)
     case stepL3=>
      rintro x⟨o,m⟩st5 a b⟨rfl,rfl,rfl⟩;dsimp only at a b⊢;refine V1 (gk L G B4 (by lia) (by lia) λc=>?_)
      dsimp only;refine cM (λ_=>V2 ⟨rfl,rfl,by dsimp only;lia,by dsimp only;lia⟩) (λ_=>V2 ⟨rfl,rfl,rfl⟩)
     case finL3=>
      rintro⟨o,m⟩st5⟨rfl,rfl,e2⟩;dsimp only at e2;exact⟨rfl,rfl,by dsimp only;lia,by dsimp only;lia⟩
     case postL3=>
      rintro⟨o,m⟩st5⟨rfl,rfl,k1,k2⟩;dsimp only at k1 k2⊢;exact V2 (h _ _ B4 (p4.trans p2) k1 k2)
  .have p6:pendingOf st'=pendingOf st':=rfl;refine V1 (XE (Wl ⟨rfl,?_⟩));refine V1 (W3 (W4 (I:=λx c st2=>SB kd xs0 st2/\pendingOf st2=pendingOf st'/\c.1=none/\c.2.1=x) (Q:=λc st2=>SB kd xs0 st2/\pendingOf st2=pendingOf st'/\c.1=none/\1<=c.2.1/\c.2.1<=nrem) ?step4 ?fin4 ⟨B,p6,rfl,rfl⟩) ?post4)
   case step4=>
    rintro x⟨o,m,q⟩st2 a b⟨B2,p2,rfl,rfl⟩;dsimp only at a b⊢;refine V1 (gk L G B2 (by lia) (by lia) λc=>?_)
    dsimp only;refine cM (λ_=>?_) (λ_=>?_)
    .refine cM (λ_=>?_) (λ_=>?_)
     .exact V1 (je B2 λst3 B3 p3=>V2 ⟨B3,p3.trans p2,rfl,rfl⟩)
     .exact V2 ⟨B2,p2,rfl,rfl⟩
    .refine V1 (gk L G B2 (by lia) (by lia) λc2=>?_)
     dsimp only;refine cM (λ_=>?_) (λ_=>?_)
     .exact V2 ⟨B2,p2,rfl,by dsimp only;lia,by dsimp only;lia⟩
     .exact V2 ⟨B2,p2,rfl,rfl⟩
   case fin4=>
    rintro⟨o,m,q⟩st2⟨B2,p2,rfl,e2⟩;dsimp only at e2;exact⟨B2,p2,rfl,by dsimp only;lia,by dsimp only;lia⟩
   case post4=>
    rintro⟨o,m,q⟩st2⟨B2,p2,rfl,m1,m2⟩;dsimp only at m1 m2⊢;refine cM (λ_=>?_) (λ_=>?_)
    .refine V1 (je B2 λst3 B3 p3=>?_)
     refine V1 (je B3 λst4 B4 p4=>?_)
     refine V1 (W3 (W4 (I:=λx c st5=>st5=st4/\c.1=none/\c.2=x) (Q:=λc st5=>st5=st4/\c.1=none/\1<=c.2/\c.2<=nrem) ?stepL5 ?finL5 ⟨rfl,rfl,rfl⟩) ?postL5)
     case stepL5=>
      rintro x⟨o,m⟩st5 a b⟨rfl,rfl,rfl⟩;dsimp only at a b⊢;refine V1 (gk L G B4 (by lia) (by lia) λc=>?_)
      dsimp only;refine cM (λ_=>V2 ⟨rfl,rfl,by dsimp only;lia,by dsimp only;lia⟩) (λ_=>V2 ⟨rfl,rfl,rfl⟩)
     case finL5=>
      rintro⟨o,m⟩st5⟨rfl,rfl,e2⟩;dsimp only at e2;exact⟨rfl,rfl,by dsimp only;lia,by dsimp only;lia⟩
     case postL5=>
      rintro⟨o,m⟩st5⟨rfl,rfl,k1,k2⟩;dsimp only at k1 k2⊢;exact V2 (h _ _ B4 (p4.trans (p3.trans p2)) k1 k2)
    .refine V1 (je B2 λst4 B4 p4=>?_)
     refine V1 (W3 (W4 (I:=λx c st5=>st5=st4/\c.1=none/\c.2=x) (Q:=λc st5=>st5=st4/\c.1=none/\1<=c.2/\c.2<=nrem) ?stepL6 ?finL6 ⟨rfl,rfl,rfl⟩) ?postL6)
     case stepL6=>
      rintro x⟨o,m⟩st5 a b⟨rfl,rfl,rfl⟩;dsimp only at a b⊢;refine V1 (gk L G B4 (by lia) (by lia) λc=>?_)
      dsimp only;refine cM (λ_=>V2 ⟨rfl,rfl,by dsimp only;lia,by dsimp only;lia⟩) (λ_=>V2 ⟨rfl,rfl,rfl⟩)
     case finL6=>
      rintro⟨o,m⟩st5⟨rfl,rfl,e2⟩;dsimp only at e2;exact⟨rfl,rfl,by dsimp only;lia,by dsimp only;lia⟩
     case postL6=>
      rintro⟨o,m⟩st5⟨rfl,rfl,k1,k2⟩;dsimp only at k1 k2⊢;exact V2 (h _ _ B4 (p4.trans p2) k1 k2)
def OD{st:SortSt}{lo n k:Nat}(L:jE prog w A s kd P)(G:Good P xs0)(B:SB kd xs0 st)(hn:lo+n<=xs0.size)(h:∀st',SB kd xs0 st'->pendingOf st'=pendingOf st->Q true st') : wpS (model prog w) A E s (binarySort' lo n k) Q st:=by
 unfold binarySort';refine V1 (W3 (W4 (I:=λx c st'=>SB kd xs0 st'/\pendingOf st'=pendingOf st/\c.1=none) (Q:=λc st'=>SB kd xs0 st'/\pendingOf st'=pendingOf st/\c.1=none) ?step (λ_ _ q=>q) ⟨B,rfl,rfl⟩) ?post)
 case post=>
  rintro⟨o,u⟩st'⟨B1,p1,rfl⟩;exact V2 (h _ B1 p1)
 case step=>
  rintro x⟨o,u⟩st' a b⟨B1,p1,rfl⟩;dsimp only;refine V1 (W3 (W4 (I:=λy c st2=>st2=st'/\c.1=none/\c.2.2<=x) (Q:=λc st2=>st2=st'/\c.1=none/\c.2.2<=x) ?step1 (λ_ _ q=>q) ⟨rfl,rfl,V5 _⟩) ?post1)
  case step1=>
   rintro y⟨o,l,r⟩st2 _ _⟨rfl,rfl,le⟩;dsimp only at le⊢;refine cM (λ_=>V2 ⟨rfl,rfl,le⟩) (λlr=>?_)
   refine V1 (gk L G B1 (by lia) (by lia) λc=>?_)
   dsimp only;refine cM (λ_=>V2 ⟨rfl,rfl,by dsimp only;lia⟩) (λ_=>V2 ⟨rfl,rfl,le⟩)
  case post1=>
   rintro⟨o,l,r⟩st2⟨rfl,rfl,le⟩;dsimp only;refine V1 (WR ?_);exact V2 ⟨⟨(bubble_perm _ _ _).trans B1.perm,B1.kind,B1.ok⟩,p1,rfl⟩
end
theorem zo(sa:Nat):∀(l:List Keyed) (i:Nat)(a:Array Keyed),sa+i+l.length<=a.size->((l.zipIdx i).foldl (λa (x:Keyed×Nat)=>a.setIfInBounds (sa+x.2) x.1) a).toList=a.toList.take (sa+i)++(l++a.toList.drop (sa+i+l.length))
 |[],i,a,h=>by simp
 |p::r,i,a,h=>by
  have hl:(p::r).length=r.length+1:=rfl;rw[hl]at h;rw[List.zipIdx_cons,List.foldl_cons,zo sa r (i+1) _ (by rw[Array.size_setIfInBounds];lia)];rw[Array.toList_setIfInBounds];have lt:sa+i<a.toList.length:=by simp;lia
  have e1:(a.toList.set (sa+i) p).take (sa+(i+1))=a.toList.take (sa+i)++[p]:=by rw[show sa+(i+1)=sa+i+1 by lia,XF,List.take_set_of_le (V5 _),Wr lt];rfl
  have e2:(a.toList.set (sa+i) p).drop (sa+(i+1)+r.length)=a.toList.drop (sa+i+(p::r).length):=by rw[List.drop_set_of_lt (by lia),hl];congr 1;lia
  rw[e1,e2];simp
def seg(a:Array Keyed){i j k:Nat}(h1:i<=j)(h2:j<=k):a.toList=a.toList.take i++((a.extract i j).toList++((a.extract j k).toList++a.toList.drop k)):=by have e1:=jy a h1;have e2:=jy a h2;rw[<-e2,<-e1,Xs]
section
variable{prog:Program}{w:World}{A:Around}{E:Zp}{s:Shared}{kd:SortKind}{P:Value->Prop}{xs0:Array Keyed}
theorem Good.extract(G:Good P xs) (i j:Nat):Good P (xs.extract i j):=λk p h=>by rw[Array.getElem?_extract]at h;split at h;{exact G _ _ h};cases h
def Ip{st:SortSt}{i sa na pw sb nb pb:Nat}(L:jE prog w A s kd P)(G:Good P xs0)(B:SB kd xs0 st)(e1:(pendingOf st)[i]?=some (sa,na,pw))(e2:(pendingOf st)[i+1]?=some (sb,nb,pb))(c:sb=sa+na)(n1:1<=na)(n2:1<=nb)(le:sb+nb<=xs0.size)(h:∀st',SB kd xs0 st'->pendingOf st'=((pendingOf st).setIfInBounds i (sa,na+nb,pw)).eraseIdxIfInBounds (i+1)->Q true st'):wpS (model prog w) A E s (mergeAt' i) Q st:=by
 have G':=G.perm B.perm;have sz:=B.size;unfold mergeAt';refine V1 (wpS_get ?_);dsimp only;rw[e1,e2];dsimp only;refine V1 (?_:wpS _ _ _ _ (set _) _ _);unfold wpS;rw[StateT.run_set];refine V6 ⟨rfl,?_⟩;refine V1 (kK (by rw[sz];lia) λp hp=>?_);have B1:SB kd xs0 (SortSt.mk' (kindOf st) (arrOf st) (((pendingOf st).setIfInBounds i (sa,na+nb,pw)).eraseIdxIfInBounds (i+1)) (gallopOf st) (failedOf st)):=⟨B.perm,B.kind,B.ok⟩;refine V1 (qt L B.kind (G' _ _ hp) G' (show sa+na<=(arrOf st).size by lia) (by lia) λk hk=>?_);dsimp only;refine eO (λ_=>V2 (h _ B1 rfl)) (λe3=>?_);refine V1 (kK (show sa+k+(na-k)-1<(arrOf st).size by lia) λp2 hp2=>?_);refine V1 (qt L B.kind (G' _ _ hp2) G' (show sb+nb<=(arrOf st).size by lia) (by lia) λk2 hk2=>?_);dsimp only;refine eO (λ_=>V2 (h _ B1 rfl)) (λe4=>?_);have x1:((arrOf st).extract (sa+k) sb).size=sb-(sa+k):=by rw[Array.size_extract];lia
 have x2:((arrOf st).extract sb (sb+k2)).size=k2:=by rw[Array.size_extract];lia
 have fin:∀zs:Array Keyed,zs.toList.Perm (((arrOf st).extract (sa+k) sb).toList++((arrOf st).extract sb (sb+k2)).toList)->(zs.toList.zipIdx.foldl (λa (x:Keyed×Nat)=>a.setIfInBounds (sa+k+x.2) x.1) (arrOf st)).Perm xs0:=λzs pm=>by
  have zl:zs.toList.length=sb+k2-(sa+k):=by rw[pm.length_eq,VH,X6,X6,x1,x2];lia
  refine Array.Perm.trans (ZU.mpr ?_) B.perm;rw[zo (sa+k) zs.toList 0 (arrOf st) (by lia)];have e:=seg (arrOf st) (show sa+k<=sb by lia) (show sb<=sb+k2 by lia);rw[Nat.add_zero,show sa+k+zs.toList.length=sb+k2 by lia]
  conv=>rhs;rw[e]
  refine XZ _ ?_;rw[<-Vz];exact pm.append_right _
 refine cM (λ_=>?_) (λ_=>?_)
 .refine V1 (RO L B.kind (G'.extract _ _) (G'.extract _ _) (show 1<=((arrOf st).extract (sa+k) sb).size by lia) (show 1<=((arrOf st).extract sb (sb+k2)).size by lia) λzs st2 g pm=>?_);obtain⟨g1,g2,g3,g4⟩:=g;refine V1 (WR ?_);refine V1 (wpS_get ?_);refine V2 ?_;have e:(failedOf st2).isNone=true:=by rw[g4];show(failedOf st).isNone=true;rw[B.ok];rfl
  show Q (failedOf st2).isNone _;rw[e];refine h _ ⟨?_,g1.trans B.kind,g4.trans B.ok⟩ g3;show(zs.toList.zipIdx.foldl (λa (x:Keyed×Nat)=>a.setIfInBounds (sa+k+x.2) x.1) (arrOf st2)).Perm xs0;rw[g2];exact fin zs pm
 refine V1 (RS L B.kind (G'.extract _ _) (G'.extract _ _) (show 1<=((arrOf st).extract (sa+k) sb).size by lia) (show 1<=((arrOf st).extract sb (sb+k2)).size by lia) λzs st2 g pm=>?_);obtain⟨g1,g2,g3,g4⟩:=g;refine V1 (WR ?_);refine V1 (wpS_get ?_);refine V2 ?_;have e:(failedOf st2).isNone=true:=by rw[g4];show(failedOf st).isNone=true;rw[B.ok];rfl
 show Q (failedOf st2).isNone _;rw[e];refine h _ ⟨?_,g1.trans B.kind,g4.trans B.ok⟩ g3;show(zs.toList.zipIdx.foldl (λa (x:Keyed×Nat)=>a.setIfInBounds (sa+k+x.2) x.1) (arrOf st2)).Perm xs0;rw[g2];exact fin zs pm
end
def Cont:Nat->List (Nat×Nat×Nat)->Nat->Prop
 |f,[],lo=>f=lo
 |f,(s,n,_)::r,lo=>s=f/\1<=n/\Cont (f+n) r lo
theorem Cont.le:∀{l:List (Nat×Nat×Nat)}{f lo:Nat},Cont f l lo->f<=lo
 |[],f,lo,h=>YF h
 | (s,n,p)::r,f,lo,⟨_,h1,h⟩=>by have:=Cont.le h;lia
theorem Cont.two:∀{l:List (Nat×Nat×Nat)}{f lo:Nat} (i:Nat),Cont f l lo->i+1<l.length->∃sa na pw sb nb pb,l[i]?=some (sa,na,pw)/\l[i+1]?=some (sb,nb,pb)/\sb=sa+na/\1<=na/\1<=nb/\sb+nb<=lo
 | (s,n,p)::(s2,n2,p2)::r,f,lo,0,⟨h1,h2,h3,h4,h5⟩,_=>⟨s,n,p,s2,n2,p2,rfl,rfl,by lia,h2,h4,by have:=h5.le;lia⟩
 | (s,n,p)::r,f,lo,i+1,⟨_,_,h⟩,hl=>Cont.two i h (by simpa using hl)
 |[],_,_,_,_,hl=>by simp at hl
 |[_],_,_,0,_,hl=>by simp at hl
theorem Cont.merge:∀{l:List (Nat×Nat×Nat)}{f lo:Nat} (i:Nat){sa na pw sb nb pb:Nat},Cont f l lo->l[i]?=some (sa,na,pw)->l[i+1]?=some (sb,nb,pb)->Cont f ((l.set i (sa,na+nb,pw)).eraseIdx (i+1)) lo
 | (s,n,p)::(s2,n2,p2)::r,f,lo,0,sa,na,pw,sb,nb,pb,⟨h1,h2,h3,h4,h5⟩,e1,e2=>by cases e1;cases e2;refine⟨h1,by lia,?_⟩;rw[<-X3];exact h5
 | (s,n,p)::r,f,lo,i+1,sa,na,pw,sb,nb,pb,⟨h1,h2,h⟩,e1,e2=>⟨h1,h2,Cont.merge i h e1 e2⟩
 |[],_,_,_,_,_,_,_,_,_,_,e1,_=>by cases e1
 |[_],_,_,0,_,_,_,_,_,_,_,_,e2=>by cases e2
theorem Cont.mod(pw:Nat):∀{l:List (Nat×Nat×Nat)}{f lo:Nat} (j:Nat),Cont f l lo->Cont f (l.modify j λx=>(x.1,x.2.1,pw)) lo
 |[],f,lo,j,h=>by rw[List.modify_nil];exact h
 | (s,n,p)::r,f,lo,0,⟨h1,h2,h⟩=>⟨h1,h2,h⟩
 | (s,n,p)::r,f,lo,j+1,⟨h1,h2,h⟩=>⟨h1,h2,Cont.mod pw j h⟩
theorem Cont.push{n:Nat}(hn:1<=n):∀{l:List (Nat×Nat×Nat)}{f lo:Nat},Cont f l lo->Cont f (l++[(lo,n,0)]) (lo+n)
 |[],f,lo,h=>⟨h.symm,hn,by show f+n=lo+n;rw[show f=lo from h]⟩
 | (s,m,p)::r,f,lo,⟨h1,h2,h⟩=>⟨h1,h2,Cont.push hn h⟩
section
variable{prog:Program}{w:World}{A:Around}{E:Zp}{s:Shared}{kd:SortKind}{P:Value->Prop}{xs0:Array Keyed}
def sW{st:SortSt}{i lo:Nat}(L:jE prog w A s kd P)(G:Good P xs0)(B:SB kd xs0 st)(C:Cont 0 (pendingOf st).toList lo)(le:lo<=xs0.size)(hi:i+1<(pendingOf st).size)(h:∀st',SB kd xs0 st'->Cont 0 (pendingOf st').toList lo->Q true st'):wpS (model prog w) A E s (mergeAt' i) Q st:=by obtain⟨sa,na,pw,sb,nb,pb,e1,e2,c,n1,n2,l2⟩:=C.two i (by simpa using hi);refine Ip L G B (by rw[<-Xc];exact e1) (by rw[<-Xc];exact e2) c n1 n2 (by lia) λst' B' p'=>h st' B' ?_;rw[p',Array.toList_eraseIdxIfInBounds,Array.toList_setIfInBounds];exact C.merge i e1 e2
def LL{st:SortSt}(L:jE prog w A s kd P)(G:Good P xs0)(B:SB kd xs0 st)(p0:pendingOf st=#[])(h:∀st',SB kd xs0 st'->Q () st'):wpS (model prog w) A E s sortRuns' Q st:=by
 rw[sortRuns'_eq];refine V1 (wpS_get ?_);dsimp only;rw[B.size];refine V1 (W3 (W4 (I:=λx c st'=>SB kd xs0 st'/\c.1=none/\Cont 0 (pendingOf st').toList c.2/\c.2<=xs0.size) (Q:=λc st'=>SB kd xs0 st'/\c.1=none/\Cont 0 (pendingOf st').toList c.2/\c.2<=xs0.size) ?step (λ_ _ q=>q) ⟨B,rfl,by rw[p0];rfl,W7 _⟩) ?post)
 case step=>
  rintro x⟨o,lo⟩st' _ _⟨B1,rfl,C1,l1⟩;dsimp only at C1 l1⊢;refine cM (λ_=>V2 ⟨B1,rfl,C1,l1⟩) (λge=>?_)
  refine V1 (IL L G B1 (by lia) (by lia) λm st2 B2 p2 m1 m2=>?_)
  dsimp only;have C2:Cont 0 (pendingOf st2).toList lo:=by rw[p2];exact C1
  refine cM (λlt=>?_) (λlt=>?_)
  .refine V1 (XE (Wl ⟨rfl,?_⟩));generalize hf:min (xs0.size-lo) (minRun' xs0.size xs0.size 0)=force;have f1:1<=force:=by lia
   have f2:lo+force<=xs0.size:=by lia
   refine V1 (OD L G B2 f2 λst3 B3 p3=>?_)
   have C3:Cont 0 (pendingOf st3).toList lo:=by rw[p3];exact C2
   refine cM (λz=>absurd z (by decide)) (λ_=>?_)
   refine V1 (wpS_get ?_);cases hb:(pendingOf st3).back? with
   |none=>
    dsimp only;refine V1 (WR ?_);refine V2 ⟨⟨B3.perm,B3.kind,B3.ok⟩,rfl,?_,f2⟩;show Cont 0 ((pendingOf st3).push (lo,force,0)).toList (lo+force);rw[Yr];exact C3.push f1
   |some t=>
    obtain⟨s1,n1',q1⟩:=t;dsimp only;refine V1 (W3 (W4 (I:=λy c st4=>SB kd xs0 st4/\c.1=none/\Cont 0 (pendingOf st4).toList lo) (Q:=λc st4=>SB kd xs0 st4/\c.1=none/\Cont 0 (pendingOf st4).toList lo) ?step1 (λ_ _ q=>q) ⟨B3,rfl,C3⟩) ?post1)
    case step1=>
     rintro y⟨o,u⟩st4 _ _⟨B4,rfl,C4⟩;refine V1 (wpS_get ?_);cases hm:(if(pendingOf st4).size>1 then(pendingOf st4)[(pendingOf st4).size-2]? else none)with
     |none=>exact V2 ⟨B4,rfl,C4⟩
     |some t=>
      obtain⟨f1,f2,older⟩:=t;dsimp only;refine cM (λ_=>V2 ⟨B4,rfl,C4⟩) (λ_=>?_)
      have s2:(pendingOf st4).size>1:=by
       by_cases z:(pendingOf st4).size>1
       .exact z
       .rw[if_neg z]at hm;cases hm
      refine V1 (sW L G B4 C4 l1 (by lia) λst5 B5 C5=>?_)
      exact cM (λz=>absurd z (by decide)) (λ_=>V2 ⟨B5,rfl,C5⟩)
    case post1=>
     rintro⟨o,u⟩st4⟨B4,rfl,C4⟩;dsimp only;refine V1 (WR ?_);refine V1 (WR ?_);refine V2 ⟨⟨B4.perm,B4.kind,B4.ok⟩,rfl,?_,f2⟩;refine id (?_:Cont 0 (((pendingOf st4).modify ((pendingOf st4).size-1) λx=>(x.1,x.2.1,_)).push (lo,force,0)).toList (lo+force))
     rw[Yr,Array.toList_modify];exact(C4.mod _ _).push f1
  .have f2:lo+m<=xs0.size:=by lia
   refine V1 (wpS_get ?_);cases hb:(pendingOf st2).back? with
   |none=>
    dsimp only;refine V1 (WR ?_);refine V2 ⟨⟨B2.perm,B2.kind,B2.ok⟩,rfl,?_,f2⟩;show Cont 0 ((pendingOf st2).push (lo,m,0)).toList (lo+m);rw[Yr];exact C2.push m1
   |some t=>
    obtain⟨s1,n1',q1⟩:=t;dsimp only;refine V1 (W3 (W4 (I:=λy c st4=>SB kd xs0 st4/\c.1=none/\Cont 0 (pendingOf st4).toList lo) (Q:=λc st4=>SB kd xs0 st4/\c.1=none/\Cont 0 (pendingOf st4).toList lo) ?step2 (λ_ _ q=>q) ⟨B2,rfl,C2⟩) ?post2)
    case step2=>
     rintro y⟨o,u⟩st4 _ _⟨B4,rfl,C4⟩;refine V1 (wpS_get ?_);cases hm:(if(pendingOf st4).size>1 then(pendingOf st4)[(pendingOf st4).size-2]? else none)with
     |none=>exact V2 ⟨B4,rfl,C4⟩
     |some t=>
      obtain⟨f1,f2,older⟩:=t;dsimp only;refine cM (λ_=>V2 ⟨B4,rfl,C4⟩) (λ_=>?_)
      have s2:(pendingOf st4).size>1:=by
       by_cases z:(pendingOf st4).size>1
       .exact z
       .rw[if_neg z]at hm;cases hm
      refine V1 (sW L G B4 C4 l1 (by lia) λst5 B5 C5=>?_)
      exact cM (λz=>absurd z (by decide)) (λ_=>V2 ⟨B5,rfl,C5⟩)
    case post2=>
     rintro⟨o,u⟩st4⟨B4,rfl,C4⟩;dsimp only;refine V1 (WR ?_);refine V1 (WR ?_);refine V2 ⟨⟨B4.perm,B4.kind,B4.ok⟩,rfl,?_,f2⟩;refine id (?_:Cont 0 (((pendingOf st4).modify ((pendingOf st4).size-1) λx=>(x.1,x.2.1,_)).push (lo,m,0)).toList (lo+m))
     rw[Yr,Array.toList_modify];exact(C4.mod _ _).push m1
 case post=>
  rintro⟨o,lo⟩st'⟨B1,rfl,C1,l1⟩;dsimp only at C1 l1⊢;refine V1 (W3 (W4 (I:=λy c st4=>SB kd xs0 st4/\c.1=none/\Cont 0 (pendingOf st4).toList lo) (Q:=λc st4=>SB kd xs0 st4/\c.1=none/\Cont 0 (pendingOf st4).toList lo) ?stepE (λ_ _ q=>q) ⟨B1,rfl,C1⟩) ?postE)
  case stepE=>
   rintro y⟨o,u⟩st4 _ _⟨B4,rfl,C4⟩;refine V1 (wpS_get ?_);refine cM (λ_=>V2 ⟨B4,rfl,C4⟩) (λgt=>?_)
   refine V1 (sW L G B4 C4 l1 (by(repeat' split)<;>lia) λst5 B5 C5=>?_)
   exact cM (λz=>absurd z (by decide)) (λ_=>V2 ⟨B5,rfl,C5⟩)
  case postE=>
   rintro⟨o,u⟩st4⟨B4,rfl,C4⟩;dsimp only;exact V2 (h _ B4)
end
def IsPair (h:Heap)(v:Value):Prop:=∃(a:Addr)(o:Obj) (i j:Int)(t u:Tok) (n:Nat),v=.ref a/\h.get? a=some o/\o.cls=.type "tuple"/\o.data=.seq #[.int i t,.int j u] n
section
variable{prog:Program}{w:World}{A:Around}{E:Zp}{s:Shared}
def M7(b:Bool){i j:Int}(h:∀c,Q c s):wpAny (model prog w) A (oneLt' b (.int i t) (.int j u)) Q E s:=by
 cases b with
 |true=>exact oneLt_int (h _)
 |false=>rw[oneLt'_eq];rw[if_neg VV];refine V0 (?_:wpAny _ _ (compareOp .Lt (.int i t) (.int j u)) _ _ _);exact lt_int (XS (h _))
def DF:jE prog w A s (tuples' true) (IsPair s.heap):=by
 rintro E x y⟨a,o,i,j,t,u,n,rfl,ho,hc,hd⟩⟨a2,o2,i2,j2,t2,u2,n2,rfl,ho2,hc2,hd2⟩Q h;refine V0 (Ys ho hd ?_);refine V0 (Ys ho2 hd2 ?_);dsimp only;refine V0 ?_;refine wpAny_forIn_list _ (λrest r s'=>s'=s/\r.1=none/\∀x∈rest,∃(i j:Int)(t u:Tok),x.1=(Value.int i t,Value.int j u)) _ ?_ ?_ _ _ ⟨rfl,rfl,λx hx=>?_⟩
 .rintro⟨⟨p,q⟩,k⟩rest⟨r,⟨⟩⟩s'⟨rfl,rfl,hall⟩;obtain⟨i3,j3,t3,u3,e⟩:=hall _ V3;dsimp only at e;cases e;dsimp only;refine V0 ((intKind prog w).eqBool (a:=i3) (b:=j3) (intKind_is _ _ i3 t3) (intKind_is _ _ j3 u3) ?_);cases decide (i3=j3)with
  |true=>exact V6 ⟨rfl,rfl,λx hx=>hall x (VA _ hx)⟩
  |false=>exact V0 (M7 _ λc=>V6 (V6 (h c)))
 .rintro⟨r,⟨⟩⟩s'⟨rfl,rfl,_⟩;exact V6 (h _)
 have hx':x=((Value.int i t,Value.int i2 t2),0)\/x=((Value.int j u,Value.int j2 u2),1):=by simpa using hx
 rcases hx' with rfl|rfl;{exact⟨_,_,_,_,rfl⟩};exact⟨_,_,_,_,rfl⟩
def Ds(hv:IsPair s.heap v)(h:∀i t,Q (some (.int i t)) s):wpAny (model prog w) A (firstOfTuple' v) Q E s:=by obtain⟨a,o,i,j,t,u,n,rfl,ho,hc,hd⟩:=hv;unfold firstOfTuple';refine V0 (YC (T:="tuple") ⟨o,ho,hc⟩ ?_);rw[if_neg (by decide)];refine V0 (Ys ho hd (V6 ?_));exact h i t
theorem firsts:∀{vs:A02},(∀v∈vs,IsPair s.heap v)->(∀os:List (Zy),os.length=vs.length->(∀o∈os,∃i t,o=some (Value.int i t))->Q os s)->wpAny (model prog w) A (vs.mapM firstOfTuple') Q E s
 |[],_,h=>by rw[List.mapM_nil];exact V6 (h [] rfl λo ho=>(nomatch ho))
 |v::r,hv,h=>by rw[List.mapM_cons];refine V0 (Ds (hv v V3) λi t=>?_);refine V0 (firsts (λx hx=>hv x (VA _ hx)) λos ol oh=>?_);refine V6 (h _ (by simp[ol]) λo ho=>?_);rcases VB.mp ho with rfl|ho;{exact⟨i,t,rfl⟩};exact oh o ho
def CZ{Q:SortKind->Shared->Prop}(h0:vs≠[])(hv:∀v∈vs,IsPair s.heap v)(h:Q (tuples' true) s):wpAny (model prog w) A (keyKind' vs.toArray) Q E s:=by
 rw[keyKind'_eq,List.mapM_toArray];rw[map_eq_pure_bind,bind_assoc];refine V0 (firsts hv λos ol oh=>?_);rw[pure_bind];have all:os.toArray.all (·.isSome)=true:=by rw[List.all_toArray,VL];intro o ho;obtain⟨i,t,rfl⟩:=oh o ho;rfl
 rw[if_pos all];refine V0 (Wl ?_);have inte:∃us:A02,os.toArray.filterMap id=us.toArray/\us≠[]/\∃ns,IntsAre us ns:=by
  have go:∀os:List (Zy),(∀o∈os,∃i t,o=some (Value.int i t))->∃us ns,os.filterMap id=us/\us.length=os.length/\IntsAre us ns:=λos=>by
   induction os with
   |nil=>exact λ_=>⟨[],[],rfl,rfl,.nil⟩
   |cons o r ih=>intro hh;obtain⟨i,t,rfl⟩:=hh o V3;obtain⟨us,ns,e,l,I⟩:=ih λx hx=>hh x (VA _ hx);exact⟨.int i t::us,i::ns,by simp[e],by simp[l],.cons i t I⟩
  obtain⟨us,ns,e,l,I⟩:=go os oh;refine⟨us,?_,λz=>h0 ?_,ns,I⟩;{rw[List.filterMap_toArray,e]};rw[z]at l;have:vs.length=0:=by rw[<-ol,<-l];rfl
  exact List.length_eq_zero_iff.mp this
 obtain⟨us,e,un,ns,I⟩:=inte;rw[e,oneTypeOnly'_eq,List.mapM_toArray,mapM_typeOf_ints I];simp only[map_pure,pure_bind];obtain⟨u0,ur,rfl⟩:=List.exists_cons_of_ne_nil un;have hall:((List.map (λ_=>Value.type "int") (u0::ur)).toArray.all λx=>x==Value.type "int")=true:=by simp only[List.all_toArray,List.all_map,VL];intro _ _;rfl
 have h1:(List.map (λ_=>Value.type "int") (u0::ur)).toArray[0]?=some (Value.type "int"):=by simp
 rw[h1];simp only[hall,if_true,pure_bind];exact V6 h
end
def IsPair.keep{a:Addr}(p:IsPair h v)(ha:h.get? a=some c)(hc:c.cls=.type "list")(k:∀b o,b≠a->h.get? b=some o->h'.get? b=some o):IsPair h' v:=by obtain⟨b,o,i,j,t,u,n,rfl,ho,hco,hd⟩:=p;refine⟨b,o,i,j,t,u,n,rfl,k b o (λz=>?_) ho,hco,hd⟩;rw[z,ha]at ho;cases ho;rw[hc]at hco;injection hco with z;exact absurd z (by decide)
section
variable{prog:Program}{w:World}{A:Around}{E:Zp}{s:Shared}
def Dl{a:Addr}{n:Nat}(ho:s.heap.get? a=some (seqObj "list" vs.toArray n))(hv:∀v∈vs,IsPair s.heap v)(few:vs.length<=1000)(h:∀us:Zz,us.toList.Perm vs->R (.done (.ret .none)) { s with heap:=sortedHeap s.heap a vs us }):wpAny (model prog w) A (Builtin.«list.sort» ⟨[.ref a],[]⟩) R E s:=by
 have line:(1000:Nat)<=sizeLine:=by decide
 have az:a<s.heap.objs.size:=VC ho;rw[list_sort_plain (a:Addr)];refine V0 (Ys ho rfl (?_:_));refine V0 (listUpdate_at ho rfl (?_:_) (by simp;lia) (by simp));obtain⟨ep,g1⟩:∃ep,(s.heap.update a (Obj.mapSeq λ_=>#[])).get? a=some (seqObj "list" #[] ep):=⟨_,get?_update_seq ho λ_=>#[]⟩;refine V0 (seqEpoch_at g1 rfl (?_:_));refine V0 (wpAny_newTuple (?_:_) (by simp;lia));refine V0 (wpAny_newList (?_:_));refine Wb (?_:_);have g6:(((s.heap.update a (Obj.mapSeq λ_=>#[])).push (seqObj "tuple" vs.toArray 0)).push (seqObj "list" #[] 0)).get? a=some (seqObj "list" #[] ep):=VW _ (VW _ g1);have keep:∀b o,b≠a->s.heap.get? b=some o->(((s.heap.update a (Obj.mapSeq λ_=>#[])).push (seqObj "tuple" vs.toArray 0)).push (seqObj "list" #[] 0)).get? b=some o:=λb o hb e=>VW _ (VW _ ((Wc _ _ (Ne.symm hb)).trans e));have hv6:∀v∈vs,IsPair (((s.heap.update a (Obj.mapSeq λ_=>#[])).push (seqObj "tuple" vs.toArray 0)).push (seqObj "list" #[] 0)) v:=λv m=>(hv v m).keep ho rfl keep;refine id (?_:wpAny (model prog w) A _ R E { s with heap:=((s.heap.update a (Obj.mapSeq λ_=>#[])).push (seqObj "tuple" vs.toArray 0)).push (seqObj "list" #[] 0) });dsimp only;have psz:(vs.toArray.zip vs.toArray).size=vs.length:=by simp
 have out:∀zs:Array Keyed,zs.Perm (vs.toArray.zip vs.toArray)->(zs.map (·.2)).toList.Perm vs:=λzs p=>by
  have p2:=(ZU.mp p).map (·.2);rw[Array.toList_map];refine p2.trans ?_;have:((vs.toArray.zip vs.toArray).toList.map (·.2))=vs:=by rw[Array.toList_zip];simp[List.map_snd_zip]
  rw[this]
 by_cases h2:vs.toArray.size<2;{rw[if_pos h2,if_pos h2];refine V0 (V6 (?_:_));rw[StateT.run_pure];refine V0 (V6 (?_:_));dsimp only;refine V0 (seqEpoch_at g6 rfl (?_:_));have o1:=out (vs.toArray.zip vs.toArray) (Array.Perm.refl _);have l1:=o1.length_eq;rw[X6]at l1;refine V0 (listUpdate_at g6 rfl (?_:_) (by simp) (Vx (YF l1) (by lia)));simp only[bne_self_eq_false,YK,Ww];refine V6 (?_:_);exact h _ o1};rw[if_neg h2,if_neg h2];have ne:vs≠[]:=λz=>h2 (by rw[z];decide);refine V0 (CZ (s:={ s with heap:=((s.heap.update a (Obj.mapSeq λ_=>#[])).push (seqObj "tuple" vs.toArray 0)).push (seqObj "list" #[] 0) }) ne hv6 (?_:_));refine V0 (WC (LL (kd:=tuples' true) (P:=IsPair (((s.heap.update a (Obj.mapSeq λ_=>#[])).push (seqObj "tuple" vs.toArray 0)).push (seqObj "list" #[] 0))) (xs0:=vs.toArray.zip vs.toArray) (s:={ s with heap:=((s.heap.update a (Obj.mapSeq λ_=>#[])).push (seqObj "tuple" vs.toArray 0)).push (seqObj "list" #[] 0) }) (Q:=λ_ st'=>SB (tuples' true) (vs.toArray.zip vs.toArray) st') DF (λk p hp=>?_) ⟨Array.Perm.refl _,rfl,rfl⟩ rfl λst' B=>B) ?_ λ_ _ e=>e);{have m:p∈(vs.toArray.zip vs.toArray).toList:=VZ (by rw[Xc];exact hp);rw[Array.toList_zip]at m;exact hv6 _ (Yj m).1};rintro⟨⟨⟩,st'⟩s'⟨rfl,B⟩;dsimp only;refine V0 (seqEpoch_at g6 rfl (?_:_));have o1:=out _ B.perm;have l1:=o1.length_eq;rw[X6]at l1;refine V0 (listUpdate_at g6 rfl (?_:_) (by simp) (Vx (YF l1) (by lia)));rw[B.ok];simp only[bne_self_eq_false,YK,Ww];refine V6 (?_:_);exact h _ o1
end
end TS
namespace L2
open PySem PySem.Spec PyProof.Rows
def EY(p:us.Perm its):∀{ys:List V},Vals ys its->∃zs,zs.Perm ys/\Vals zs us:=by
 induction p with
 |nil=>exact λ{ys} r=>⟨ys,List.Perm.refl _,r⟩
 |cons x _ ih=>
  intro ys r;cases r with
  |cons h r=>obtain⟨zs,p1,r1⟩:=ih r;exact⟨_::zs,p1.cons _,.cons h r1⟩
 |swap x y l=>
  intro ys r;cases r with
  |cons h r=>
   cases r with
   |cons h2 r=>exact⟨_::_::_,List.Perm.swap _ _ _,.cons h2 (.cons h r)⟩
 |trans _ _ ih1 ih2=>intro ys r;obtain⟨zs,p1,r1⟩:=ih2 r;obtain⟨ws,p2,r2⟩:=ih1 r1;exact⟨ws,p2.trans p1,r2⟩
section
variable{X:Cx}
inductive Bj(K:Zx)(xs:List V)(H:Hp)(Q:VK):Prop
 |mk:∀(a:Addr)(ys:List V),(xs=[.ref a])->(bF K H a ys)->((∀y∈ys,∃(b:Addr) (i j:Int),y=.ref b/\bO K H b [.int i,.int j]))->(ys.length<=1000)->(∀(zs:List V)(p:Addr),zs.Perm ys->H p=none->Q (.ref p) (upd H p (.lst zs)))->Bj K xs H Q
def GP (K:Zx):List V->Hp->VK->Prop:=λxs H Q=>Bj K xs H Q
def yQ:b5 X (.builtin "sorted") (GP X.K):=by
 intro pins s U H xs us Q I r h;obtain⟨a,ys,rfl,hq,tu,few,q⟩:=h;obtain⟨u,rfl,ru⟩:=r.one;cases ru;obtain⟨its,rv,p,_⟩:=I.list hq;have hlen:its.length=ys.length:=rv.length.symm;have hv:∀v∈its,TS.IsPair s.heap v:=λv m=>by
  obtain⟨i,hi⟩:=Wz m;have go:∀{ys:List V}{its:A02},Vals ys its->∀(i:Nat)(u:Value),its[i]?=some u->∃x,ys[i]?=some x/\RelV x u:=λ{ys its} r=>by
   induction r with
   |nil=>exact λi u h=>(nomatch h)
   |cons h _ ih=>
    intro i u e;cases i with
    |zero=>cases e;exact⟨_,rfl,h⟩
    |succ i=>exact ih i u e
  obtain⟨x,hx,rx⟩:=go rv i v hi;obtain⟨b,i1,j1,rfl,sb⟩:=tu x (VZ hx);cases rx;obtain⟨its2,r2,⟨o2,e2,c2,n2,d2⟩,_⟩:=I.tuple sb;cases r2 with
  |cons ra r3=>
   cases r3 with
   |cons rb r4=>cases r4;obtain⟨t,rfl⟩:=ra;obtain⟨u,rfl⟩:=rb;exact⟨b,o2,i1,j1,t,u,n2,rfl,e2,c2,d2⟩
 have line:(1000:Nat)<=sizeLine:=by decide
 refine Calls.call_function_entry kind_sorted plain_sorted entry_sorted (args_sorted1 _) (?_:_);unfold Builtin.«sorted»;refine V0 (m:=checkCount "sorted" 1 1 _) (V6 (?_:_));refine V0 (collect_list p.isList (?_:_) (by lia));refine V0 (wpAny_newList (?_:_) (by lia));have sz:((s.heap.push (seqObj "list" #[] 0)).update s.heap.objs.size (Obj.mapSeq (·++its.toArray))).objs.size=s.heap.objs.size+1:=by rw[Heap.size_update];exact size_push' _ _
 have g0:(((s.heap.push (seqObj "list" #[] 0)).update s.heap.objs.size (Obj.mapSeq (·++its.toArray))).push (seqObj "list" its.toArray 0)).get? (s.heap.objs.size+1)=some (seqObj "list" its.toArray 0):=by rw[<-sz];exact W8 _ rfl
 have old:∀b o,s.heap.get? b=some o->(((s.heap.push (seqObj "list" #[] 0)).update s.heap.objs.size (Obj.mapSeq (·++its.toArray))).push (seqObj "list" its.toArray 0)).get? b=some o:=λb o e=>VW _ ((Wc _ _ (Xl (VC e))).trans (VW _ e));refine id (?_:wpAny _ _ _ _ _ { s with heap:=((s.heap.push (seqObj "list" #[] 0)).update s.heap.objs.size (Obj.mapSeq (·++its.toArray))).push (seqObj "list" its.toArray 0) });rw[sz];have hv2:∀v∈its,TS.IsPair (((s.heap.push (seqObj "list" #[] 0)).update s.heap.objs.size (Obj.mapSeq (·++its.toArray))).push (seqObj "list" its.toArray 0)) v:=λv m=>by obtain⟨b,o,i,j,t,u,n,e,ho,r⟩:=hv v m;exact⟨b,o,i,j,t,u,n,e,old b o ho,r⟩
 refine V0 (Wb (X8 slot_list_sort ⟨_,g0,rfl⟩ entry_list_sort (TS.Dl g0 hv2 (by lia) λout pm=>⟨_,rfl,(?_:_)⟩) (args_list_sort _)));obtain⟨n,hn⟩:=sortedHeap_at (vs:=its) (out:=out) g0;obtain⟨zs,pz,rz⟩:=EY pm rv;have new:s.heap.get? (s.heap.objs.size+1)=none:=ZF (Nat.le_succ _);have I2:=I.J1 (a:=s.heap.objs.size+1) (o:=.lst zs) (t':=s.toks) (h':=sortedHeap (((s.heap.push (seqObj "list" #[] 0)).update s.heap.objs.size (Obj.mapSeq (·++its.toArray))).push (seqObj "list" its.toArray 0)) (s.heap.objs.size+1) its out) (λb o hb=>by
   have lt:=VC hb;rw[sortedHeap_old (VQ (YL lt)) (by rw[size_push',sz];exact YL (YL lt))]
   exact old b o hb) new
  ⟨by rw[pz.length_eq];lia,out.toList,n,rz,by simpa using hn⟩
 exact V6 ⟨_,rfl,.ref (s.heap.objs.size+1),_,I2,rfl,q zs _ pz (I.kG new)⟩
end
noncomputable def NQ (K:Zx)(a:Addr):It:=
 ⟨λi H=>∃xs x,bF K H a xs/\xs[i]?=some x,λi H v H'=>∃T,H T=none/\v=.ref T/\∀xs,bF K H a xs->∃x,xs[i]?=some x/\H'=upd H T (.tup [.int i,x]),λi H=>∃xs,bF K H a xs/\xs.length<=i⟩
def E9{P:Program}{w:World}{K:Zx}{elts:A05}{x1:Nat}{pos:Pos}(a e it:Addr)(hne:e≠it) : Turn P w K (.Tuple elts x1 pos) (NQ K a) [e,it] e (λi h=>(∃old,IsEnum h e it i old)/\h.IsListIter it a i) where
 mem:=by simp
 obj:=λi h st b hb=>by
  obtain⟨⟨old,he⟩,o,e1,c,d⟩:=st;rcases VB.mp hb with z|z
  .subst z;exact⟨_,he,λv q=>by cases q⟩
  .have z:b=it:=by simpa using z
   subst z;exact⟨o,e1,λv q=>by rw[d]at q;cases q⟩
 keep:=λi h h' st k=>by
  obtain⟨⟨old,he⟩,li⟩:=st;exact⟨⟨old,k e (by simp) _ he⟩,li.at λo q=>k it (by simp) o q⟩
 item:=by
  intro X hP hw hK hc i pins s U H E I hf st hg;subst hP hw hK;obtain⟨xs,x,hq,hx⟩:=hg;obtain⟨its,rv,p,hz⟩:=I.list hq;obtain⟨u,hu,ru⟩:=rv.get hx;obtain⟨⟨old,he⟩,hit⟩:=st;have fe:=hf e (by simp)
  have fi:=hf it (by simp)
  refine wpAny_pyNext_enum_item he hit p.isList (x:=u) (by simpa using hu) hne λh1 heo hit1 ht1 hz1 hk1=>⟨_,rfl,?_⟩
  refine wpAny_letOwnedTupleGo_enum heo λh2 he2 hs2=>?_
  have elt:e<s.heap.objs.size:=VC he;have ht2:h2.get? s.heap.objs.size=some { cls:=.type "tuple",data:=.seq #[.int i s.toks,u] }:=(hs2.2 _ (Xl elt)).trans ht1;have hfr:H s.heap.objs.size=none:=I.hok.fresh (V5 _);have k2:∀b o,b≠e->b≠it->s.heap.get? b=some o->h2.get? b=some o:=λb o b1 b2 q=>hs2.extBut b o b1 (hk1 b o b1 b2 q)
  have neT:∀b o,H b=some o->b≠s.heap.objs.size:=λb o q z=>by rw[z,hfr]at q;cases q
  have neS:∀b o,s.heap.get? b=some o->b≠s.heap.objs.size:=λb o q=>VQ (VC q)
  have nt:∀b o,H b=some o->b≠e/\b≠it:=λb o q=>⟨(λz=>by rw[z,fe.1]at q;cases q),(λz=>by rw[z,fi.1]at q;cases q)⟩
  have nin:∀b,b∉[e,it]->b≠e/\b≠it:=λb hb=>⟨λz=>hb (by simp[z]),λz=>hb (by simp[z])⟩
  have I2:Inv X pins U (upd H s.heap.objs.size (.tup [.int i,x])) { s with heap:=h2,toks:=s.toks+1 }:=by
   refine I.step (g':=s.gens) (d':=s.drawn) (ch:=[e,it]) (λb hb=>?_) (λb o _ _ hc' q _=>k2 b o (nin b hc').1 (nin b hc').2 q) (λb o _ _ hc' q _=>⟨o.slots,k2 b o (nin b hc').1 (nin b hc').2 q⟩)
    (λb o _ q n=>by rw[aj (neS b o q)];exact n) (λb o hc' q=>⟨o,k2 b o (nin b hc').1 (nin b hc').2 q⟩) (λb ys q=>by rw[aj (neT b _ q)];exact q) (λb o v q=>by rw[aj (neT b _ q)];exact q)
    (λb ps q=>⟨#[],by rw[aj (neT b _ q),q];simp⟩) (λm hm=>?_) (λb o q=>?_) I.bare
   .rcases VB.mp hb with z|z
    .subst z;exact⟨fe.2.2.2.1,fe.2.1,fe.2.2.2.2.1,fe.2.2.2.2.2⟩
    .have z:b=it:=by simpa using z
     subst z;exact⟨fi.2.2.2.1,fi.2.1,fi.2.2.2.2.1,fi.2.2.2.2.2⟩
   .obtain⟨o,es,ep,ho,r⟩:=hm;exact⟨o,es,ep,k2 _ o (Ne.symm fe.2.1) (Ne.symm fi.2.1) ho,r⟩
   .by_cases z:b=s.heap.objs.size
    .subst z;rw[aq]at q;cases q;exact⟨(by show 2<=sizeLine;decide),[.int i s.toks,u],.cons ⟨_,rfl⟩ (.cons ru .nil),_,ht2,rfl,_,rfl⟩
    .rw[aj z]at q;refine(I.hok b o q).stay (λc v hc' r=>k2 c v ?_ ?_ r) (λc r=>by rw[aj (neT c _ r)];exact r) λc ys r=>by rw[aj (neT c _ r)];exact r
     .rcases hc' with y|y
      .rw[y];exact(nt b o q).1
      .exact(nt c _ y).1
     .rcases hc' with y|y
      .rw[y];exact(nt b o q).2
      .exact(nt c _ y).2
  refine⟨.ref s.heap.objs.size,_,I2,rfl,⟨s.heap.objs.size,hfr,rfl,λys hy=>⟨x,by rw[I.n6 hy hq];exact hx,rfl⟩⟩,⟨⟨_,he2⟩,?_⟩,λb hb=>?_⟩
  .exact hit1.at λo q=>hs2.extBut it o (Ne.symm hne) q
  .rcases VB.mp hb with z|z
   .subst z;rw[aj (VQ elt)];exact fe.1
   .have z:b=it:=by simpa using z
    subst z;obtain⟨o,q,_⟩:=id hit;rw[aj (VQ (VC q))];exact fi.1
 done:=by
  intro X hP hw hK hc i pins s U H E I hf st hg;subst hP hw hK;obtain⟨xs,hq,hx⟩:=hg;obtain⟨its,rv,p,hz⟩:=I.list hq;obtain⟨⟨old,he⟩,hit⟩:=st;obtain⟨f0,f1,f2,f3,f4,f5⟩:=hf it (by simp)
  have hl:=rv.length;exact wpAny_pyNext_enum_end (I.ok.hd hc) he hit p.isList (by simp;lia) λh' eb=>⟨rfl,I.turned (t':=s.toks) (λb o hb q=>eb b o hb q) f0 f1 f3 f4 f5⟩
 self:=λ_ _ _ _ _ st h=>by
  obtain⟨⟨old,he⟩,_⟩:=st;exact wpAny_pyIter_enum he h
section
variable{X:Cx}
inductive Hr(K:Zx)(R:(It->Hp->Prop))(vs:List V)(H1:Hp):Prop
 |mk:∀a,(vs=[.ref a])->((∃xs,bF K H1 a xs))->(R (NQ K a) H1)->Hr K R vs H1
def RY (K:Zx)(ta:TA):TI:=λU H R=>ta U H λvs H1=>Hr K R vs H1
def MG{elts:A05}{x1:Nat}{tp p pos:Pos}{e:Expr}{ta:TA}(hg:Gl X "enumerate")(hm:X.mg "enumerate"=none)(ha:PA X [e] ta)(hs:starEach [e] X.env=[(false,eval e X.env)]:=by rfl) : PI X (.Tuple elts x1 tp) (.Call (.Name "enumerate" p) [e] [] pos) (RY X.K ta):=by
 intro pins s U H R I h;refine Call_ (jP I hg hm boot_enumerate (Xm (aM (ha pos pins s U H _ I h) λus s1 ⟨vs,H1,I1,r1,q1⟩=>?_) hs rfl));obtain⟨a,ev,⟨xs,hq⟩,q⟩:=q1;subst ev;obtain⟨u,rfl,ru⟩:=r1.one;cases ru;obtain⟨its,rv,pl,hz⟩:=I1.list hq;refine call_enumerate_list pl.isList λh' he hit hsz hk=>?_;refine wpAny_pyIter_enum he ?_;have I2:Inv X pins U H1 { s1 with heap:=h' }:=I1.kept (t':=s1.toks) hk;refine⟨s1.heap.objs.size+1,[s1.heap.objs.size+1,s1.heap.objs.size],_,_,H1,rfl,I2,E9 a _ _ (Nat.succ_ne_self _),⟨⟨_,he⟩,hit⟩,λb hb=>?_,q⟩;have hb:s1.heap.objs.size<=b:=by
  rcases VB.mp hb with z|z;{rw[z];exact Nat.le_succ _};have z:b=s1.heap.objs.size:=by simpa using z
  rw[z];exact V5 _
 exact I1.vK hb (I1.hok.fresh hb)
end
section
variable{prog:Program}{w:World}{A:Around}{R:Result->Shared->Prop}{s:Shared}
abbrev pG (prog:Program)(w:World)(A:Around)(env:Env)(R:Result->Shared->Prop):Zp:=notedBy (model prog w) A env λe s'=>R (.error e) s'
end
noncomputable def Oq (K:Zx)(a b:Addr):It:=
 ⟨λi H=>∃xs ys x y,bF K H a xs/\bF K H b ys/\xs[i]?=some x/\ys[i]?=some y,λi H v H'=>∃T,H T=none/\v=.ref T/\∀xs ys,bF K H a xs->bF K H b ys->∃x y,xs[i]?=some x/\ys[i]?=some y/\H'=upd H T (.tup [x,y]),
  λi H=>∃xs ys,bF K H a xs/\bF K H b ys/\(xs.length<=i\/ys.length<=i)⟩
def Ig{P:Program}{w:World}{K:Zx}{elts:A05}{x1:Nat}{pos:Pos}(a b z TI TO i1 i2:Addr)(D:PySem.ZipApart z TI TO i1 i2 a b) : Turn P w K (.Tuple elts x1 pos) (Oq K a b) [z,TI,TO,i1,i2] z (λi h=>PySem.IsZip h z TI TO .none/\PySem.IsPair h TI (.ref i1) (.ref i2)/\(∃u v,PySem.IsPair h TO u v)/\h.IsListIter i1 a i/\h.IsListIter i2 b i) where
 mem:=by simp
 obj:=λi h st c hc=>by
  obtain⟨h1,h2,⟨u,v,h3⟩,h4,h5⟩:=st;simp only[VB,W0,Wo]at hc;rcases hc with rfl|rfl|rfl|rfl|rfl
  .exact⟨_,h1,λv q=>by cases q⟩
  .exact⟨_,h2,λv q=>by cases q⟩
  .exact⟨_,h3,λv q=>by cases q⟩
  .obtain⟨o,e1,_,d⟩:=h4;exact⟨o,e1,λv q=>by rw[d]at q;cases q⟩
  .obtain⟨o,e1,_,d⟩:=h5;exact⟨o,e1,λv q=>by rw[d]at q;cases q⟩
 keep:=λi h h' st k=>by
  obtain⟨h1,h2,⟨u,v,h3⟩,h4,h5⟩:=st;exact⟨k z (by simp) _ h1,k TI (by simp) _ h2,⟨u,v,k TO (by simp) _ h3⟩,h4.at λo q=>k i1 (by simp) o q,h5.at λo q=>k i2 (by simp) o q⟩
 item:=by
  intro X hP hw hK hc i pins s U H E I hf st hg;subst hP hw hK;obtain⟨xs,ys,x,y,hq,hq2,hx,hy⟩:=hg;obtain⟨its,rv,p,_⟩:=I.list hq;obtain⟨its2,rv2,p2,_⟩:=I.list hq2;obtain⟨u,hu,ru⟩:=rv.get hx;obtain⟨u2,hu2,ru2⟩:=rv2.get hy;obtain⟨h1,h2,⟨ua,ub,h3⟩,h4,h5⟩:=st;have fz:=hf z (by simp)
  have fI:=hf TI (by simp)
  have fO:=hf TO (by simp)
  have f1:=hf i1 (by simp)
  have f2:=hf i2 (by simp)
  refine PySem.wpAny_pyNext_zip_item D h1 h2 h3 h4 h5 p.isList p2.isList (x:=u) (y:=u2) (by simpa using hu) (by simpa using hu2) λhA a1 a2 a3 a4 a5 a6 a7=>⟨_,rfl,?_⟩
  refine PySem.wpAny_letOwnedTupleGo_zip a1 λhB b1 hs=>?_
  have zlt:z<s.heap.objs.size:=VC h1;have ht2:hB.get? s.heap.objs.size=some { cls:=.type "tuple",data:=.seq #[u,u2] }:=(hs.2 _ (Xl zlt)).trans a5;have hfr:H s.heap.objs.size=none:=I.hok.fresh (V5 _);have k2:∀c o,c≠z->c≠TO->c≠i1->c≠i2->s.heap.get? c=some o->hB.get? c=some o:=λc o c1 c2 c3 c4 q=>hs.extBut c o c1 (a7 c o c1 c2 c3 c4 q)
  have neT:∀c o,H c=some o->c≠s.heap.objs.size:=λc o q z=>by rw[z,hfr]at q;cases q
  have neS:∀c o,s.heap.get? c=some o->c≠s.heap.objs.size:=λc o q=>VQ (VC q)
  have nt:∀c o,H c=some o->c≠z/\c≠TO/\c≠i1/\c≠i2:=λc o q=>⟨(λe=>by rw[e,fz.1]at q;cases q),(λe=>by rw[e,fO.1]at q;cases q),(λe=>by rw[e,f1.1]at q;cases q),(λe=>by rw[e,f2.1]at q;cases q)⟩
  have nin:∀c,c∉[z,TO,i1,i2]->c≠z/\c≠TO/\c≠i1/\c≠i2:=λc hc=>⟨λe=>hc (by simp[e]),λe=>hc (by simp[e]),λe=>hc (by simp[e]),λe=>hc (by simp[e])⟩
  have kk:∀c o,(c≠z/\c≠TO/\c≠i1/\c≠i2)->s.heap.get? c=some o->hB.get? c=some o:=λc o n q=>k2 c o n.1 n.2.1 n.2.2.1 n.2.2.2 q
  have I2:Inv X pins U (upd H s.heap.objs.size (.tup [x,y])) { s with heap:=hB }:=by
   refine I.step (g':=s.gens) (d':=s.drawn) (t':=s.toks) (ch:=[z,TO,i1,i2]) (λc hc=>?_) (λc o _ _ hc' q _=>kk c o (nin c hc') q) (λc o _ _ hc' q _=>⟨o.slots,kk c o (nin c hc') q⟩)
    (λc o _ q n=>by rw[aj (neS c o q)];exact n) (λc o hc' q=>⟨o,kk c o (nin c hc') q⟩) (λc ys q=>by rw[aj (neT c _ q)];exact q) (λc o v q=>by rw[aj (neT c _ q)];exact q)
    (λc ps q=>⟨#[],by rw[aj (neT c _ q),q];simp⟩) (λm hm=>?_) (λc o q=>?_) I.bare
   .simp only[VB,W0,Wo]at hc;rcases hc with rfl|rfl|rfl|rfl
    .exact⟨fz.2.2.2.1,fz.2.1,fz.2.2.2.2.1,fz.2.2.2.2.2⟩
    .exact⟨fO.2.2.2.1,fO.2.1,fO.2.2.2.2.1,fO.2.2.2.2.2⟩
    .exact⟨f1.2.2.2.1,f1.2.1,f1.2.2.2.2.1,f1.2.2.2.2.2⟩
    .exact⟨f2.2.2.2.1,f2.2.1,f2.2.2.2.2.1,f2.2.2.2.2.2⟩
   .obtain⟨o,es,ep,ho,r⟩:=hm;exact⟨o,es,ep,kk _ o ⟨Ne.symm fz.2.1,Ne.symm fO.2.1,Ne.symm f1.2.1,Ne.symm f2.2.1⟩ ho,r⟩
   .by_cases e:c=s.heap.objs.size
    .subst e;rw[aq]at q;cases q;exact⟨(by show 2<=sizeLine;decide),[u,u2],.cons ru (.cons ru2 .nil),_,ht2,rfl,_,rfl⟩
    .rw[aj e]at q;refine(I.hok c o q).stay (λd v hd r=>kk d v ?_ r) (λd r=>by rw[aj (neT d _ r)];exact r) λd ys r=>by rw[aj (neT d _ r)];exact r
     rcases hd with y|y
     .rw[y];exact nt c o q
     .exact nt d _ y
  refine⟨.ref s.heap.objs.size,_,I2,rfl,⟨s.heap.objs.size,hfr,rfl,λxs2 ys2 hx2 hy2=>⟨x,y,by rw[I.n6 hx2 hq];exact hx,by rw[I.n6 hy2 hq2];exact hy,rfl⟩⟩,⟨b1,?_,⟨_,_,hs.extBut _ _ D.TOz a2⟩,a3.at λo q=>hs.extBut _ _ D.i1z q,a4.at λo q=>hs.extBut _ _ D.i2z q⟩,λc hc=>?_⟩
  .exact k2 _ _ D.TIz D.TITO D.TIi1 D.TIi2 h2
  .have old:∀c,(∃o,s.heap.get? c=some o)->H c=none->upd H s.heap.objs.size (.tup [x,y]) c=none:=λc ⟨o,q⟩ hn=>by rw[aj (neS c o q)];exact hn
   simp only[VB,W0,Wo]at hc;rcases hc with rfl|rfl|rfl|rfl|rfl
   .exact old _ ⟨_,h1⟩ fz.1
   .exact old _ ⟨_,h2⟩ fI.1
   .exact old _ ⟨_,h3⟩ fO.1
   .obtain⟨o,q,_⟩:=id h4;exact old _ ⟨o,q⟩ f1.1
   .obtain⟨o,q,_⟩:=id h5;exact old _ ⟨o,q⟩ f2.1
 done:=by
  intro X hP hw hK hc i pins s U H E I hf st hg;subst hP hw hK;obtain⟨xs,ys,hq,hq2,hx⟩:=hg;obtain⟨its,rv,p,_⟩:=I.list hq;obtain⟨its2,rv2,p2,_⟩:=I.list hq2;obtain⟨h1,h2,⟨ua,ub,h3⟩,h4,h5⟩:=st;have hl:=rv.length;have hl2:=rv2.length;have fz:=hf z (by simp)
  have fO:=hf TO (by simp)
  have f1:=hf i1 (by simp)
  have f2:=hf i2 (by simp)
  refine PySem.wpAny_pyNext_zip_end (I.ok.hd hc) D h1 h2 h3 h4 h5 p.isList p2.isList (hx.imp (λe=>by simp;lia) (λe=>by simp;lia)) λhA k=>⟨rfl,?_⟩
  have nin:∀c,c∉[z,TO,i1,i2]->c≠z/\c≠TO/\c≠i1/\c≠i2:=λc hc=>⟨λe=>hc (by simp[e]),λe=>hc (by simp[e]),λe=>hc (by simp[e]),λe=>hc (by simp[e])⟩
  have kk:∀c o,(c≠z/\c≠TO/\c≠i1/\c≠i2)->s.heap.get? c=some o->hA.get? c=some o:=λc o n q=>k c o n.1 n.2.1 n.2.2.1 n.2.2.2 q
  have nt:∀c o,H c=some o->c≠z/\c≠TO/\c≠i1/\c≠i2:=λc o q=>⟨(λe=>by rw[e,fz.1]at q;cases q),(λe=>by rw[e,fO.1]at q;cases q),(λe=>by rw[e,f1.1]at q;cases q),(λe=>by rw[e,f2.1]at q;cases q)⟩
  refine I.step (g':=s.gens) (d':=s.drawn) (t':=s.toks) (ch:=[z,TO,i1,i2]) (λc hc=>?_) (λc o _ _ hc' q _=>kk c o (nin c hc') q) (λc o _ _ hc' q _=>⟨o.slots,kk c o (nin c hc') q⟩)
   (λc o _ q n=>n) (λc o hc' q=>⟨o,kk c o (nin c hc') q⟩) (λc ys q=>q) (λc o v q=>q) (λc ps q=>⟨#[],by rw[q];simp⟩) (λm hm=>?_) (λc o q=>?_) I.bare
  .simp only[VB,W0,Wo]at hc;rcases hc with rfl|rfl|rfl|rfl
   .exact⟨fz.2.2.2.1,fz.2.1,fz.2.2.2.2.1,fz.2.2.2.2.2⟩
   .exact⟨fO.2.2.2.1,fO.2.1,fO.2.2.2.2.1,fO.2.2.2.2.2⟩
   .exact⟨f1.2.2.2.1,f1.2.1,f1.2.2.2.2.1,f1.2.2.2.2.2⟩
   .exact⟨f2.2.2.2.1,f2.2.1,f2.2.2.2.2.1,f2.2.2.2.2.2⟩
  .obtain⟨o,es,ep,ho,r⟩:=hm;exact⟨o,es,ep,kk _ o ⟨Ne.symm fz.2.1,Ne.symm fO.2.1,Ne.symm f1.2.1,Ne.symm f2.2.1⟩ ho,r⟩
  .refine(I.hok c o q).stay (λd v hd r=>kk d v ?_ r) (λd r=>r) λd ys r=>r
   rcases hd with y|y
   .rw[y];exact nt c o q
   .exact nt d _ y
 self:=λ_ _ _ _ _ st h=>PySem.wpAny_pyIter_zip st.1 h
section
variable{X:Cx}
inductive JY(K:Zx)(R:(It->Hp->Prop))(vs:List V)(H1:Hp):Prop
 |mk:∀a b,(vs=[.ref a,.ref b])->((∃xs,bF K H1 a xs))->((∃ys,bF K H1 b ys))->(R (Oq K a b) H1)->JY K R vs H1
def Du (K:Zx)(ta:TA):TI:=λU H R=>ta U H λvs H1=>JY K R vs H1
def O9{x1:Nat}(hg:Gl X "zip")(hm:X.mg "zip"=none)(ha:PA X [e1,e2] ta)(hs:starEach [e1,e2] X.env=[(false,eval e1 X.env),(false,eval e2 X.env)]:=by rfl)(hs2:starEach [e2] X.env=[(false,eval e2 X.env)]:=by rfl) : PI X (.Tuple elts x1 tp) (.Call (.Name "zip" p) [e1,e2] [] pos) (Du X.K ta):=by
 intro pins s U H R I h;refine Call_ (jP I hg hm PyProof.Rows.boot_zip (Xm (aM (ha pos pins s U H _ I h) λus s1 ⟨vs,H1,I1,r1,q1⟩=>?_) (by rw[hs,hs2]) (by rw[hs2];rfl)));obtain⟨a,b,ev,⟨xs,hq⟩,⟨ys,hq2⟩,q⟩:=q1;subst ev;obtain⟨u1,u2,rfl,ru1,ru2⟩:=r1.two;cases ru1;cases ru2;obtain⟨its,rv,pl,_⟩:=I1.list hq;obtain⟨its2,rv2,pl2,_⟩:=I1.list hq2;have la:a<s1.heap.objs.size:=by obtain⟨o,ho,_⟩:=pl.isList;exact VC ho
 have lb:b<s1.heap.objs.size:=by obtain⟨o,ho,_⟩:=pl2.isList;exact VC ho
 refine PySem.call_zip_2 pl.isList pl2.isList λh' hz h2 h3 h4 h5 hsz hk=>?_;refine PySem.wpAny_pyIter_zip hz ?_;have I2:Inv X pins U H1 { s1 with heap:=h' }:=I1.kept (t':=s1.toks) hk;have ga:∀k:Nat,a≠s1.heap.objs.size+k:=λk=>VQ (Vv la (Xd _ _));have gb:∀k:Nat,b≠s1.heap.objs.size+k:=λk=>VQ (Vv lb (Xd _ _));have D:PySem.ZipApart (s1.heap.objs.size+4) (s1.heap.objs.size+2) (s1.heap.objs.size+3) s1.heap.objs.size (s1.heap.objs.size+1) a b:=by constructor<;>first|exact ga 4|exact ga 3|exact ga 1|exact ga 0|exact gb 4|exact gb 3|exact gb 1|exact gb 0|exact VQ (by lia)|exact Xl (by lia)
 refine⟨s1.heap.objs.size+4,[s1.heap.objs.size+4,s1.heap.objs.size+2,s1.heap.objs.size+3,s1.heap.objs.size,s1.heap.objs.size+1],_,_,H1,rfl,I2,Ig a b _ _ _ _ _ D,⟨hz,h2,⟨_,_,h3⟩,h4,h5⟩,λc hc=>?_,q⟩;have hb:s1.heap.objs.size<=c:=by simp only[VB,W0,Wo]at hc;rcases hc with rfl|rfl|rfl|rfl|rfl;{exact Xd _ _};{exact Xd _ _};{exact Xd _ _};{exact V5 _};exact Xd _ _
 exact I1.vK hb (I1.hok.fresh hb)
theorem nN:∀{ns:A08}{us:A02},Vals (ns.map V.int) us->∃ps:List (Int×Tok),us=ps.map (λp=>Value.int p.1 p.2)/\ns=ps.map (·.1)
 |[],_,.nil=>⟨[],rfl,rfl⟩
 |n::ns,_,.cons h r=>by obtain⟨t,rfl⟩:=h;obtain⟨ps,rfl,rfl⟩:=nN r;exact⟨(n,t)::ps,rfl,rfl⟩
def Ga(hc:X.calm=true):b5 X (.builtin "max") (λxs H Q=>∃(a:Addr)(ns:A08),xs=[.ref a]/\bF X.K H a (ns.map V.int)/\ns≠[]/\∀M,M∈ns->(∀n∈ns,n<=M)->Q (.int M) H):=by
 intro pins s U H xs us Q I r h;obtain⟨a,ns,rfl,hq,ne,q⟩:=h;obtain⟨u,rfl,ru⟩:=vals1 r;cases ru;obtain⟨its,rv,p,_⟩:=I.list hq;obtain⟨ps,rfl,rfl⟩:=nN rv;have hl:s.heap.IsList a (intItems ps.toArray):=by have:=p.isList;simpa[intItems]using this
 refine max_intList (I.ok.hd hc) hl (by simpa using XG.mpr (λe=>ne (by rw[e];rfl))) λv h' tk hv hk=>?_;obtain⟨t,rfl⟩:=Xv hv;obtain⟨g1,g2⟩:=argBest_gt (numAt ps.toArray) (ps.toArray.size-1);have pos:0<ps.length:=XG.mpr λe=>ne (by rw[e];rfl);refine⟨.int _,H,I.kept (t':=tk) hk,⟨_,rfl⟩,q _ ?_ λn hn=>?_⟩;{rw[XI];exact getD_mem (by simp at g1⊢;lia)};obtain⟨j,hj,rfl⟩:=mem_getD hn;rw[V4]at hj;have e:(ps.map (·.1)).getD j 0=numAt ps.toArray j:=by rw[XI]
 rw[e];exact g2 j (by simp;lia)
end
end L2
namespace L2
open PySem PySem.Spec PyProof.Rows PySem.W
section
variable{X:Cx}
def E8:b5 X (.builtin "isinstance") (λxs H Q=>∃a C t ys b,xs=[.ref a,.ref t]/\O1 H a C/\Br X.K C/\H t=some (.tup ys)/\(∀us,Vals ys us->kitAny X.K (.ref C) us=some b)/\Q (.bl b) H):=by intro pins s U H xs us Q I r h;obtain⟨a,C,t,ys,b,rfl,e,F,ht,k,q⟩:=h;obtain⟨u1,u2,rfl,ru1,ru2⟩:=r.two;cases ru1;cases ru2;obtain⟨its,rv,p,_⟩:=I.tuple (.inl (.inl ht));obtain⟨o,ho,hc,n,hd⟩:=p;obtain⟨oc,od,odt,osl⟩:=o;dsimp only at hc hd;subst hc hd;rcases e with e|⟨d,fs,e,he⟩;{obtain⟨ox,J⟩:=I.JA e;exact kia_tup (oJ F) I.dG J ho (k _ rv) (λz=>nomatch z) λtk=>⟨.bl b,H,I.tok tk,rfl,q⟩};obtain⟨ox,od,mA,J,_,_⟩:=I.J8 e he;exact kia_tup (oJ F) I.dG J ho (k _ rv) (λz=>nomatch z) λtk=>⟨.bl b,H,I.tok tk,rfl,q⟩
def EZ(hc:X.calm=true):b5 X (.builtin "min") (λxs H Q=>∃(a:Addr)(ns:A08),xs=[.ref a]/\bF X.K H a (ns.map V.int)/\ns≠[]/\∀M,M∈ns->(∀n∈ns,M<=n)->Q (.int M) H):=by
 intro pins s U H xs us Q I r h;obtain⟨a,ns,rfl,hq,ne,q⟩:=h;obtain⟨u,rfl,ru⟩:=vals1 r;cases ru;obtain⟨its,rv,p,_⟩:=I.list hq;obtain⟨ps,rfl,rfl⟩:=nN rv;have hl:s.heap.IsList a (intItems ps.toArray):=by have:=p.isList;simpa[intItems]using this
 refine min_intList (I.ok.hd hc) hl (by simpa using XG.mpr (λe=>ne (by rw[e];rfl))) λv h' tk hv hk=>?_;obtain⟨t,rfl⟩:=Xv hv;obtain⟨g1,g2⟩:=argBest_lt (numAt ps.toArray) (ps.toArray.size-1);have pos:0<ps.length:=XG.mpr λe=>ne (by rw[e];rfl);refine⟨.int _,H,I.kept (t':=tk) hk,⟨_,rfl⟩,q _ ?_ λn hn=>?_⟩;{rw[XI];exact getD_mem (by simp at g1⊢;lia)};obtain⟨j,hj,rfl⟩:=mem_getD hn;rw[V4]at hj;have e:(ps.map (·.1)).getD j 0=numAt ps.toArray j:=by rw[XI]
 rw[e];exact g2 j (by simp;lia)
theorem rW(ns:A08):∀k,k<=ns.length->preSum (λi=>ns.getD i 0) k=(ns.take k).sum
 |0,_=>rfl
 |k+1,h=>by have ih:=rW ns k (by lia);rw[preSum,ih,XF,VP (show k<ns.length by lia),VO,VP (show k<ns.length by lia)];rw[Xw];simp
def int_at{ns:A08}{its:A02}(rv:Vals (ns.map V.int) its){i:Nat}(h:its[i]?=some v):∃t,v=.int (ns.getD i 0) t:=by
 obtain⟨x,hx,rx⟩:=vL rv i v h;rw[VE]at hx;cases e:ns[i]? with
 |none=>rw[e]at hx;cases hx
 |some b=>rw[e]at hx;cases hx;obtain⟨t,rfl⟩:=rx;exact⟨t,by rw[VO,e];rfl⟩
def Eu(hc:X.calm=true):b5 X (.builtin "sum") (λxs H Q=>∃(a:Addr)(ns:A08),xs=[.ref a]/\bF X.K H a (ns.map V.int)/\Q (.int ns.sum) H):=by
 intro pins s U H xs us Q I r h;obtain⟨a,ns,rfl,hq,q⟩:=h;obtain⟨u,rfl,ru⟩:=vals1 r;cases ru;obtain⟨its,rv,p,_⟩:=I.list hq;have hl:=p.isList;have hlt:a<s.heap.objs.size:=by obtain⟨o,ho,_⟩:=id hl;exact VC ho
 have hh:X.A.in1.handled=none:=by simp[I.ok.hd hc]
 have hn:its.toArray.size=ns.length:=by rw[VM,<-rv.length,V4]
 refine call_sum_walkAnyB (ZO hl ?_);refine⟨_,_,_,_,_,_,_,λi=>ns.getD i 0,rfl,(Walks.list hh _ a (VQ hlt) its.toArray).toS,?_,?_,?_,?_⟩;{exact⟨⟨_,W8 _ rfl,rfl,rfl⟩,hl.push _⟩};{intro b hb;show b<(s.heap.push _).objs.size;rw[Heap.size_push];rcases VB.mp hb with rfl|hb;{exact YM _};rcases VB.mp hb with rfl|hb;{exact YL hlt};cases hb}
 .intro i v hP;have hP':its[i]?=some v:=by simpa using hP
  obtain⟨t,rfl⟩:=int_at rv hP';exact .inl ⟨t,rfl⟩
 intro s' t' mv;obtain⟨h',g,d,t,os⟩:=s';obtain⟨m1,m2,m3,m4,m5⟩:=mv;dsimp only at m1 m2 m3 m4;subst m2 m3 m4;rw[hn,rW ns _ (V5 _),WU];exact⟨.int _,H,I.kept (t':=t) (old_kept m1),⟨_,rfl⟩,q⟩
end
end L2
namespace Dv
open PySem L2 PySem.W
section
variable{K:Frag}{H Hm:Hp}{P:Kd->PyData->Prop}{Q:VK}
noncomputable def bB (K:Frag)(H Hm:Hp)(P:Kd->PyData->Prop)(Q:VK):Prop:=∀k v u H' Hm' fp,P k v->ah H H'->ah Hm Hm'->ah Hm' H'->(∀a,H a≠none->OE (Hm' a) (Hm a))->Own K H' Hm' k u v fp->(∀a∈fp,H a=none/\Hm' a=none)->Q u H'
def bB.sc(q:bB K H Hm P Q)(s:ah Hm H)(p:P .sh v)(r:Rp K Hm u v):Q u H:=q _ _ _ _ _ [] p (ah.refl _) (ah.refl _) s (λ_ _=>.inl rfl) (.sh r) λ_ z=>by cases z
def gW(s:ah Hm H){p:Addr}(h:H p=none):Hm p=none:=by
 cases e:Hm p with
 |none=>rfl
 |some o=>rw[s _ _ e]at h;cases h
def bB.nl(q:bB K H Hm P Q)(s:ah Hm H){p:Addr}(pp:P (.ow false) (.list ds))(hp:H p=none)(r:av K Hm xs ds):Q (.ref p) (upd H p (.lst xs)):=
 q _ _ _ _ Hm [p] pp (aQ hp) (ah.refl _) (s.trans (aQ hp)) (λ_ _=>.inl rfl) (.ow aq r) λa ha=>by rw[V7.mp ha];exact⟨hp,gW s hp⟩
def bB.nt(q:bB K H Hm P Q)(s:ah Hm H){p:Addr}(pp:P .sh (.tuple ds))(hp:H p=none)(r:av K Hm xs ds):Q (.ref p) (upd H p (.tup xs)):=by
 have n:=gW s hp;have s2:=aQ (o:=.tup xs) n;refine q _ _ _ _ (upd Hm p (.tup xs)) [] pp (aQ hp) s2 (λb o e=>?_) (λa ha=>.inl (aj λz=>ha (z▸hp))) (.sh (.tup aq (r.mono s2))) λ_ z=>by cases z
 by_cases c:b=p;{rw[c,aq]at e⊢;exact e};rw[aj c]at e⊢;exact s _ _ e
end
def r2 (r:R2):List V->Hp->VK->Prop:=λvs H Q=>match vs with
 |[x,y]=>r x y H Q
 |_=>False
def r1 (r:V->Hp->VK->Prop):List V->Hp->VK->Prop:=λvs H Q=>match vs with
 |[x]=>r x H Q
 |_=>False
def cR(h:av K H vs [a]):∃x,vs=[x]/\Rp K H x a:=by
 cases h with
 |cons h t=>cases t;exact⟨_,rfl,h⟩
def fV(h:av K H vs [a,b]):∃x y,vs=[x,y]/\Rp K H x a/\Rp K H y b:=by
 cases h with
 |cons h t=>obtain⟨y,rfl,h2⟩:=cR t;exact⟨_,_,rfl,h,h2⟩
def bN.or(h:bN X f r)(k:bN X f s):bN X f λx y H Q=>r x y H Q\/s x y H Q:=λpins st U H x y v u Q I a b z=>z.elim (h pins st U H x y v u Q I a b) (k pins st U H x y v u Q I a b)
section
variable{X:Cx}{Ex:XK}{Y:A07}
def jS(ho:bN X (binaryOp op) r)(D:cT X.K f (r2 r))(S:aJ X Ex Y [a,b] as):SE X Ex Y (.BinOp a op b pos) (aa f as):=eV (r:=r2 r) S (λU H Q h=>WE.of (R8 ho aV aV) h) D
def Sl(ho:JR X (unaryOp op) r)(D:cT X.K f (r1 r))(S:aJ X Ex Y [a] as):SE X Ex Y (.UnaryOp op a pos) (aa f as):=eV (r:=r1 r) S (λU H Q h=>WE.of (RB ho aV) h) D
def uu(ho:bN X (compareOp op) r)(hm:behindInMarks op b=false)(D:cT X.K f (r2 r))(S:aJ X Ex Y [a,b] as):SE X Ex Y (.Compare a [op] [b] pos) (aa f as):=eV (r:=r2 r) S (λU H Q h=>WE.of (Lw ho aV aV hm) h) D
def RH(ho:pR X r)(hs:nv b)(D:cT X.K f (r2 r))(S:aJ X Ex Y [a,b] as):SE X Ex Y (.Subscript a b pos) (aa f as):=eV (r:=r2 r) S (λU H Q h=>WE.of (oR ho aV aV hs) h) D
end
def oz (g:Int->Int->PyData):DR:=λds P=>match ds with
 |[.int a,.int b]=>P .sh (g a b)
 |_=>False
def rB (C:Int->Int->Prop)(g:Int->Int->PyData):DR:=λds P=>match ds with
 |[.int a,.int b]=>C a b/\P .sh (g a b)
 |_=>False
def vO{Z:Prop}{f:Int->Int->Prop}(h:match ds with|[PyData.int a,.int b]=>f a b|_=>False)(k:∀a b,ds=[.int a,.int b]->f a b->Z):Z:=by split at h;{exact k _ _ rfl h};exact h.elim
def kX{g:Int->Int->PyData}{gv:Int->Int->V}(hg:∀a b Hm,Rp K Hm (gv a b) (g a b)):cT K (oz g) (r2 (pO gv)):=by intro H Hm vs ds P Q s r h q;refine vO h λa b e p=>?_;subst e;obtain⟨x,y,rfl,h1,h2⟩:=fV r;cases h1;cases h2;exact⟨a,b,rfl,rfl,bB.sc q s p (hg a b Hm)⟩
def mU{g:Int->Int->PyData}{gv:Int->Int->V}(hg:∀a b Hm,Rp K Hm (gv a b) (g a b)):cT K (rB C g) (r2 (rI C gv)):=by intro H Hm vs ds P Q s r h q;refine vO h λa b e p=>?_;subst e;obtain⟨x,y,rfl,h1,h2⟩:=fV r;cases h1;cases h2;exact⟨a,b,rfl,rfl,p.1,bB.sc q s p.2 (hg a b Hm)⟩
inductive Gv(K:Frag) (x:V) (y:V)(H:Hp)(Q:VK):Prop
 |mk:∀l b xs zs,(x=.ref l)->(y=.ref b)->(bX K H l xs)->(bX K H b zs)->(xs.length+zs.length<=sizeLine)->(∀p,H p=none->Q (.ref p) (upd H p (.lst (xs++zs))))->Gv K x y H Q
def Kw (K:Frag):R2:=λx y H Q=>Gv K x y H Q
section
variable{X:Cx}
def Lm:bN X (binaryOp .Add) (Kw X.K):=by
 intro pins s U H x y v u Q I rx ry h;obtain⟨l,b,xs,zs,rfl,rfl,hH,hB,hz,q⟩:=h;cases rx;cases ry;obtain⟨z,its,n,r,e⟩:=hH.get I;obtain⟨z2,its2,n2,r2,e2⟩:=hB.get I;have hl:=r.length;have hl2:=r2.length;refine PySem.P.add_list e e2 ?_ (by rw[VM,VM];lia);have ea:its.toArray++its2.toArray=(its++its2).toArray:=by simp
 rw[ea];exact⟨.ref _,_,I.N8 (t':=s.toks) (r.append r2) (by rw[VH];lia),rfl,q _ I.fresh⟩
end
def To (f:PyData->Prop):A00->Prop
 |[x]=>f x
 |_=>False
def BZ (f:PyData->PyData->Prop):A00->Prop
 |[x,y]=>f x y
 |_=>False
def Tn (f:PyData->PyData->PyData->Prop):A00->Prop
 |[x,y,z]=>f x y z
 |_=>False
def zX (d:PyData)(f:Int->Prop):Prop:=match d with
 |.int i=>f i
 |_=>False
def qT(r:Rp K H x d)(h:zX d f):∃i,x=.int i/\f i:=by
 cases r with
 |int i=>exact⟨i,rfl,h⟩
 |_=>exact h.elim
def Qy(r:av K H vs ds)(h:To f ds):∃x d,vs=[x]/\ds=[d]/\Rp K H x d/\f d:=by
 cases r with
 |nil=>exact h.elim
 |cons h1 r=>
  cases r with
  |nil=>exact⟨_,_,rfl,rfl,h1,h⟩
  |cons=>exact h.elim
def qh(r:av K H vs ds)(h:BZ f ds):∃x y d e,vs=[x,y]/\ds=[d,e]/\Rp K H x d/\Rp K H y e/\f d e:=by
 cases r with
 |nil=>exact h.elim
 |cons h1 r=>
  cases r with
  |nil=>exact h.elim
  |cons h2 r=>
   cases r with
   |nil=>exact⟨_,_,_,_,rfl,rfl,h1,h2,h⟩
   |cons=>exact h.elim
def P1(r:av K H vs ds)(h:Tn f ds):∃x y z d e d',vs=[x,y,z]/\ds=[d,e,d']/\Rp K H x d/\Rp K H y e/\Rp K H z d'/\f d e d':=by
 cases r with
 |nil=>exact h.elim
 |cons h1 r=>
  cases r with
  |nil=>exact h.elim
  |cons h2 r=>
   cases r with
   |nil=>exact h.elim
   |cons h3 r=>
    cases r with
    |nil=>exact⟨_,_,_,_,_,_,rfl,rfl,h1,h2,h3,h⟩
    |cons=>exact h.elim
noncomputable def cF:DR:=λds P=>BZ (λx y=>match x,y with
 |.int a,.int b=>P .sh (.int (a+b))
 |.list a,.list b=>a.length+b.length<=sizeLine/\P (.ow false) (.list (a++b))
 |.tuple a,.tuple b=>(a≠[]/\a.length+b.length<=sizeLine)/\P .sh (.tuple (a++b))
 |.str a,.str b=>a.length+b.length<=sizeLine/\P .sh (.str (a++b))
 |_,_=>False) ds
def Kv (K:Frag):R2:=λx y H Q=>(((pO λi j=>.int (i+j)) x y H Q\/Kw K x y H Q)\/Ks K x y H Q)\/∃i j,x=.str i/\y=.str j/\i.length+j.length<=sizeLine/\Q (.str (i++j)) H
def Mb:bN X (binaryOp .Add) (Kv X.K):=((Oi.or Lm).or LH).or D7
def L5:cT K cF (r2 (Kv K)):=by
 intro H Hm vs ds P Q s r h q;obtain⟨x,y,d,e,rfl,rfl,h1,h2,h⟩:=qh r h;cases h1 with
 |int a=>
  cases h2 with
  |int b=>exact .inl (.inl (.inl ⟨_,_,rfl,rfl,bB.sc q s h (.int _)⟩))
  |_=>exact h.elim
 |lst a1 r1=>
  cases h2 with
  |lst a2 r2=>exact .inl (.inl (.inr ⟨_,_,_,_,rfl,rfl,bX.mono s a1,bX.mono s a2,by rw[r1.len,r2.len];exact h.1,λp hp=>bB.nl q s h.2 hp (r1.app r2)⟩))
  |_=>exact h.elim
 |@tup a xs ds1 a1 r1=>
  cases h2 with
  |@tup b ys ds2 a2 r2=>refine .inl (.inr ⟨_,_,_,_,rfl,rfl,bO.of (s _ _ a1),bO.of (s _ _ a2),λz=>h.1.1 ?_,by rw[r1.len,r2.len];exact h.1.2,λz=>?_,λ_ p hp=>bB.nt q s h.2 hp (r1.app r2)⟩);{subst z;cases r1;rfl};subst z;cases r2;have h:P .sh (.tuple (ds1++[])):=h.2;rw[W9]at h;exact bB.sc q s h (.tup a1 r1)
  |_=>exact h.elim
 |str a=>
  cases h2 with
  |str b=>exact .inr ⟨_,_,rfl,rfl,h.1,bB.sc q s h.2 (.str _)⟩
  |_=>exact h.elim
 |_=>exact h.elim
inductive HB(K:Frag) (x:V) (y:V)(H:Hp)(Q:VK):Prop
 |mk:∀l k xs,(x=.ref l)->(y=.int k)->(bX K H l xs)->(-(2^63)<=k)->(k<2^63)->(xs.length*k.toNat<=sizeLine)->(∀p,H p=none->Q (.ref p) (upd H p (.lst (List.replicate k.toNat xs).flatten)))->HB K x y H Q
def JX (K:Frag):R2:=λx y H Q=>HB K x y H Q
section
variable{X:Cx}
open PyProof.Rows in
def Mm:bN X (binaryOp .Mult) (JX X.K):=by
 intro pins s U H x y v u Q I rx ry h;obtain⟨l,k,xs,rfl,rfl,hH,h1,h2,hz,q⟩:=h;cases rx;obtain⟨t,rfl⟩:=ry;obtain⟨z,its,n,r,e⟩:=hH.get I;have hl:=r.length;have hlen:its.toArray.size*k.toNat<=sizeLine:=by rw[VM,<-hl];exact hz
 have hcap:¬its.toArray.size*k.toNat>(2^63-1)/8:=by
  have:(sizeLine:Nat)<=(2^63-1)/8:=by decide
  lia
 have hfit:¬(!Builtin.List.listFitsIndex k)=true:=by rw[fitsIndex_both h1 h2];exact VV
 have hlong:¬Builtin.List.listTooLong (its.toArray.size*k.toNat)=true:=by rw[nX hlen];exact VV
 have hnew:List.foldl (λx1 x2=>x1++x2) #[] (List.replicate (if its.toArray.isEmpty=true then 0 else k.toNat) its.toArray)=(List.replicate k.toNat its).flatten.toArray:=by
  have f0:∀m:Nat,List.foldl (λx1 x2=>x1++x2) #[] (List.replicate m its.toArray)=(List.replicate m its).flatten.toArray:=λm=>by have:=foldl_rep its m [];rw[XJ]at this;exact this
  rw[f0];cases its with
  |nil=>simp
  |cons a r'=>rw[if_neg (by simp)]
 refine wpAny_binaryOp_repeat_ref (T:="list") (U:="int") (by decide) ⟨_,e,rfl⟩ (λs'=>typeIs_int s' k t) noFill_list_mul F.fills_int_mul F.slot_int_rmul repeat_list F.slot_int_index.lookup
  (XD F.slot_int_rmul (typeIs_int s k t) F.entry_int_rmul (F.args_int_rmul_2 _ _) (int___rmul___int_list k t l its.toArray n)
   ⟨e,rfl,⟨_,e,rfl⟩,XD F.slot_list_mul ⟨_,e,rfl⟩ F.entry_list_mul (F.args_list_mul_2 _ _) (AutoListH.list___mul___list_int_3 l its.toArray n k t hfit hcap hlong) ⟨e,?_⟩⟩)
 rw[hnew];exact⟨.ref _,_,I.N8 (t':=s.toks) (r.rep k.toNat) (by rw[len_rep,Nat.mul_comm];exact hz),rfl,q _ I.fresh⟩
end
theorem av.rep(r:av K H xs ds):∀n:Nat,av K H (List.replicate n xs).flatten (List.replicate n ds).flatten
 |0=>.nil
 |n+1=>by rw[Wx,Wx,XW,XW];exact r.app (r.rep n)
noncomputable def eX:DR:=λds P=>match ds with
 |[.int a,.int b]=>vI a b/\P .sh (.int (a*b))
 |[.list a,.int k]=>(-(2^63)<=k/\k<2^63/\a.length*k.toNat<=sizeLine)/\P (.ow false) (.list (List.replicate k.toNat a).flatten)
 |_=>False
def Kl (K:Frag):R2:=λx y H Q=>(rI vI λi j=>.int (i*j)) x y H Q\/JX K x y H Q
def LX:bN X (binaryOp .Mult) (Kl X.K):=QE.or Mm
def LD:cT K eX (r2 (Kl K)):=by
 intro H Hm vs ds P Q s r h q;unfold eX at h;split at h;{obtain⟨x,y,rfl,h1,h2⟩:=fV r;cases h1;cases h2;exact .inl ⟨_,_,rfl,rfl,h.1,bB.sc q s h.2 (.int _)⟩}
 .obtain⟨x,y,rfl,h1,h2⟩:=fV r;cases h2;cases h1 with
  |lst a1 r1=>exact .inr ⟨_,_,_,rfl,rfl,bX.mono s a1,h.1.1,h.1.2.1,by rw[r1.len];exact h.1.2.2,λp hp=>bB.nl q s h.2 hp (r1.rep _)⟩
 exact h.elim
end Dv
namespace L2
open PySem PySem.Spec PyProof.Rows
section
variable{prog:Program}{w:World}{A:Around}{E:Zp}{s:Shared}
def xK{t sl:Addr}{items:Zz}{vl vu:Value}{lo hi:Option Int}{Q:Zp}(ht:IsTup s.heap t items)(hs:s.heap.IsSliceOf sl vl vu .none)(pl:IsPart vl lo)(pu:IsPart vu hi)(w0:HT.aL items.size 0 lo=0)(w1:HT.aL items.size items.size hi=items.size)(h:Q (.ref t) s):wpAny (model prog w) A (getItem (.ref t) (.ref sl)) Q E s:=by
 obtain⟨os,hos,hcs,hds⟩:=id hs;have hTs:s.TypeIs (.ref sl) "slice":=⟨os,hos,hcs⟩;unfold getItem;refine Wb (?_:_);refine V0 (wpAny_sequenceKey ht.typeIs (by decide) (?_:_));refine V0 (Ym (name:=Str.ofString "__getitem__") ht.typeIs Yn
  (X8 Yn ht.typeIs entry_tuple_getitem (?_:_) (args_tuple_getitem _ _)))
 refine id (?_:wpAny _ _ (Builtin.Tuple.tupleItemsOf (.ref t)>>=_) _ _ s);refine V0 (tupleItemsOf_ ht (?_:_));refine V0 (YC hTs (?_:_));rw[if_pos (by decide)];refine V0 (HT.lV hs pl pu (?_:_));have yes:(((HT.aL items.size 0 lo:Nat):Int)==0&&(1:Int)==1&&(HT.aL items.size items.size hi-HT.aL items.size 0 lo)==items.size)=true:=by rw[w0,w1,Yt];simp
 refine id (?_:wpAny _ _ (if(((HT.aL items.size 0 lo:Nat):Int)==0&&(1:Int)==1&&(HT.aL items.size items.size hi-HT.aL items.size 0 lo)==items.size)=true then _ else _) _ _ s);rw[if_pos yes];refine V0 (m:=Builtin.Tuple.tupleIsExact _) (V0 (YC ht.typeIs (V6 (?_:_))));rw[if_pos (by decide)];refine V0 (Wl (?_:_));exact V6 ⟨_,rfl,V6 h⟩
end
section
variable{X:Cx}
noncomputable def JL (K:Zx):V->Option Int->Option Int->Hp->VK->Prop:=λx lo hi H Q=>∃a xs,x=.ref a/\bO K H a xs /\
 (HT.aL xs.length 0 lo=0/\HT.aL xs.length xs.length hi=xs.length->Q (.ref a) H)/\(¬(HT.aL xs.length 0 lo=0/\HT.aL xs.length xs.length hi=xs.length)->∀p,H p=none->Q (.ref p) (upd H p (.tup (oi xs lo hi))))
def Ly:GF X (JL X.K):=by
 intro pins s U H x v vl vu lo hi sl Q I rx hs pl pu h;obtain⟨a,xs,rfl,hx,q1,q2⟩:=h;by_cases c:HT.aL xs.length 0 lo=0/\HT.aL xs.length xs.length hi=xs.length
 .cases rx;obtain⟨its,r,ht,hz⟩:=I.tuple hx;have hlen:its.toArray.size=xs.length:=by rw[VM];exact r.length.symm
  refine⟨"tuple",_,Zj,ht.typeIs,?_⟩;exact xK ht hs pl pu (by rw[hlen];exact c.1) (by rw[hlen];exact c.2) ⟨.ref a,H,I,rfl,q1 c⟩
 exact Nz pins s U H (.ref a) v vl vu lo hi sl Q I rx hs pl pu ⟨a,xs,rfl,hx,c,q2 c⟩
end
end L2
namespace Dv
open PySem L2 PySem.W
def dl:Nat->PyData->Bool
 |_,.none=>true
 |_,.int _=>true
 |_,.str x=>PyData.strOk x
 |n+1,.list ds=>ds.all (dl n)
 |n+1,.tuple ds=>ds.all (dl n)
 |_,_=>false
theorem nJ:∀{ds:A00},(∀d∈ds,d.canLay0=true)->PyData.canLayAll0 ds=true
 |[],_=>rfl
 |d::ds,h=>by rw[PyData.canLayAll0,h d V3,nJ λe he=>h e (VA _ he)];rfl
theorem pY{n:Nat}:∀{ds:A00},(∀d∈ds,d.depth<=n)->PyData.depthAll ds<=n
 |[],_=>by rw[PyData.depthAll];exact W7 _
 |d::ds,h=>by rw[PyData.depthAll];exact Nat.max_le.mpr ⟨h d V3,pY λe he=>h e (VA _ he)⟩
theorem jf:∀{n:Nat}{d:PyData},dl n d=true->d.canLay0=true/\d.depth<=n
 |_,.none,_=>⟨rfl,W7 _⟩
 |_,.int _,_=>⟨rfl,W7 _⟩
 |n,.str x,h=>⟨by cases n<;>exact h,W7 _⟩
 |n+1,.list ds,h=>by have h:ds.all (dl n)=true:=h;rw[VL]at h;refine⟨by rw[PyData.canLay0];exact nJ λd hd=>(jf (h d hd)).1,?_⟩;rw[PyData.depth];have:=pY (n:=n) (ds:=ds) λd hd=>(jf (h d hd)).2;lia
 |n+1,.tuple ds,h=>by have h:ds.all (dl n)=true:=h;rw[VL]at h;refine⟨by rw[PyData.canLay0];exact nJ λd hd=>(jf (h d hd)).1,?_⟩;rw[PyData.depth];have:=pY (n:=n) (ds:=ds) λd hd=>(jf (h d hd)).2;lia
 |0,.list _,h=>by cases h
 |0,.tuple _,h=>by cases h
 |n,.bool _,h=>by cases n<;>cases h
 |n,.dict _,h=>by cases n<;>cases h
theorem qO:∀{ds:A00},(∀d∈ds,nd d=true)->nd.nds ds=true
 |[],_=>rfl
 |d::ds,h=>by rw[nd.nds,h d V3,qO λe he=>h e (VA _ he)];rfl
theorem lZ:∀{n:Nat}{d:PyData},dl n d=true->nd d=true
 |_,.none,_=>rfl
 |_,.int _,_=>rfl
 |_,.str _,_=>rfl
 |_,.bool _,_=>rfl
 |n+1,.list ds,h=>by have h:ds.all (dl n)=true:=h;rw[VL]at h;rw[nd];exact qO λd hd=>lZ (h d hd)
 |n+1,.tuple ds,h=>by have h:ds.all (dl n)=true:=h;rw[VL]at h;rw[nd];exact qO λd hd=>lZ (h d hd)
 |0,.list _,h=>by cases h
 |0,.tuple _,h=>by cases h
 |n,.dict _,h=>by cases n<;>cases h
theorem qq(hf:∀a b,f a=true->f b=true->SeqAt.noMix a b=true):∀{xs ys:A00},xs.all f=true->ys.all f=true->SeqAt.noMixAll xs ys=true
 |[],[],_,_=>rfl
 |[],_::_,_,_=>rfl
 |_::_,[],_,_=>rfl
 |x::xs,y::ys,h1,h2=>by rw[VJ,V9]at h1 h2;rw[SeqAt.noMixAll,hf x y h1.1 h2.1,qq hf h1.2 h2.2];rfl
def Fd:∀(n:Nat)(a b:PyData),dl n a=true->dl n b=true->SeqAt.noMix a b=true:=by
 intro n;induction n with
 |zero=>intro a b ha hb;cases a<;>first|(cases ha;done)|(cases b<;>first|(cases hb;done)|rfl)
 |succ n ih=>
  intro a b ha hb;cases a with
  |list xs=>
   cases b with
   |list ys=>rw[SeqAt.noMix];exact qq ih ha hb
   |dict _=>cases hb
   |bool _=>cases hb
   |_=>rfl
  |tuple xs=>
   cases b with
   |tuple ys=>rw[SeqAt.noMix];exact qq ih ha hb
   |dict _=>cases hb
   |bool _=>cases hb
   |_=>rfl
  |dict _=>cases ha
  |bool _=>cases ha
  |_=>cases b<;>first|(cases hb;done)|rfl
def GS{n:Nat}(ha:dl n a=true)(hb:dl n b=true):PyData.eqv a b=decide (a=b):=by rw[<-SeqAt.same_eq_eqv a b (Fd n a b ha hb),Wq,ZV,Wu]
def w5{n:Nat}(h:dl n d=true)(l:n<=60):SeqAt.shaped d=true:=by obtain⟨h1,h2⟩:=jf h;unfold SeqAt.shaped;rw[h1,Vw (Vx h2 (by lia))];rfl
noncomputable def EU (a b:PyData)(P:Bool->Prop):Prop:=match a,b with
 |.int a,.int b=>P (decide (a=b))
 |.str a,.str b=>P (decide (a=b))
 |.bool a,.bool b=>P (decide (a=b))
 |.none,.none=>P true
 |a,b=>(dl 8 a=true/\dl 8 b=true)/\P (decide (a=b))
def iK:DR:=λds P=>match ds with
 |[a,b]=>EU a b λc=>P .sh (.bool c)
 |_=>False
def jO:DR:=λds P=>match ds with
 |[a,b]=>EU a b λc=>P .sh (.bool !c)
 |_=>False
def qL (K:Frag)(neg:Bool):R2:=λx y H Q=>IU K neg x y H Q\/(if neg then S7 x y H Q else SK x y H Q)
section
variable{X:Cx}
def zS(hu:X.A.units+64<cLine):bN X (compareOp .Eq) (qL X.K false):=(Pa hu).or (Q5 (X:=X))
def G6(hu:X.A.units+64<cLine):bN X (compareOp .NotEq) (qL X.K true):=(PV hu).or (Rq (X:=X))
end
def Et(neg:Bool)(s:ah Hm H)(h1:Rp K Hm x a)(h2:Rp K Hm y b)(h:EU a b Pb)(q:∀c,Pb c->Q (.bl (if neg then !c else c)) H):qL K neg x y H Q:=by
 have gen:dl 8 a=true/\dl 8 b=true->Pb (decide (a=b))->qL K neg x y H Q:=λhd p=>by
  refine .inl ⟨a,b,(h1.mono s).sD (lZ hd.1),(h2.mono s).sD (lZ hd.2),w5 hd.1 (by decide),w5 hd.2 (by decide),Fd 8 a b hd.1 hd.2,?_⟩;have e:Spec.same a b=decide (a=b):=by rw[Wq,ZV,Wu]
  rw[e];exact q _ p
 have sc:IW x y=true->Pb (decide (x=y))->qL K neg x y H Q:=λhs p=>by
  refine .inr ?_;cases neg with
  |true=>exact⟨hs,q _ p⟩
  |false=>exact⟨hs,q _ p⟩
 unfold EU at h;split at h;{cases h1;cases h2;refine sc rfl ?_;simpa using h};{cases h1;cases h2;refine sc rfl ?_;simpa using h};{cases h1;cases h2;refine sc rfl ?_;simpa using h};{cases h1;cases h2;exact gen ⟨rfl,rfl⟩ (by simpa using h)};exact gen h.1 h.2
def EO:cT K iK (r2 (qL K false)):=by intro H Hm vs ds P Q s r h q;unfold iK at h;split at h;{obtain⟨x,y,rfl,h1,h2⟩:=fV r;exact Et false s h1 h2 h λc p=>bB.sc q s p (.bl _)};exact h.elim
def FD:cT K jO (r2 (qL K true)):=by intro H Hm vs ds P Q s r h q;unfold jO at h;split at h;{obtain⟨x,y,rfl,h1,h2⟩:=fV r;exact Et true s h1 h2 h λc p=>bB.sc q s p (.bl _)};exact h.elim
def fm (neg:Bool):DR:=λds P=>match ds with
 |[a,.none]=>P .sh (.bool (if neg then !decide (a=.none)else decide (a=.none)))
 |_=>False
def LQ(h:Rp K H x d):decide (x=.aU)=decide (d=.none):=by cases h<;>simp
def LA:cT K (fm false) (r2 λx y H Q=>y=.aU/\Q (.bl (decide (x=.aU))) H):=by intro H Hm vs ds P Q s r h q;unfold fm at h;split at h;{obtain⟨x,y,rfl,h1,h2⟩:=fV r;cases h2;refine⟨rfl,?_⟩;rw[LQ h1];exact bB.sc q s h (.bl _)};exact h.elim
noncomputable def KO (neg:Bool):DR:=λds P=>match ds with
 |[d,.list xs]=>(xs.all (dl 8)=true/\dl 8 d=true)/\P .sh (.bool (if neg then !decide (d∈xs)else decide (d∈xs)))
 |[d,.tuple xs]=>(xs.all (dl 8)=true/\dl 8 d=true)/\P .sh (.bool (if neg then !decide (d∈xs)else decide (d∈xs)))
 |_=>False
inductive JH(K:Frag)(neg:Bool) (x:V) (y:V)(H:Hp)(Q:VK):Prop
 |mk:∀(d:PyData)(xs:A00),(lU K H x d)->((lU K H y (.list xs)\/lU K H y (.tuple xs)))->(PyData.canLayAll0 xs=true)->(d.canLay0=true)->(d.depth<=60)->(Q (.bl (if neg then !xs.any λy=>PyData.eqv y d else xs.any λy=>PyData.eqv y d)) H)->JH K neg x y H Q
def Dp (K:Frag)(neg:Bool):R2:=λx y H Q=>JH K neg x y H Q
section
variable{X:Cx}
def QA(hu:X.A.units+64<cLine):bN X (compareOp .In) (Dp X.K false):=by intro pins s U H x y v u Q I rx ry h;obtain⟨d,xs,hx,hy,l1,l2,dp,q⟩:=h;obtain⟨bs,rb⟩:=I.reads hx rx;rcases hy with hy|hy;{obtain⟨as,ra⟩:=I.reads hy ry;exact SeqAt.in_list_reads ra rb l1 l2 (by lia) ⟨.bl _,H,I,rfl,q⟩};obtain⟨as,ra⟩:=I.reads hy ry;exact SeqAt.in_tuple_reads ra rb l1 l2 (by lia) ⟨.bl _,H,I,rfl,q⟩
def FT(hu:X.A.units+64<cLine):bN X (compareOp .NotIn) (Dp X.K true):=by intro pins s U H x y v u Q I rx ry h;obtain⟨d,xs,hx,hy,l1,l2,dp,q⟩:=h;obtain⟨bs,rb⟩:=I.reads hx rx;rcases hy with hy|hy;{obtain⟨as,ra⟩:=I.reads hy ry;exact SeqAt.notIn_list_reads ra rb l1 l2 (by lia) ⟨.bl _,H,I,rfl,q⟩};obtain⟨as,ra⟩:=I.reads hy ry;exact SeqAt.notIn_tuple_reads ra rb l1 l2 (by lia) ⟨.bl _,H,I,rfl,q⟩
end
def BX{n:Nat}{xs:A00}(h:xs.all (dl n)=true)(hd:dl n d=true):(xs.any λy=>PyData.eqv y d)=decide (d∈xs):=by rw[Wq,List.any_eq_true,Wu];rw[VL]at h;constructor;{rintro⟨y,hy,e⟩;rw[GS (h y hy) hd,Wu]at e;exact e▸hy};intro m;exact⟨d,m,by rw[GS hd hd];simp⟩
def Nl{K:Frag}(neg:Bool):cT K (KO neg) (r2 (Dp K neg)):=by intro H Hm vs ds P Q s r h q;unfold KO at h;split at h;{rename_i d xs;obtain⟨x,y,rfl,h1,h2⟩:=fV r;obtain⟨⟨ha,hd⟩,p⟩:=h;refine⟨d,xs,(h1.mono s).sD (lZ hd),.inl ((h2.mono s).sD (by rw[nd];exact qO λd hd=>lZ (VL.mp ha d hd))),nJ λe he=>(jf (VL.mp ha e he)).1,(jf hd).1,Vx (jf hd).2 (by decide),?_⟩;rw[BX ha hd];exact bB.sc q s p (.bl _)};{rename_i d xs;obtain⟨x,y,rfl,h1,h2⟩:=fV r;obtain⟨⟨ha,hd⟩,p⟩:=h;refine⟨d,xs,(h1.mono s).sD (lZ hd),.inr ((h2.mono s).sD (by rw[nd];exact qO λd hd=>lZ (VL.mp ha d hd))),nJ λe he=>(jf (VL.mp ha e he)).1,(jf hd).1,Vx (jf hd).2 (by decide),?_⟩;rw[BX ha hd];exact bB.sc q s p (.bl _)};exact h.elim
def Km:DR:=λds P=>match ds with
 |[.list xs,.int i]=>∃d,dP xs i=some d/\P .sh d
 |[.tuple xs,.int i]=>∃d,dP xs i=some d/\P .sh d
 |_=>False
theorem av.dP(r:av K H vs ds){i:Int}(h:L2.dP ds i=some d):∃v,L2.dP vs i=some v/\Rp K H v d:=by
 unfold L2.dP at h⊢;rw[r.len];cases e:l0 ds.length i with
 |none=>rw[e]at h;cases h
 |some j=>rw[e]at h;exact r.get h
def QG:cT K Km (r2 (PR K)):=by
 intro H Hm vs ds P Q s r h q;unfold Km at h;split at h
 .obtain⟨x,y,rfl,h1,h2⟩:=fV r;obtain⟨d,e,p⟩:=h;cases h2;cases h1 with
  |lst a1 r1=>obtain⟨v,e2,rv⟩:=r1.dP e;exact .inl ⟨_,_,_,v,rfl,rfl,(bX.mono s a1).sq,e2,bB.sc q s p rv⟩
 .obtain⟨x,y,rfl,h1,h2⟩:=fV r;obtain⟨d,e,p⟩:=h;cases h2;cases h1 with
  |tup a1 r1=>obtain⟨v,e2,rv⟩:=r1.dP e;exact .inr (.inl ⟨_,_,_,v,rfl,rfl,bO.of (s _ _ a1),e2,bB.sc q s p rv⟩)
 exact h.elim
def cutD (xs:A00)(lo hi:Option Int):A00:=(xs.drop (HT.aL xs.length 0 lo)).take (HT.aL xs.length xs.length hi-HT.aL xs.length 0 lo)
def av.cut(r:av K H vs ds)(lo hi:Option Int):av K H (oi vs lo hi) (cutD ds lo hi):=by unfold oi cutD;rw[r.len];exact(r.drop _).take _
def Hh (d:PyData)(lo hi:Option Int)(P:Kd->PyData->Prop):Prop:=match d with
 |.list xs=>P (.ow false) (.list (cutD xs lo hi))
 |.tuple xs=>P .sh (.tuple (cutD xs lo hi))
 |_=>False
noncomputable def ku (bl bh:Bool):DR:=λds P=>match bl,bh with
 |false,false=>To (λd=>Hh d none none P) ds
 |true,false=>BZ (λd e=>zX e λa=>Hh d (some a) none P) ds
 |false,true=>BZ (λd e=>zX e λb=>Hh d none (some b) P) ds
 |true,true=>Tn (λd e e'=>zX e λa=>zX e' λb=>Hh d (some a) (some b) P) ds
def wm (K:Frag):V->Option Int->Option Int->Hp->VK->Prop:=λx lo hi H Q=>Og K x lo hi H Q\/JL K x lo hi H Q
def Jd:GF X (wm X.K):=λpins s U H x v vl vu lo hi sl Q I rx hs pl pu h=>h.elim (Mt pins s U H x v vl vu lo hi sl Q I rx hs pl pu) (Ly pins s U H x v vl vu lo hi sl Q I rx hs pl pu)
noncomputable def Hw (bl bh:Bool)(K:Frag):List V->Hp->VK->Prop:=λvs H Q=>match bl,bh,vs with
 |false,false,[x]=>wm K x none none H Q
 |true,false,[x,a]=>∃i,a=.int i/\wm K x (some i) none H Q
 |false,true,[x,b]=>∃i,b=.int i/\wm K x none (some i) H Q
 |true,true,[x,a,b]=>∃i,a=.int i/\∃j,b=.int j/\wm K x (some i) (some j) H Q
 |_,_,_=>False
def CH(h:HT.aL xs.length 0 lo=0/\HT.aL xs.length xs.length hi=xs.length):cutD xs lo hi=xs:=by unfold cutD;rw[h.1,h.2,YJ,Yt,WU]
def uV(q:bB K H Hm P Q)(s:ah Hm H)(h1:Rp K Hm x d)(h:Hh d lo hi P):wm K x lo hi H Q:=by
 cases h1 with
 |lst a1 r1=>exact .inl ⟨_,_,rfl,(bX.mono s a1).sq,λp hp=>bB.nl q s h hp (r1.cut lo hi)⟩
 |tup a1 r1=>refine .inr ⟨_,_,rfl,bO.of (s _ _ a1),λw=>?_,λ_ p hp=>bB.nt q s h hp (r1.cut lo hi)⟩;rw[r1.len]at w;have h:P .sh (.tuple (cutD _ lo hi)):=h;rw[CH w]at h;exact bB.sc q s h (.tup a1 r1)
 |_=>exact h.elim
def zk(bl bh:Bool):cT K (ku bl bh) (Hw bl bh K):=by
 intro H Hm vs ds P Q s r h q;cases bl with
 |false=>
  cases bh with
  |false=>obtain⟨x,d,rfl,rfl,h1,h⟩:=Qy r h;exact uV q s h1 h
  |true=>obtain⟨x,y,d,e,rfl,rfl,h1,h2,h⟩:=qh r h;obtain⟨i,rfl,h⟩:=qT h2 h;exact⟨_,rfl,uV q s h1 h⟩
 |true=>
  cases bh with
  |false=>obtain⟨x,y,d,e,rfl,rfl,h1,h2,h⟩:=qh r h;obtain⟨i,rfl,h⟩:=qT h2 h;exact⟨_,rfl,uV q s h1 h⟩
  |true=>obtain⟨x,y,z,d,e,e',rfl,rfl,h1,h2,h3,h⟩:=P1 r h;obtain⟨i,rfl,h⟩:=qT h2 h;obtain⟨j,rfl,h⟩:=qT h3 h;exact⟨_,rfl,_,rfl,uV q s h1 h⟩
section
variable{X:Cx}{Ex:XK}{Y:A07}{a l u:Expr}{pos p2:Pos}{as:List Arg}
def FP(S:aJ X Ex Y [a,l] as):SE X Ex Y (.Subscript a (.Slice (some l) none none p2) pos) (aa (ku true false) as):=eV (r:=Hw true false X.K) S (λU H Q h=>WE.of (zC Jd aV (BV aV) AY) h) (zk _ _)
def yf(S:aJ X Ex Y [a,u] as):SE X Ex Y (.Subscript a (.Slice none (some u) none p2) pos) (aa (ku false true) as):=eV (r:=Hw false true X.K) S (λU H Q h=>WE.of (zC Jd aV AY (BV aV)) h) (zk _ _)
open PyProof.Rows in
def NY(h:pV X [a,l,u] U H λvs H1=>Hw true true X.K vs H1 Q):WE X (.Subscript a (.Slice (some l) (some u) none p2) pos) U H Q:=by intro pins s I;refine Subscript_ (aM (h pins s I) λv s1 ⟨x,H1,I1,r1,q1⟩=>?_);refine wpAny_Slice ?_;rw[evalPart_some];refine aM (q1 pins s1 I1) λvl s2 ⟨y,H2,I2,pl,q2⟩=>?_;rw[evalPart_some];refine aM (q2 pins s2 I2) λvu s3 ⟨z,H3,I3,pu,q3⟩=>?_;obtain⟨i,rfl,j,rfl,q3⟩:=q3;obtain⟨t1,rfl⟩:=pl;obtain⟨t2,rfl⟩:=pu;rw[evalPart_none];refine V6 ?_;have I4:Inv X pins U H3 { s3 with heap:=s3.heap.push { cls:=.type "slice",data:=.fields #[.int i t1,.int j t2,.none] } }:=I3.kept (t':=s3.toks) λb ob q=>VW _ q;obtain⟨T,id,hT,ht,hg⟩:=Jd pins { s3 with heap:=s3.heap.push { cls:=.type "slice",data:=.fields #[.int i t1,.int j t2,.none] } } U H3 x v (.int i t1) (.int j t2) (some i) (some j) s3.heap.objs.size Q I4 r1 (Heap.IsSliceOf.new ..) (.int i t1) (.int j t2) q3;show wpAny (model X.prog X.w) X.A (subscriptTail a (.Slice (some l) (some u) none p2) v (.ref s3.heap.objs.size)) (EP X pins U Q) X.xe { s3 with heap:=s3.heap.push { cls:=.type "slice",data:=.fields #[.int i t1,.int j t2,.none] } };exact tail_any (ops:=[.ref s3.heap.objs.size,v]) ht hT hg (by with_unfolding_all rfl)
def OT(S:aJ X Ex Y [a,l,u] as):SE X Ex Y (.Subscript a (.Slice (some l) (some u) none p2) pos) (aa (ku true true) as):=eV (r:=Hw true true X.K) S (λU H Q h=>NY h) (zk _ _)
end
end Dv
namespace L2
open PySem PySem.Spec PyProof.Rows
section
variable{X:Cx}
def Ax:b5 X (.type "range") (λxs H Q=>∃j:Int,xs=[.int j]/\∀p,H p=none->Q (.ref p) (upd H p (.sf 0 j))):=by intro pins s U H xs us Q I r h;obtain⟨j,rfl,q⟩:=h;obtain⟨u,rfl,ru⟩:=vals1 r;obtain⟨t,rfl⟩:=ru;refine call_range_1 (?_:_);exact⟨.ref s.heap.objs.size,_,I.laid (o:=.sf 0 j) (λb o e=>VW _ e) (V5 _) ⟨_,_,_,W8 _ rfl⟩,rfl,q _ (I.hok.fresh (V5 _))⟩
def DY(hc:X.calm=true):b5 X (.type "list") (λxs H Q=>∃(a:Addr) (j:Int),xs=[.ref a]/\H a=some (.sf 0 j)/\0<=j/\j<=1000/\∀l,H l=none->Q (.ref l) (upd H l (.lst (((List.range j.toNat).map λi:Nat=>(i:Int)).map V.int)))):=by
 intro pins s U H xs us Q I r h;obtain⟨a,j,rfl,ha,j0,j1,q⟩:=h;obtain⟨u,rfl,ru⟩:=vals1 r;cases ru;obtain⟨t,u,v,e⟩:=I.hok a _ ha;refine call_list_range (n:=j.toNat) (I.ok.hd hc) e (small_one (by decide) (by decide) (by lia) (by lia)) (by rw[rangeSize_one];split<;>lia) (by lia) λh' tk acc c kp hS its=>?_;obtain⟨z1,z2⟩:=its;have rv:Vals (((List.range j.toNat).map λi:Nat=>(i:Int)).map V.int) acc.toList:=by
  have go:∀(l:A02) (k:Nat),(∀(i:Nat)(v:Value),l[i]?=some v->∃t:Tok,v=Value.int ((k+i:Nat):Int) t)->Vals (((List.range' k l.length).map λi:Nat=>(i:Int)).map V.int) l:=λl=>by
   induction l with
   |nil=>exact λk _=>.nil
   |cons x l ih=>intro k h;obtain⟨t,e⟩:=h 0 x rfl;refine .cons ⟨t,by simpa using e⟩ (ih (k+1) λi v hv=>?_);obtain⟨t,e⟩:=h (i+1) v hv;exact⟨t,by rw[e,X3,Nat.add_comm 1 i]⟩
  have:=go acc.toList 0 λi v hv=>by obtain⟨t,e⟩:=z2 i v (by simpa using hv);exact⟨t,by rw[e];simp⟩
  rw[List.range_eq_range'];simpa[z1]using this
 exact⟨.ref s.heap.objs.size,_,I.laid (t':=tk) kp (V5 _) (o:=.lst _) ⟨by rw[V4,V4,VD];exact Vx (show j.toNat<=1000 by lia) (by decide),acc.toList,c,rv,by simpa using hS⟩,rfl,q _ (I.hok.fresh (V5 _))⟩
end
end L2
namespace L2
open PySem PySem.Spec PyProof.Rows PySem.W
section
variable{X:Cx}{a:Expr}{ta:TE}{pos:Pos}
def K2(ha:PE X a ta):PE X (.UnaryOp .Not a pos) (λU H Q=>ta U H λx H1=>∃k,sV X.K x H1 k/\Q (.bl (!k)) H1):=by intro pins s U H Q I h;refine UnaryOp_ (aM (ha pins s U H _ I h) λv s1 ⟨x,H1,I1,r1,k,tk,q1⟩=>?_);refine not_of (aM (yg pins s1 U H1 x v (λb H2=>Q (.bl (!b)) H2) I1 r1 ⟨k,tk,q1⟩) λb s2 ⟨H2,I2,q2⟩=>?_);exact⟨.bl (!b),H2,I2,rfl,q2⟩
end
end L2
namespace Dv
open PySem L2 PySem.W
section
variable{X:Cx}{Ex:XK}{Y:A07}
def ze(h:PE X e (tC u))(r:∀Hm,Rp X.K Hm u v):SE X Ex Y e (dC v):=λg x E U H Hm F P Q hx R p q=>WE.of h (q _ _ _ _ _ _ _ [] p R (ah.refl _) (Tm.sh (r Hm)))
def QI{i j:Nat}(h:PE X e (lQ j))(hj:Y[j]?=some i):SE X Ex Y e (br i):=by
 intro g x E U H Hm F P Q hx R p q;replace p:Eh E i P:=p;unfold Eh at p;split at p
 rotate_left
 .exact p.elim
 rename_i k d e1;rw[<-bq,AJ]at p;obtain⟨E',e2,p⟩:=p;obtain⟨v,Hm',F',h1,s,R',r⟩:=R.dI e1 e2;exact WE.of h ⟨v,bR hj h1,q _ _ _ _ _ _ _ [] p R' s (Tm.sh r)⟩
noncomputable def bC (X:Cx)(Ex:XK)(Y:A07)(e:Expr)(d:DE):Prop:=
 ∀(g:Gh)(x:XC)(E:En)(U:St)(H Hm:Hp)(F:Nat->A03)(P:En->Kd->PyData->Prop)(Q:Bool->Hp->Prop),XL X Ex x g->Rl X.K g E U H Hm F->d x E P->
  (∀E' k v H' Hm' F',P E' k v->Rl X.K g E' U H' Hm' F'->ah Hm Hm'->∃b,lB v=some b/\Q b H')->WT X e (sel Y U) H Q
def bC.st{e:Expr}{d:DE}(h:bC X Ex Y e d):ST X Ex Y e (bD d):=by rw[Lj];exact λg x E U H Hm F P Q hx R p q=>h g x E U H Hm F _ Q hx R p λE' k v H' Hm' F' ⟨b,e1,p⟩ R' s=>⟨b,e1,q _ _ _ _ _ p R' s⟩
theorem Rp.lB{b:Bool}(r:Rp K H u v)(h:Dv.lB v=some b):sV K u H b:=by
 cases r with
 |aU=>cases h;rfl
 |bl c=>cases h;rfl
 |int i=>cases h;show(!decide (i=0))=(i != 0);rw[bne,Bool.beq_eq_decide_eq]
 |str _=>cases h
 |lst a r1=>cases h;refine .inl ⟨_,a.sq,?_⟩;cases r1<;>rfl
 |tup a r1=>cases h;refine .inr (.inl ⟨_,bO.of a,?_⟩);cases r1<;>rfl
 |dk _ _=>cases h
 |dt _ _=>cases h
 |exc _ _=>cases h
 |pd _ _ _=>cases h
theorem Own.lB{b:Bool}(o:Own K H Hm k u v fp)(s:ah Hm H)(h:Dv.lB v=some b):sV K u H b:=by by_cases hk:k.rd=true;{exact(o.rp (Hm':=H) hk s λ_ _=>rfl).lB h};cases o<;>first|exact absurd rfl hk|cases h
def SE.pN(h:SE X Ex Y e d)(he:∀whole,isTrue e X.env whole=(do let v <-whole;standAt e.pos;holding [v] (truthy v))):bC X Ex Y e d:=by intro g x E U H Hm F P Q hx R p q;refine WT.of (yS aV he) (h g x E U H Hm F P _ hx R p λE' k v u H' Hm' F' fp p' R' s T=>?_);obtain⟨b,e1,q'⟩:=q _ _ _ _ _ _ p' R' s;exact⟨b,T.own.lB R'.sub e1,q'⟩
def Ph(ho:bN X (compareOp op) r)(hm:behindInMarks op b=false)(h:pV X [a,b] U H λvs H1=>r2 r vs H1 λx H'=>∃k,sV X.K x H' k/\Q k H'):WT X (.Compare a [op] [b] pos) U H Q:=by intro pins s I;refine wpAny_isTrue_Compare1 (aM (h pins s I) λv s1 ⟨x,H1,I1,r1,q1⟩=>aM (q1 pins s1 I1) λu s2 ⟨y,H2,I2,r2,q2⟩=>aM (ho pins s2 U H2 x y v u _ I2 r1 r2 q2) λc s3 ⟨z,H3,I3,r3,q3⟩=>?_) hm;exact yg pins s3 U H3 z c Q I3 r3 q3
def OG(S:aJ X Ex Y es as)(hr:∀U H (Q:Bool->Hp->Prop),pV X es U H (λvs H1=>r vs H1 λx H'=>∃k,sV X.K x H' k/\Q k H')->WT X e U H Q)(D:cT X.K f r):bC X Ex Y e (aa f as):=by
 intro g x E U H Hm F P Q hx R h q;refine hr _ _ _ (iS hx S R h λE1 os vs H1 Hm1 F1 p R1 s1 G=>?_);replace p:zQ f as E1 os P:=p;unfold zQ at p;rw[<-bq,dR]at p;obtain⟨ds,hf,hg⟩:=p;have off:∀a∈(cL as).flatMap F1,Hm1 a=none:=λa ha=>by obtain⟨i,_,h⟩:=W2.mp ha;exact R1.off i a h
 have up:=fP (Hm:=Hm1) (H:=H1) off;refine D H1 (lend Hm1 H1 ((cL as).flatMap F1)) vs ds _ _ (gn R1.sub) (kM R1 up G hf λi hi a ha=>cV (W2.mpr ⟨i,hi,ha⟩)) hg λk v u H' Hm2 fp p sH sM sS old o fr=>?_;replace p:ay (tU as E1 k v) _:=p;rw[<-bq,Bo]at p;obtain⟨E2,ha,p⟩:=p;obtain⟨Hm',F',R',s',T⟩:=yJ R1 (is:=cL as) (t9 ha) sH sM sS old o fr;obtain⟨b,e1,q'⟩:=q _ _ _ _ _ _ p R' (s1.trans s');exact⟨b,o.lB sS e1,q'⟩
def iH(ho:bN X (compareOp op) r)(hm:behindInMarks op b=false)(D:cT X.K f (r2 r))(S:aJ X Ex Y [a,b] as):bC X Ex Y (.Compare a [op] [b] pos) (aa f as):=OG S (λU H Q h=>Ph ho hm h) D
theorem Own.bool{c:Bool}(o:Own K H Hm k u (.bool c) fp):u=.bl c:=by
 cases o with
 |sh r=>cases r;rfl
theorem Own.int{i:Int}(o:Own K H Hm k u (.int i) fp):u=.int i:=by
 cases o with
 |sh r=>cases r;rfl
def qz(h:SE X Ex Y a d):SE X Ex Y (.BoolOp op [a] pos) d:=λg x E U H Hm F P Q hx R p q=>WE.of (Pk aV) (h g x E U H Hm F P Q hx R p q)
def vg{a b:Expr}{rest:A05}{pos:Pos}{d e:DE}(ha:SE X Ex Y a d)(hb:SE X Ex Y (.BoolOp .And (b::rest) pos) e):SE X Ex Y (.BoolOp .And (a::b::rest) pos) (jl d e):=by
 rw[A9];intro g x E U H Hm F P Q hx R p q;refine WE.of (M9 aV aV) (ha g x E U H Hm F _ _ hx R p λE1 k v u H1 Hm1 F1 fp p1 R1 s1 T=>?_);obtain⟨c,rfl,p1⟩:=p1;refine⟨c,T.own.bool,?_⟩;cases c with
 |true=>exact oN (hb g x E1 U H1 Hm1 F1 P Q hx R1 p1 λE' k v u H' Hm' F' fp p' R' s' T'=>q _ _ _ _ _ _ _ _ p' R' (s1.trans s') T')
 |false=>exact oq (q _ _ _ _ _ _ _ [] p1 R1 s1 (Tm.sh (.bl false)))
def Rz{a b:Expr}{rest:A05}{pos:Pos}{d e:DE}(ha:SE X Ex Y a d)(hb:SE X Ex Y (.BoolOp .Or (b::rest) pos) e):SE X Ex Y (.BoolOp .Or (a::b::rest) pos) (mw d e):=by
 rw[FO];intro g x E U H Hm F P Q hx R p q;refine WE.of (Rr aV aV) (ha g x E U H Hm F _ _ hx R p λE1 k v u H1 Hm1 F1 fp p1 R1 s1 T=>?_);obtain⟨c,rfl,p1⟩:=p1;refine⟨c,T.own.bool,?_⟩;cases c with
 |true=>exact oN (q _ _ _ _ _ _ _ [] p1 R1 s1 (Tm.sh (.bl true)))
 |false=>exact oq (hb g x E1 U H1 Hm1 F1 P Q hx R1 p1 λE' k v u H' Hm' F' fp p' R' s' T'=>q _ _ _ _ _ _ _ _ p' R' (s1.trans s') T')
def GJ(ha:SE X Ex Y a d):SE X Ex Y (.UnaryOp .Not a pos) (lz d):=by rw[Bu];intro g x E U H Hm F P Q hx R p q;refine WE.of (K2 aV) (ha g x E U H Hm F _ _ hx R p λE1 k v u H1 Hm1 F1 fp p1 R1 s1 T=>?_);obtain⟨c,hc,p1⟩:=p1;exact⟨c,T.own.lB R1.sub hc,q _ _ _ _ _ _ _ [] p1 R1 s1 (Tm.sh (.bl _))⟩
def rq(ha:bC X Ex Y a d):bC X Ex Y (.UnaryOp .Not a pos) (lz d):=by rw[Bu];intro g x E U H Hm F P Q hx R p q;refine WT.of (ER jI) (ha g x E U H Hm F _ _ hx R p λE1 k v H1 Hm1 F1 p1 R1 s1=>?_);obtain⟨c,hc,p1⟩:=p1;obtain⟨b,e1,q'⟩:=q _ _ _ _ _ _ p1 R1 s1;refine⟨c,hc,?_⟩;cases e1;exact q'
def WW (X:Cx)(e:Expr):TT:=λU H Q=>∀(whole:Sem Value)(pins:Zs)(s:Shared),Inv X pins U H s->wpAny (model X.prog X.w) X.A (isTrue e X.env whole) (TP X pins U Q) X.xe s
def pw_ww:PW X e (WW X e):=λwh pins s _ _ _ I h=>h wh pins s I
def WW.of(h:PW X e t)(q:t U H Q):WW X e U H Q:=λwh pins s I=>h wh pins s U H Q I q
noncomputable def jL (X:Cx)(Ex:XK)(Y:A07)(e:Expr)(d:DE):Prop:=
 ∀(g:Gh)(x:XC)(E:En)(U:St)(H Hm:Hp)(F:Nat->A03)(P:En->Kd->PyData->Prop)(Q:Bool->Hp->Prop),XL X Ex x g->Rl X.K g E U H Hm F->d x E P->
  (∀E' k v H' Hm' F',P E' k v->Rl X.K g E' U H' Hm' F'->ah Hm Hm'->∃b,lB v=some b/\Q b H')->WW X e (sel Y U) H Q
def jL.pN(h:jL X Ex Y e d):bC X Ex Y e d:=λg x E U H Hm F P Q hx R p q=>WT.of (PW.pt pw_ww) (h g x E U H Hm F P Q hx R p q)
def fS(h:bC X Ex Y a d):jL X Ex Y (.BoolOp op [a] pos) d:=λg x E U H Hm F P Q hx R p q=>by
 cases op with
 |And=>exact WW.of (pw_and1 jI) (h g x E U H Hm F P Q hx R p q)
 |Or=>exact WW.of (pw_or1 jI) (h g x E U H Hm F P Q hx R p q)
def qR{a b:Expr}{rest:A05}{pos:Pos}{d e:DE}(ha:bC X Ex Y a d)(hb:jL X Ex Y (.BoolOp .And (b::rest) pos) e):jL X Ex Y (.BoolOp .And (a::b::rest) pos) (jl d e):=by
 rw[A9];intro g x E U H Hm F P Q hx R p q;refine WW.of (pw_and jI pw_ww) (ha g x E U H Hm F _ _ hx R p λE1 k v H1 Hm1 F1 p1 R1 s1=>?_);obtain⟨c,rfl,p1⟩:=p1;refine⟨c,rfl,?_⟩;cases c with
 |true=>exact oN (hb g x E1 U H1 Hm1 F1 P Q hx R1 p1 λE' k v H' Hm' F' p' R' s'=>q _ _ _ _ _ _ p' R' (s1.trans s'))
 |false=>obtain⟨b,e1,q'⟩:=q _ _ _ _ _ _ p1 R1 s1;cases e1;exact oq q'
def jT{a b:Expr}{rest:A05}{pos:Pos}{d e:DE}(ha:bC X Ex Y a d)(hb:jL X Ex Y (.BoolOp .Or (b::rest) pos) e):jL X Ex Y (.BoolOp .Or (a::b::rest) pos) (mw d e):=by
 rw[FO];intro g x E U H Hm F P Q hx R p q;refine WW.of (pw_or jI pw_ww) (ha g x E U H Hm F _ _ hx R p λE1 k v H1 Hm1 F1 p1 R1 s1=>?_);obtain⟨c,rfl,p1⟩:=p1;refine⟨c,rfl,?_⟩;cases c with
 |true=>obtain⟨b,e1,q'⟩:=q _ _ _ _ _ _ p1 R1 s1;cases e1;exact oN q'
 |false=>exact oq (hb g x E1 U H1 Hm1 F1 P Q hx R1 p1 λE' k v H' Hm' F' p' R' s'=>q _ _ _ _ _ _ p' R' (s1.trans s'))
def EJ(ho:bN X (compareOp op) (pO λi j=>.bl (f i j)))(ho':bN X (compareOp op') (pO λi j=>.bl (f' i j)))(hm:lastMarks [op,op'] [b,c]=false)(ha:SE X Ex Y a da)(hb:SE X Ex Y b db)(hc:SE X Ex Y c dc):bC X Ex Y (.Compare a [op,op'] [b,c] pos) (qc f f' da db dc):=by rw[GV];intro g x E U H Hm F P Q hx R p q;refine WT.of (I0 ho ho' aV aV aV hm) (ha g x E U H Hm F _ _ hx R p λE1 k1 v1 u1 H1 Hm1 F1 fp1 p1 R1 s1 T1=>?_);obtain⟨i,rfl,p1⟩:=p1;cases T1.own.int;refine hb g x E1 U H1 Hm1 F1 _ _ hx R1 p1 λE2 k2 v2 u2 H2 Hm2 F2 fp2 p2 R2 s2 T2=>?_;obtain⟨j,rfl,p2⟩:=p2;cases T2.own.int;refine⟨i,j,rfl,rfl,f i j,rfl,?_⟩;by_cases z:f i j=true;{rw[if_pos z]at p2⊢;refine hc g x E2 U H2 Hm2 F2 _ _ hx R2 p2 λE3 k3 v3 u3 H3 Hm3 F3 fp3 p3 R3 s3 T3=>?_;obtain⟨k,rfl,p3⟩:=p3;cases T3.own.int;obtain⟨b',e1,q'⟩:=q _ _ _ _ _ _ p3 R3 (s1.trans (s2.trans s3));cases e1;exact⟨j,k,rfl,rfl,_,rfl,q'⟩};rw[if_neg z]at p2⊢;obtain⟨b',e1,q'⟩:=q _ _ _ _ _ _ p2 R2 (s1.trans s2);cases e1;exact⟨_,rfl,q'⟩
def xT(hc:ST X Ex Y c t)(ha:SE X Ex Y a d)(hb:SE X Ex Y b e):SE X Ex Y (.IfExp c a b pos) (xu t d e):=by
 rw[NH];intro g x E U H Hm F P Q hx R p q;refine WE.of (HS jI aV aV) (hc g x E U H Hm F _ _ hx R p λE1 b H1 Hm1 F1 p1 R1 s1=>?_);cases b with
 |true=>exact oN (ha g x E1 U H1 Hm1 F1 P Q hx R1 (by simpa using p1) λE' k v u H' Hm' F' fp p' R' s' T'=>q _ _ _ _ _ _ _ _ p' R' (s1.trans s') T')
 |false=>exact oq (hb g x E1 U H1 Hm1 F1 P Q hx R1 (by simpa using p1) λE' k v u H' Hm' F' fp p' R' s' T'=>q _ _ _ _ _ _ _ _ p' R' (s1.trans s') T')
def T5{i j:Nat}(h:PE X e (lQ j))(hj:Y[j]?=some i)(he:∀whole,isTrue e X.env whole=(do let v <-whole;standAt e.pos;holding [v] (truthy v))):ST X Ex Y e (JT i):=by
 intro g x E U H Hm F P Q hx R p q;replace p:Ht E i P:=p;unfold Ht at p;split at p
 rotate_left
 .exact p.elim
 rename_i k d e1;rw[cS,<-Dy]at p;obtain⟨hk,b,ht,p⟩:=p;obtain⟨v,h1,h2⟩:=R.slot i k d e1;exact WT.of (yS h he) ⟨v,bR hj h1,b,h2.lB R.sub ht,q _ _ _ _ _ p R (ah.refl _)⟩
def HJ(ha:ST X Ex Y a t):ST X Ex Y (.UnaryOp .Not a pos) (EL t):=by intro g x E U H Hm F P Q hx R p q;exact WT.of (ER jI) (ha g x E U H Hm F _ _ hx R p λE1 b H1 Hm1 F1 p1 R1 s1=>q _ _ _ _ _ p1 R1 s1)
end
def noStar:Expr->Bool
 |.Starred ..=>false
 |_=>true
def aG(h:noStar e=true):starEach (e::es) env=(false,eval e env)::starEach es env:=by cases e<;>first|rfl|cases h
theorem fE:∀{es:A05},es.all noStar=true->(backTo pos (starEach es env)).any (·.1)=false
 |[],_=>rfl
 |e::es,h=>by rw[VJ,V9]at h;rw[aG h.1];show(false||(backTo pos (starEach es env)).any (·.1))=false;rw[fE h.2];rfl
section
variable{X:Cx}{Ex:XK}{Y:A07}
theorem dJ:∀{es:A05},es.all noStar=true->PA X es (pV X es)
 |[],_=>dh
 |e::es,h=>by rw[VJ,V9]at h;exact bg aV (dJ h.2) (aG h.1)
def fJ{x:Str}{id:String}{p pos:Pos}{e:Expr}{es:A05}{as:List Arg}{f:DR}{r:List V->Hp->VK->Prop}(hc:b5 X (.builtin id) r)(D:cT X.K f r)(hg:Gl X x)(hm:X.mg x=none)(hv:bootBuiltins x=some (.builtin id))(hn:x≠"__name__")(hd:(x==("__debug__":Str))=false)(ns:(e::es).all noStar=true)(S:aJ X Ex Y (e::es) as):SE X Ex Y (.Call (.Name x p) (e::es) [] pos) (aa f as):=
 eV S (λU H Q h=>WE.of (lA hc hg hm hv (dJ ns) hn hd (aG (by rw[VJ,V9]at ns;exact ns.1)) (fE (by rw[VJ,V9]at ns;exact ns.2))) h) D
def pX(hc:b5 X (.type T) r)(D:cT X.K f r)(hg:Gl X x)(hm:X.mg x=none)(hv:bootBuiltins x=some (.type T))(hn:x≠"__name__")(hd:(x==("__debug__":Str))=false)(ns:(e::es).all noStar=true)(S:aJ X Ex Y (e::es) as):SE X Ex Y (.Call (.Name x p) (e::es) [] pos) (aa f as):=
 eV S (λU H Q h=>WE.of (iI hc hg hm hv (dJ ns) hn hd (aG (by rw[VJ,V9]at ns;exact ns.1)) (fE (by rw[VJ,V9]at ns;exact ns.2))) h) D
def bY:DR:=λds P=>ds.length<=sizeLine/\P (.ow false) (.list ds)
def fc:DR:=λds P=>ds.length<=sizeLine/\P .sh (.tuple ds)
def LY:cT K bY λxs H Q=>xs.length<=sizeLine/\∀p,H p=none->Q (.ref p) (upd H p (.lst xs)):=λH Hm vs ds P Q s r h q=>⟨by rw[r.len];exact h.1,λp hp=>bB.nl q s h.2 hp r⟩
def ME:cT K fc λxs H Q=>xs.length<=sizeLine/\∀p,H p=none->Q (.ref p) (upd H p (.tup xs)):=λH Hm vs ds P Q s r h q=>⟨by rw[r.len];exact h.1,λp hp=>bB.nt q s h.2 hp r⟩
def OL(ns:es.all noStar=true)(S:aJ X Ex Y es as):SE X Ex Y (.List es pos) (aa bY as):=eV S (λU H Q h=>WE.of (MW (dJ ns)) h) LY
def OW{k:Nat}(ns:es.all noStar=true)(S:aJ X Ex Y es as):SE X Ex Y (.Tuple es k pos) (aa fc as):=eV S (λU H Q h=>WE.of (qD (dJ ns)) h) ME
def Jg:DR:=λds P=>match ds with
 |[.list xs]=>P .sh (.int xs.length)
 |[.tuple xs]=>P .sh (.int xs.length)
 |_=>False
def Lk:cT K Jg λxs H Q=>∃p ys,xs=[.ref p]/\(bF K H p ys\/bO K H p ys)/\Q (.int ys.length) H:=by
 intro H Hm vs ds P Q s r h q;unfold Jg at h;split at h
 .obtain⟨x,rfl,h1⟩:=cR r;cases h1 with
  |lst a r1=>exact⟨_,_,rfl,.inl (bX.mono s a).sq,by rw[r1.len];exact bB.sc q s h (.int _)⟩
 .obtain⟨x,rfl,h1⟩:=cR r;cases h1 with
  |tup a r1=>exact⟨_,_,rfl,.inr (bO.of (s _ _ a)),by rw[r1.len];exact bB.sc q s h (.int _)⟩
 exact h.elim
def qS:DR:=λds P=>match ds with
 |[.list xs]=>P (.ow false) (.list xs)
 |[.tuple xs]=>P (.ow false) (.list xs)
 |_=>False
def Iu:cT K qS λxs H Q=>∃p ys,xs=[.ref p]/\(bF K H p ys\/bO K H p ys)/\∀l,H l=none->Q (.ref l) (upd H l (.lst ys)):=by
 intro H Hm vs ds P Q s r h q;unfold qS at h;split at h
 .obtain⟨x,rfl,h1⟩:=cR r;cases h1 with
  |lst a r1=>exact⟨_,_,rfl,.inl (bX.mono s a).sq,λp hp=>bB.nl q s h hp r1⟩
 .obtain⟨x,rfl,h1⟩:=cR r;cases h1 with
  |tup a r1=>exact⟨_,_,rfl,.inr (bO.of (s _ _ a)),λp hp=>bB.nl q s h hp r1⟩
 exact h.elim
def nk:DR:=λds P=>match ds with
 |[.list xs]=>P .sh (.tuple xs)
 |[.tuple xs]=>P .sh (.tuple xs)
 |_=>False
def HC:cT K nk λxs H Q=>∃p ys,xs=[.ref p]/\((bF K H p ys/\∀l,H l=none->Q (.ref l) (upd H l (.tup ys)))\/(bO K H p ys/\Q (.ref p) H)):=by
 intro H Hm vs ds P Q s r h q;unfold nk at h;split at h
 .obtain⟨x,rfl,h1⟩:=cR r;cases h1 with
  |lst a r1=>exact⟨_,_,rfl,.inl ⟨(bX.mono s a).sq,λp hp=>bB.nt q s h hp r1⟩⟩
 .obtain⟨x,rfl,h1⟩:=cR r;cases h1 with
  |tup a r1=>exact⟨_,_,rfl,.inr ⟨bO.of (s _ _ a),bB.sc q s h (.tup a r1)⟩⟩
 exact h.elim
def xX:DR:=oz λi j=>.int (if j<i then j else i)
def Rx:DR:=oz λi j=>.int (if j>i then j else i)
def QV{f:Int->Int->Int}:cT K (oz λi j=>.int (f i j)) λxs H Q=>∃i j,xs=[.int i,.int j]/\Q (.int (f i j)) H:=by intro H Hm vs ds P Q s r h q;refine vO h λa b e p=>?_;subst e;obtain⟨x,y,rfl,h1,h2⟩:=fV r;cases h1;cases h2;exact⟨a,b,rfl,bB.sc q s p (.int _)⟩
def Uw:DR:=λds P=>match ds with
 |[.int i]=>P .sh (.int (if i<0 then-i else i))
 |_=>False
def kO:DR:=λds P=>match ds with
 |[.int i]=>P .sh (.int i)
 |[.bool k]=>P .sh (.int (if k then 1 else 0))
 |_=>False
def Gw:cT K kO λxs H Q=>(∃i,xs=[.int i]/\Q (.int i) H)\/∃k,xs=[.bl k]/\Q (.int (if k then 1 else 0)) H:=by intro H Hm vs ds P Q s r h q;unfold kO at h;split at h;{obtain⟨x,rfl,h1⟩:=cR r;cases h1;exact .inl ⟨_,rfl,bB.sc q s h (.int _)⟩};{obtain⟨x,rfl,h1⟩:=cR r;cases h1;exact .inr ⟨_,rfl,bB.sc q s h (.int _)⟩};exact h.elim
theorem nW:∀{vs:List V}{ns:A08},av K H vs (ns.map PyData.int)->vs=ns.map V.int
 |_,[],h=>by cases h;rfl
 |_,n::ns,h=>by
  cases h with
  |cons h t=>cases h;rw[nW t];rfl
theorem sF:∀(ns:A08),av K H (ns.map V.int) (ns.map PyData.int)
 |[]=>.nil
 |n::ns=>.cons (.int n) (sF ns)
theorem xq:∀{vs:List V}{ns:A04},av K H vs (ns.map PyData.bool)->vs=ns.map V.bl
 |_,[],h=>by cases h;rfl
 |_,n::ns,h=>by
  cases h with
  |cons h t=>cases h;rw[xq t];rfl
def fN(h:Rp K H x (.list ds)):∃a xs,x=.ref a/\bX K H a xs/\av K H xs ds:=by
 cases h with
 |lst a r=>exact⟨_,_,rfl,a,r⟩
def tw:DR:=λds P=>∃ns:A08,ds=[.list (ns.map .int)]/\P .sh (.int ns.sum)
def LS:cT K tw λxs H Q=>∃(a:Addr)(ns:A08),xs=[.ref a]/\bF K H a (ns.map V.int)/\Q (.int ns.sum) H:=by rintro H Hm vs ds P Q s r⟨ns,rfl,h⟩q;obtain⟨x,rfl,h1⟩:=cR r;obtain⟨a,xs,rfl,ha,r1⟩:=fN h1;cases nW r1;exact⟨a,ns,rfl,(bX.mono s ha).sq,bB.sc q s h (.int _)⟩
def lY:DR:=λds P=>∃ns:A08,ds=[.list (ns.map .int)]/\ns≠[]/\∀M,M∈ns->(∀n∈ns,M<=n)->P .sh (.int M)
def Jl:cT K lY λxs H Q=>∃(a:Addr)(ns:A08),xs=[.ref a]/\bF K H a (ns.map V.int)/\ns≠[]/\∀M,M∈ns->(∀n∈ns,M<=n)->Q (.int M) H:=by rintro H Hm vs ds P Q s r⟨ns,rfl,hn,h⟩q;obtain⟨x,rfl,h1⟩:=cR r;obtain⟨a,xs,rfl,ha,r1⟩:=fN h1;cases nW r1;exact⟨a,ns,rfl,(bX.mono s ha).sq,hn,λM m1 m2=>bB.sc q s (h M m1 m2) (.int _)⟩
def CK:DR:=λds P=>∃ns:A08,ds=[.list (ns.map .int)]/\ns≠[]/\∀M,M∈ns->(∀n∈ns,n<=M)->P .sh (.int M)
def IC:cT K CK λxs H Q=>∃(a:Addr)(ns:A08),xs=[.ref a]/\bF K H a (ns.map V.int)/\ns≠[]/\∀M,M∈ns->(∀n∈ns,n<=M)->Q (.int M) H:=by rintro H Hm vs ds P Q s r⟨ns,rfl,hn,h⟩q;obtain⟨x,rfl,h1⟩:=cR r;obtain⟨a,xs,rfl,ha,r1⟩:=fN h1;cases nW r1;exact⟨a,ns,rfl,(bX.mono s ha).sq,hn,λM m1 m2=>bB.sc q s (h M m1 m2) (.int _)⟩
def Ci:DR:=λds P=>∃bs:A04,ds=[.list (bs.map .bool)]/\P .sh (.bool (bs.all id))
def MC:cT K Ci λxs H Q=>∃(a:Addr)(bs:A04),xs=[.ref a]/\bF K H a (bs.map V.bl)/\Q (.bl (bs.all id)) H:=by rintro H Hm vs ds P Q s r⟨ns,rfl,h⟩q;obtain⟨x,rfl,h1⟩:=cR r;obtain⟨a,xs,rfl,ha,r1⟩:=fN h1;cases xq r1;exact⟨a,ns,rfl,(bX.mono s ha).sq,bB.sc q s h (.bl _)⟩
def pD (p:Int×Int):PyData:=.tuple [.int p.1,.int p.2]
inductive BQ(vs:List V)(H:Hp)(Q:VK):Prop
 |mk:∀j:Int,(vs=[.int j])->(∀p,H p=none->0<=j/\j<=1000/\∀l,upd H p (.sf 0 j) l=none->Q (.ref l) (upd (upd H p (.sf 0 j)) l (.lst (((List.range j.toNat).map λi:Nat=>(i:Int)).map V.int))))->BQ vs H Q
def E7:List V->Hp->VK->Prop:=λvs H Q=>BQ vs H Q
def ly:DR:=λds P=>match ds with
 |[.int j]=>(0<=j/\j<=1000)/\P (.ow false) (.list (kq 0 j.toNat))
 |_=>False
def MF(n:Nat):av K H (((List.range n).map λi:Nat=>(i:Int)).map V.int) (kq 0 n):=by have:=sF (K:=K) (H:=H) ((List.range n).map λi:Nat=>(i:Int));rw[VG (l:=List.range n) (g:=PyData.int)]at this;unfold kq;rw[show(λi:Nat=>PyData.int (0+i))=PyData.int∘λi:Nat=>(i:Int)from funext λi=>by simp];exact this
def Gz:cT K ly E7:=by intro H Hm vs ds P Q s r h q;unfold ly at h;split at h;{obtain⟨x,rfl,h1⟩:=cR r;cases h1;rename_i j;refine⟨j,rfl,λp hp=>⟨h.1.1,h.1.2,λl hl=>?_⟩⟩;have s1:=aQ (o:=.sf 0 j) hp;have s2:=aQ (o:=.lst (((List.range j.toNat).map λi:Nat=>(i:Int)).map V.int)) hl;refine q _ _ _ _ Hm [l] h.2 (s1.trans s2) (ah.refl _) (s.trans (s1.trans s2)) (λ_ _=>.inl rfl) (.ow aq (MF _)) λa ha=>?_;rw[V7.mp ha];have:H l=none:=s1.free hl;exact⟨this,gW s this⟩};exact h.elim
def IS(hc:X.calm=true)(g1:Gl X "list")(m1:X.mg "list"=none)(g2:Gl X "range")(m2:X.mg "range"=none)(ns:noStar a=true)(S:aJ X Ex Y [a] as) : SE X Ex Y (.Call (.Name "list" p1) [.Call (.Name "range" p2) [a] [] pos2] [] pos) (aa ly as):=
 eV (r:=E7) S (λU H Q h=>WE.of (iI (DY hc) g1 m1 XM (bg (iI Ax g2 m2 PyProof.Rows.boot_range (dJ (es:=[a]) (by rw[VJ,ns];rfl)) (by decide) (by decide) (aG ns) (by rfl)) dh)) (by
  refine λpins s I=>aM (h pins s I) λv s1 ⟨x,H1,I1,r1,j,e,q⟩=>⟨x,H1,I1,r1,?_⟩
  cases e;refine⟨j,rfl,λp hp=>?_⟩
  obtain⟨q1,q2,q3⟩:=q p hp;exact⟨p,j,rfl,aq,q1,q2,q3⟩)) Gz
end
inductive Ag(K:Frag)(H Hm:Hp):A04->List V->A00->A03->Prop
 |nil:Ag K H Hm [] [] [] []
 |sh {ms:A04}{vs:List V}{ds:A00}{as:A03}{v:V}{d:PyData}:Rp K Hm v d->Ag K H Hm ms vs ds as->Ag K H Hm (false::ms) (v::vs) (d::ds) as
 |mu {ms:A04}{vs:List V}{ds:A00}{as:A03}{a:Addr}{xs:List V}{es:A00}:H a=some (.lst xs)->av K Hm xs es->Hm a=none->a∉as->Ag K H Hm ms vs ds as->Ag K H Hm (true::ms) (.ref a::vs) (.list es::ds) (a::as)
inductive Bk(K:Frag)(H Hm:Hp):A03->A00->Prop
 |nil:Bk K H Hm [] []
 |cons {a:Addr}{xs:List V}{es:A00}{as:A03}{us:A00}:H a=some (.lst xs)->av K Hm xs es->Hm a=none->Bk K H Hm as us->Bk K H Hm (a::as) (.list es::us)
noncomputable def bS (mg:Zr)(K:Frag)(ms:A04)(sp:bz):Sp:=λvs H Q Ex=>∃(ds:A00)(as:A03)(Hm:Hp)(P:A00->Kd->PyData->Prop)(x:XC),ah Hm H/\Ag K H Hm ms vs ds as/\sp ds P x /\
 (∀us k r u H' Hm' fp,P us k r->ah Hm Hm'->ah Hm' H'->(∀p o,p∉as->H p=some o->H' p=some o)->(∀a,a∉as->H a≠none->OE (Hm' a) (Hm a))->Bk K H' Hm' as us->Own K H' Hm' k u r fp->(∀a∈fp,H a=none/\Hm' a=none)->Q u H') /\
 (∀c d C a H',mg c=some (.ref C)->x c d->(∀p o,p∉as->H p=some o->H' p=some o)->H' a=some (.ext (eZ a C none))->H a=none->Ex (.ref C) (some a) H')
section
variable{K:Frag}{g:Gh}{U:St}
def RK{F:Nat->A03}(R:Rl K g E U H Hm F)(s:ah Hm Hm1):∀{ms:A04}{as:List Arg}{os:List (Option PyData)}{vs:List V}{ds:A00},Got K U Hm as os vs->fill as E os=some ds->shape ms as=true->(lent ms as).Nodup->(∀i∈lent ms as,∃p es,E[i]?=some (some (.ow p,.list es)))->(∀i∈kept ms as,∀a∈F i,Hm1 a=H a)->(∀i∈lent ms as,∀a∈F i,Hm1 a=none)->∃ix:List (Nat×Addr),ix.map (·.1)=lent ms as/\Ag K H Hm1 ms vs ds (ix.map (·.2))/\∀q∈ix,U[q.1]?=some (some (.ref q.2))/\F q.1=[q.2]:=by
 intro ms as os vs ds G;induction G generalizing ms ds with
 |nil=>
  intro h sh nd hl hk hn;cases ms with
  |nil=>cases h;exact⟨[],rfl,.nil,λ_ z=>by cases z⟩
  |cons b ms=>cases b<;>cases sh
 |@pk i v as os vs hv G ih=>
  intro h sh nd hl hk hn;cases ms with
  |nil=>cases sh
  |cons b ms=>
   cases b with
   |false=>
    rw[fill]at h;split at h
    .rename_i k d e;by_cases hr:k.rd=true
     .rw[if_pos hr]at h;cases hf:fill as E os with
      |none=>rw[hf]at h;cases h
      |some es=>rw[hf]at h;cases h;obtain⟨v',h1,h2⟩:=R.slot i k d e;rw[hv]at h1;cases h1;obtain⟨ix,e1,e2,e3⟩:=ih (ms:=ms) hf sh nd hl (λj hj=>hk j (VA _ hj)) hn;exact⟨ix,e1,.sh (h2.rp hr s (hk i V3)) e2,e3⟩
     rw[if_neg hr]at h;cases h
    cases h
   |true=>
    rw[fill]at h;obtain⟨p,es0,e0⟩:=hl i V3;rw[e0]at h;have h:(if(Kd.ow p).rd=true then(fill as E os).map (PyData.list es0::·)else none)=some _:=h;rw[if_pos (show(Kd.ow p).rd=true from rfl)]at h;cases hf:fill as E os with
    |none=>rw[hf]at h;cases h
    |some es=>
     rw[hf]at h;cases h;obtain⟨v',h1,h2⟩:=R.slot i _ _ e0;rw[hv]at h1;cases h1;have nd':=W6.mp (show(i::lent ms as).Nodup from nd);obtain⟨ix,e1,e2,e3⟩:=ih (ms:=ms) hf sh nd'.2 (λj hj=>hl j (VA _ hj)) hk (λj hj=>hn j (VA _ hj));have hFi:=hn i V3;generalize hF:F i=fi at h2 hFi;cases h2 with
     |@ow _ a xs _ ha hr=>refine⟨(i,a)::ix,?_,.mu ha (hr.mono s) (hFi a V3) ?_ e2,?_⟩;{show i::ix.map (·.1)=i::lent ms as;rw[e1]};{intro m;obtain⟨q,hq,rfl⟩:=V8.mp m;have:=R.aD i q.1 q.2 (by rw[hF];exact V3) (by rw[(e3 q hq).2];exact V3);exact nd'.1 (e1▸(this▸V8.mpr ⟨q,hq,rfl⟩))};intro q hq;rcases VB.mp hq with rfl|hq;{exact⟨hv,hF⟩};exact e3 q hq
 |@ev d0 v u as os vs r G ih=>
  intro h sh nd hl hk hn;cases ms with
  |nil=>cases sh
  |cons b ms=>
   cases b with
   |true=>cases sh
   |false=>
    rw[fill]at h;cases hf:fill as E os with
    |none=>rw[hf]at h;cases h
    |some es=>rw[hf]at h;cases h;obtain⟨ix,e1,e2,e3⟩:=ih (ms:=ms) hf sh nd hl hk hn;exact⟨ix,e1,.sh (r.mono s) e2,e3⟩
theorem n5:∀{ms:A04}{as:List Arg}{us:A00}{E E2:En},tG ms as us E=some E2->(lent ms as).Nodup->E2.length=E.length/\(∀j,j∉lent ms as->E2[j]?=E[j]?)/\(lent ms as).length=us.length /\ ∀(n i:Nat)(u:PyData),(lent ms as)[n]?=some i->us[n]?=some u->∃p es es',u=.list es'/\E[i]?=some (some (.ow p,.list es))/\E2[i]?=some (some (.ow p,.list es'))
 |[],[],[],E,E2,h,_=>by cases h;exact⟨rfl,λ_ _=>rfl,rfl,λ_ _ _ z=>by cases z⟩
 |[],[],_::_,E,E2,h,_=>by cases h
 |[],_::_,_,E,E2,h,_=>by cases h
 |false::ms,.pk j::r,us,E,E2,h,nd=>n5 (ms:=ms) (as:=r) (us:=us) h nd
 |false::ms,.ev _::r,us,E,E2,h,nd=>n5 (ms:=ms) (as:=r) (us:=us) h nd
 |false::ms,[],us,E,E2,h,_=>by cases h
 |true::ms,[],us,E,E2,h,_=>by cases h
 |true::ms,.ev _::r,us,E,E2,h,_=>by cases h
 |true::ms,.pk i::r,[],E,E2,h,_=>by cases h
 |true::ms,.pk i::r,u::us,E,E2,h,nd=>by
  rw[tG]at h;obtain⟨n1,n2⟩:=W6.mp (show(i::lent ms r).Nodup from nd);split at h
  .rename_i p es e;by_cases hu:Bx u=true
   .rw[if_pos hu]at h;cases u with
    |list es'=>
     have li:i<E.length:=by rcases WM i E.length with h|h;{exact h};rw[VY h]at e;cases e
     obtain⟨l1,g1,l2,g2⟩:=n5 (ms:=ms) (as:=r) (us:=us) h n2;rw[VT]at l1;refine⟨l1,λj hj=>?_,congrArg (·+1) l2,λn j v h1 h2=>?_⟩;{have hj':j∉lent ms r:=λz=>hj (VA _ z);have hne:i≠j:=λz=>hj (z▸V3);rw[g1 j hj',ai hne]};cases n with
     |zero=>cases h1;cases h2;exact⟨p,es,es',rfl,e,by rw[g1 i n1,aC li]⟩
     |succ n=>have h1:(lent ms r)[n]?=some j:=h1;have h2:us[n]?=some v:=h2;obtain⟨p',fs,fs',e1,e2,e3⟩:=g2 n j v h1 h2;have hne:i≠j:=λz=>n1 (z▸VZ h1);rw[ai hne]at e2;exact⟨p',fs,fs',e1,e2,e3⟩
    |_=>cases hu
   rw[if_neg hu]at h;cases h
  cases h
theorem Bk.get:∀{as:A03}{us:A00}{n:Nat}{a:Addr},Bk K H Hm as us->as[n]?=some a->∃xs es,us[n]?=some (.list es)/\H a=some (.lst xs)/\av K Hm xs es/\Hm a=none
 |_,_,_,_,.nil,h=>by simp at h
 |_,_,0,_,.cons h1 h2 h3 _,h=>by simp at h;subst h;exact⟨_,_,rfl,h1,h2,h3⟩
 |_,_,n+1,_,.cons _ _ _ t,h=>t.get (n:=n) (by simpa using h)
def uR{E E2 E3:En}{H H' Hm Hm2:Hp}{F:Nat->A03}{is:A07}{ix:List (Nat×Addr)}{us:A00}{k:Kd}{u:V}{v:PyData}{fp:A03}(R:Rl K g E U H Hm F)(hix:∀q∈ix,U[q.1]?=some (some (.ref q.2))/\F q.1=[q.2])(hik:∀q∈ix,q.1∉is)(l2:E2.length=E.length)(hs:∀j,j∉ix.map (·.1)->E2[j]?=E[j]?)(hu:∀q∈ix,∃p es xs' es',PyData.list es'∈us/\E[q.1]?=some (some (.ow p,.list es))/\E2[q.1]?=some (some (.ow p,.list es'))/\H' q.2=some (.lst xs')/\av K Hm2 xs' es'/\Hm2 q.2=none)(hE:(if(flat k v&&us.all (flat (.ow false)))=true then some E2 else d8 is E2)=some E3)(s1:ah (lend Hm H (is.flatMap F)) Hm2)(s2:ah Hm2 H')(sH:∀p o,p∉ix.map (·.2)->H p=some o->H' p=some o)(old:∀a,a∉ix.map (·.2)->H a≠none->OE (Hm2 a) (lend Hm H (is.flatMap F) a))(o:Own K H' Hm2 k u v fp)(fr:∀a∈fp,H a=none/\Hm2 a=none) : ∃Hm' F',Rl K g E3 U H' Hm' F'/\ah Hm Hm'/\Tm K g F' H' Hm' k u v fp:=by
 have mem:∀{a i},a∈F i->i∈is->a∈is.flatMap F:=λha hi=>W2.mpr ⟨_,hi,ha⟩;have off:∀a∈is.flatMap F,Hm a=none:=λa ha=>by obtain⟨i,_,h⟩:=W2.mp ha;exact R.off i a h
 have up:ah Hm (lend Hm H (is.flatMap F)):=fP off;have aX:∀{i a},a∈F i->H a≠none:=λha z=>by obtain⟨u,hu,_⟩:=R.aX _ _ ha;rw[z]at hu;cases hu
 have own:∀q∈ix,q.2∈F q.1:=λq hq=>by rw[(hix q hq).2];exact V3
 have lentF:∀{i a},a∈F i->a∈ix.map (·.2)->i∈ix.map (·.1):=λ{i a} ha m=>by obtain⟨q,hq,rfl⟩:=V8.mp m;exact V8.mpr ⟨q,hq,(R.aD i q.1 q.2 ha (own q hq)).symm⟩
 have lis:∀a,a∈ix.map (·.2)->a∉is.flatMap F:=λa m z=>by obtain⟨q,hq,rfl⟩:=V8.mp m;obtain⟨i,hi,h⟩:=W2.mp z;exact hik q hq (R.aD i q.1 q.2 h (own q hq)▸hi)
 have nfp:∀a∈fp,∀i,a∉F i:=λa ha i=>R.fresh (fr a ha).1;have m2:∀{a},H a≠none->a∉is.flatMap F->(a∉ix.map (·.2)/\OE (Hm2 a) (Hm a))\/(a∈ix.map (·.2)/\Hm2 a=none):=λ{a} h c=>by by_cases z:a∈ix.map (·.2);{obtain⟨q,hq,rfl⟩:=V8.mp z;obtain⟨_,_,_,_,_,_,_,_,_,e⟩:=hu q hq;exact .inr ⟨z,e⟩};refine .inl ⟨z,?_⟩;have h':=old a z h;rw[bV c]at h';exact h'
 have offI:∀{i a},a∈F i->a∉is.flatMap F->Hm2 a=none:=λ{i a} ha c=>by rcases m2 (aX ha) c with⟨z,e⟩|⟨_,e⟩;{obtain⟨w,hw,nt⟩:=R.aX i a ha;exact e.off (R.off i a ha) s2 (sH a w z hw) nt};exact e
 have od:∀{a},g.H0 a≠none->a∉is.flatMap F->OE (Hm2 a) (g.dZ a):=λ{a} h c=>by rcases m2 (R.l5 h) c with⟨_,e⟩|⟨z,e⟩;{exact e.trans (R.old a h)};obtain⟨q,hq,rfl⟩:=V8.mp z;have h':=R.old _ h;rw[R.off q.1 q.2 (own q hq)]at h';rw[e];exact h'
 have hliv:∀{i a},a∈F i->∃w,H' a=some w/\pM w:=λ{i a} ha=>by by_cases z:a∈ix.map (·.2);{obtain⟨q,hq,rfl⟩:=V8.mp z;obtain⟨_,_,_,_,_,_,_,e,_,_⟩:=hu q hq;exact⟨_,e,iM⟩};obtain⟨w,hw,nt⟩:=R.aX i a ha;exact⟨w,sH a w z hw,nt⟩
 have keepH:∀{j a},j∉ix.map (·.1)->a∈F j->H' a=H a:=λ{j a} hj ha=>by obtain⟨w,hw,_⟩:=R.aX j a ha;rw[hw];exact sH a w (λz=>hj (lentF ha z)) hw
 have frm:∀p o,p∉g.M->g.H0 p=some o->H' p=some o:=λp o hp ho=>by refine sH p o (λz=>?_) (R.fr p o hp ho);obtain⟨q,hq,rfl⟩:=V8.mp z;rcases R.new q.1 q.2 (own q hq)with y|y;{exact hp y};rw[y]at ho;cases ho
 have pinn:∀{E4:En},(∀j,j∉is->E4[j]?=E2[j]?)->(∀j∈is,E4[j]?=E2[j]?\/∃k d,E2[j]?=some (some (k,d))/\k.fz=true)->∀q∈g.pins,U[q.1]?=some (some (.ref q.2))/\∃ds,E4[q.1]?=some (some (.ow true,.list ds)):=λ{E4} h4 h5 q hq=>by
  obtain⟨h1,ds',h2⟩:=R.pin q hq;refine⟨h1,?_⟩;have e2:∃ds,E2[q.1]?=some (some (.ow true,.list ds)):=by by_cases z:q.1∈ix.map (·.1);{obtain⟨q',hq',e⟩:=V8.mp z;obtain⟨p,es,xs',es',_,g1,g2,_⟩:=hu q' hq';rw[e,h2]at g1;cases g1;exact⟨es',e▸g2⟩};exact⟨ds',by rw[hs _ z];exact h2⟩
  obtain⟨ds,e2⟩:=e2;by_cases z:q.1∈is;{rcases h5 _ z with y|⟨k0,d0,y,yk⟩;{exact⟨ds,y.trans e2⟩};rw[e2]at y;cases y;cases yk};exact⟨ds,(h4 _ z).trans e2⟩
 by_cases hf:(flat k v&&us.all (flat (.ow false)))=true
 .rw[if_pos hf]at hE;cases hE;rw[V9,VL]at hf;have st:kC Hm2 (back Hm2 (is.flatMap F)):=λa xs h=>by
   have c:a∉is.flatMap F:=λz=>by obtain⟨i,_,hi⟩:=W2.mp z;obtain⟨w,hw,nt⟩:=R.aX i a hi;have e2:Hm2 a=some w:=s1 _ _ (by rw[cV z];exact hw);rw[e2]at h;cases h;exact nt xs rfl
   rw[b9 c];exact h
  have upB:ah Hm (back Hm2 (is.flatMap F)):=λb o e=>by rw[b9 λz=>by rw[off b z]at e;cases e];exact s1 _ _ (up _ _ e)
  have R':Rl K g E2 U H' (back Hm2 (is.flatMap F)) F:={
   len:=l2.trans R.len
   sub:=tQ s2
   slot:=λj k' d' e'=>by
    by_cases z:j∈ix.map (·.1)
    .obtain⟨q,hq,rfl⟩:=V8.mp z;obtain⟨p,es,xs',es',mu,g1,g2,g3,g4,_⟩:=hu q hq;rw[g2]at e';cases e';obtain⟨h1,h2⟩:=hix q hq;exact⟨_,h1,by rw[h2];exact .ow g3 (g4.yb st (hf.2 _ mu))⟩
    .rw[hs j z]at e';obtain⟨v',h1,h2⟩:=R.slot j k' d' e';exact⟨v',h1,h2.step upB λa ha=>keepH z ha⟩
   off:=λi a ha=>by
    by_cases c:a∈is.flatMap F
    .exact iO c
    .rw[b9 c];exact offI ha c
   aX:=λi a ha=>hliv ha
   aD:=R.aD
   fr:=frm
   new:=R.new
   pin:=pinn (λj _=>rfl) λj _=>.inl rfl
   old:=λa ha=>by
    by_cases c:a∈is.flatMap F
    .have h':=R.old a ha;rw[off a c]at h';rw[iO c];exact h'
    .rw[b9 c];exact od ha c }
  refine⟨_,F,R',upB,⟨o.flat st hf.1,λa ha=>?_,nfp,λa ha=>R.d7 (fr a ha).1⟩⟩;by_cases c:a∈is.flatMap F;{exact iO c};rw[b9 c];exact(fr a ha).2
 rw[if_neg hf]at hE;obtain⟨l3,g3⟩:=oA hE;have R':Rl K g E3 U H' Hm2 (λj=>if j∈is then []else F j):={
  len:=l3.trans (l2.trans R.len)
  sub:=s2
  slot:=λj k' d' e'=>by
   by_cases c:j∈is
   .obtain⟨k0,d0,e0,hk0,e1⟩:=(g3 j).2 c;rw[e1]at e';cases e';have z:j∉ix.map (·.1):=λz=>by
     obtain⟨q,hq,rfl⟩:=V8.mp z;exact hik q hq c
    rw[hs j z]at e0;obtain⟨v',h1,h2⟩:=R.slot j k0 _ e0;refine⟨v',h1,?_⟩;rw[if_pos c];exact .sh ((h2.rp (by cases k0<;>first|rfl|cases hk0) up λa ha=>cV (mem ha c)).mono s1)
   .rw[(g3 j).1 c]at e';rw[if_neg c]
    by_cases z:j∈ix.map (·.1)
    .obtain⟨q,hq,rfl⟩:=V8.mp z;obtain⟨p,es,xs',es',mu,g1,g2,g4,g5,_⟩:=hu q hq;rw[g2]at e';cases e';obtain⟨h1,h2⟩:=hix q hq;exact⟨_,h1,by rw[h2];exact .ow g4 g5⟩
    .rw[hs j z]at e';obtain⟨v',h1,h2⟩:=R.slot j k' d' e';exact⟨v',h1,h2.step (up.trans s1) λa ha=>keepH z ha⟩
  off:=λj a ha=>by
   by_cases c:j∈is
   .rw[if_pos c]at ha;cases ha
   .rw[if_neg c]at ha;exact offI ha λz=>by
     obtain⟨i,hi,h⟩:=W2.mp z;exact c (R.aD i j a h ha▸hi)
  aX:=λj a ha=>by
   by_cases c:j∈is
   .rw[if_pos c]at ha;cases ha
   .rw[if_neg c]at ha;exact hliv ha
  aD:=λj l a h1 h2=>by
   by_cases c:j∈is
   .rw[if_pos c]at h1;cases h1
   .rw[if_neg c]at h1
    by_cases c':l∈is
    .rw[if_pos c']at h2;cases h2
    .rw[if_neg c']at h2;exact R.aD j l a h1 h2
  fr:=frm
  new:=λj a ha=>by
   by_cases c:j∈is
   .rw[if_pos c]at ha;cases ha
   .rw[if_neg c]at ha;exact R.new j a ha
  pin:=pinn (λj hj=>(g3 j).1 hj) λj hj=>by
   obtain⟨k0,d0,e0,hk0,_⟩:=(g3 j).2 hj;exact .inr ⟨k0,d0,e0,hk0⟩
  old:=λa ha=>by
   refine od ha λz=>?_
   obtain⟨i,hi,h⟩:=W2.mp z;obtain⟨k0,d0,e0,hk0,_⟩:=(g3 i).2 hi;have zi:i∉ix.map (·.1):=λz=>by
    obtain⟨q,hq,rfl⟩:=V8.mp z;exact hik q hq hi
   rw[hs i zi]at e0;exact ha (R.notM e0 (by cases k0<;>first|rfl|(rename_i p;cases p<;>first|rfl|cases hk0)|cases hk0) h) }
 refine⟨Hm2,_,R',up.trans s1,⟨o,λa ha=>(fr a ha).2,λa ha i=>?_,λa ha=>R.d7 (fr a ha).1⟩⟩;by_cases c:i∈is;{rw[if_pos c];simp};rw[if_neg c];exact nfp a ha i
end
section
variable{X:Cx}{Ex:XK}{Y:A07}
def Mk{x:Str}{k:Nat}{ps:A09}{ms:A04}{sp:bz}{p pos:Pos}{e:Expr}{es:A05}{as:List Arg}(F:bG X.prog X.w X.K X.mg X.base k x ps (bS X.mg X.K ms sp))(hp:Passes (dS X.prog X.w) X Ex)(hr:cW k X.A)(hg:Gl X x)(hd:(x==("__debug__":Str))=false)(ns:(e::es).all noStar=true)(S:aJ X Ex Y (e::es) as):SE X Ex Y (.Call (.Name x p) (e::es) [] pos) (aN sp ms as):=by
 intro g xc E U H Hm Fo P Q hx R h q;obtain⟨f,fd,h1,h2,h3,h4⟩:=F;refine WE.of (AR (E:=Ex) h4 hr hg h1 h2 h3 .nil hp (dJ ns) hd (aG (by rw[VJ,V9]at ns;exact ns.1)) (fE (by rw[VJ,V9]at ns;exact ns.2))) ?_;refine iS hx S R h λE1 os vs H1 Hm1 F1 p R1 s1 G=>?_;replace p:FW sp ms as xc E1 os P:=p;unfold FW at p;rw[<-bq,dR]at p;obtain⟨ds,hf,p⟩:=p;rw[cS,Iq]at p;obtain⟨hl,hsp⟩:=p;unfold yj at hl;rw[V9,V9,Wu,VL]at hl;obtain⟨⟨l1,l2⟩,l3⟩:=hl;have hlent:∀i∈lent ms as,i∉kept ms as/\∃p es,E1[i]?=some (some (.ow p,.list es)):=λi hi=>by have:=l3 i hi;rw[V9]at this;refine⟨λz=>?_,?_⟩;{have y:=this.1;rw[YN,Y5]at y;simp[z]at y};have y:=this.2;split at y;{rename_i p es e;exact⟨p,es,e⟩};cases y
 have off:∀a∈(kept ms as).flatMap F1,Hm1 a=none:=λa ha=>by obtain⟨i,_,h⟩:=W2.mp ha;exact R1.off i a h
 have up:=fP (Hm:=Hm1) (H:=H1) off;obtain⟨ix,e1,e2,e3⟩:=RK R1 up (ms:=ms) G hf l1 l2 (λi hi=>(hlent i hi).2) (λi hi a ha=>cV (W2.mpr ⟨i,hi,ha⟩)) λi hi a ha=>by
  rw[bV λz=>by
   obtain⟨j,hj,h⟩:=W2.mp z;exact(hlent i hi).1 (R1.aD j i a h ha▸hj)]
  exact R1.off i a ha
 show bS X.mg X.K ms sp (vs++[]) H1 Q Ex;rw[W9];refine⟨ds,ix.map (·.2),lend Hm1 H1 ((kept ms as).flatMap F1),_,xc,gn R1.sub,e2,hsp,λus k r u H' Hm' fp p sM sS fr old bk o new=>?_,λc d C a H' hC hxc fr ha hn=>?_⟩
 .replace p:EH ms as E1 us k r P:=p;unfold EH at p;rw[<-bq,wA]at p;obtain⟨E2,hu,p⟩:=p;rw[<-bq,Im]at p;obtain⟨E3,ha,p⟩:=p;obtain⟨u1,u2,u3,u4⟩:=n5 hu l2;have hu':∀q∈ix,∃p es xs' es',PyData.list es'∈us/\E1[q.1]?=some (some (.ow p,.list es))/\E2[q.1]?=some (some (.ow p,.list es'))/\H' q.2=some (.lst xs')/\av X.K Hm' xs' es'/\Hm' q.2=none:=λq hq=>by
   obtain⟨n,hn⟩:=Wz hq;have hn1:(lent ms as)[n]?=some q.1:=by rw[<-e1,VE,hn];rfl
   have hn2:(ix.map (·.2))[n]?=some q.2:=by rw[VE,hn];rfl
   obtain⟨xs',es',g1,g2,g3,g4⟩:=bk.get hn2;obtain⟨p',es,es'',g5,g6,g7⟩:=u4 n q.1 _ hn1 g1;cases g5;exact⟨p',es,xs',es',VZ g1,g6,g7,g2,g3,g4⟩
  obtain⟨Hm'',F'',R'',s'',T⟩:=uR R1 (is:=kept ms as) (ix:=ix) (us:=us) e3 (λq hq=>(hlent q.1 (e1▸V8.mpr ⟨q,hq,rfl⟩)).1) u1 (λj hj=>u2 j (e1▸hj)) hu' (t9 ha) sM sS fr old o new;exact q _ _ _ _ _ _ _ _ p R'' (s1.trans s'') T
 refine hx c d C a H' hC hxc (λp o hp ho=>?_) ha (R1.d7 hn);refine fr p o (λz=>?_) (R1.fr p o hp ho);obtain⟨q,hq,rfl⟩:=V8.mp z;rcases R1.new q.1 q.2 (by rw[(e3 q hq).2];exact V3)with y|y;{exact hp y};rw[y]at ho;cases ho
end
def WS (X:Cx)(st:Stmt):TS:=λD U H=>∀(pins:Zs)(s:Shared),Inv X pins U H s->wpAny (model X.prog X.w) X.A (exec st X.env) (SP X pins D) X.xe s
def pQ (X:Cx)(st:A06):TS:=λD U H=>∀(pins:Zs)(s:Shared),Inv X pins U H s->wpAny (model X.prog X.w) X.A (execs st X.env) (SP X pins D) X.xe s
def D3:PS X st (WS X st):=λpins s _ _ _ I h=>h pins s I
def gE:l8 X st (pQ X st):=λpins s _ _ _ I h=>h pins s I
def WS.of(h:PS X st t)(q:t D U H):WS X st D U H:=λpins s I=>h pins s U H D I q
def pQ.of(h:l8 X st t)(q:t D U H):pQ X st D U H:=λpins s I=>h pins s U H D I q
def aR{α:Type}{l:List α}{i:Nat}{a:α}(h:l[i]?=some a):i<l.length:=by rcases WM i l.length with z|z;{exact z};rw[VY z]at h;cases h
def iJ{Y:A07}{U:St}{j i:Nat}{v:Option V}(nd:Y.Nodup)(h:Y[j]?=some i)(hi:i<U.length):(sel Y U).set j v=sel Y (U.set i v):=by
 have lj:j<Y.length:=aR h;refine WA λk=>?_;by_cases c:k=j;{subst c;rw[aC (by unfold sel;rw[V4];exact lj)];unfold sel;rw[VE,h];show some v=some ((U.set i v)[i]?).join;rw[aC hi];rfl};rw[ai (Ne.symm c)];unfold sel;rw[VE,VE];cases e:Y[k]? with
 |none=>rfl
 |some m=>
  have ne:i≠m:=λz=>c (by
   have h1:=X5.mp e;have h2:=X5.mp h;obtain⟨l1,e1⟩:=h1;obtain⟨l2,e2⟩:=h2;exact(List.getElem_inj nd).mp (e1.trans (z.symm.trans e2.symm)))
  show some (U[m]?).join=some ((U.set i v)[m]?).join;rw[ai ne]
abbrev aK (X:Cx):A07:=List.range X.N.length
noncomputable def Tc (X:Cx)(Ex:XK)(w:TS)(d:DS):Prop:=
 ∀(g:Gh)(D':fX)(E:En)(U:St)(H Hm:Hp)(F:Nat->A03)(D:Ends),XL X Ex D'.xc g->Rl X.K g E U H Hm F->d D' E->
  (∀E' σ' H' Hm' F',D'.nx E'->Rl X.K g E' σ' H' Hm' F'->ah Hm Hm'->D.nx (sel (aK X) σ') H')->
  (∀E' k v u σ' H' Hm' F' fp,D'.rt E' k v->Rl X.K g E' σ' H' Hm' F'->Tm X.K g F' H' Hm' k u v fp->D.rt u H')->w D (sel (aK X) U) H
abbrev S1 (X:Cx)(Ex:XK)(st:Stmt)(d:DS):Prop:=Tc X Ex (WS X st) d
abbrev SS (X:Cx)(Ex:XK)(st:A06)(d:DS):Prop:=Tc X Ex (pQ X st) d
section
variable{X:Cx}{Ex:XK}
def bQ:SS X Ex [] cU:=λg D' E U H Hm F D hx R h nx rt=>pQ.of Lx (nx _ _ _ _ _ h R (ah.refl _))
def af{st:Stmt}{rest:A06}{a b:DS}(h1:S1 X Ex st a)(h2:SS X Ex rest b):SS X Ex (st::rest) (ao a b):=by intro g D' E U H Hm F D hx R h nx rt;refine pQ.of (zF D3 gE) (h1 g { D' with nx:=b D' } E U H Hm F _ hx R h (λE1 σ1 H1 Hm1 F1 p1 R1 s1=>?_) rt);exact h2 g D' E1 σ1 H1 Hm1 F1 D hx R1 p1 (λE2 σ2 H2 Hm2 F2 p2 R2 s2=>nx _ _ _ _ _ p2 R2 (s1.trans s2)) rt
def qE{st:Stmt}{rest:A06}{a b:DS}(h1:S1 X Ex st a)(h2:SS X Ex rest b):SS X Ex (st::rest) (sL a b):=by intro g D' E U H Hm F D hx R h nx rt;obtain⟨J,h,hJ⟩:=h;refine pQ.of (zF D3 gE) (h1 g { D' with nx:=J } E U H Hm F _ hx R h (λE1 σ1 H1 Hm1 F1 p1 R1 s1=>?_) rt);exact h2 g D' E1 σ1 H1 Hm1 F1 D hx R1 (hJ E1 p1) (λE2 σ2 H2 Hm2 F2 p2 R2 s2=>nx _ _ _ _ _ p2 R2 (s1.trans s2)) rt
def ak(h1:S1 X Ex st a):SS X Ex [st] a:=λg D' E U H Hm F D hx R h nx rt=>pQ.of (Bc D3) (h1 g D' E U H Hm F D hx R h nx rt)
def Ug(hc:ST X Ex (aK X) c t)(ha:SS X Ex a d)(hb:SS X Ex b2 e):S1 X Ex (.If c a b2 pos) (b8 t d e):=by
 rw[Mz];intro g D' E U H Hm F D hx R h nx rt;refine WS.of (Q0 jI gE gE) (hc g D'.xc E U H Hm F _ (λb H1=>if b=true then pQ X a D _ H1 else pQ X b2 D _ H1) hx R h λE1 b H1 Hm1 F1 p1 R1 s1=>?_);cases b with
 |true=>exact oN (ha g D' E1 U H1 Hm1 F1 D hx R1 (by simpa using p1) (λE2 σ2 H2 Hm2 F2 p2 R2 s2=>nx _ _ _ _ _ p2 R2 (s1.trans s2)) rt)
 |false=>exact oq (hb g D' E1 U H1 Hm1 F1 D hx R1 (by simpa using p1) (λE2 σ2 H2 Hm2 F2 p2 R2 s2=>nx _ _ _ _ _ p2 R2 (s1.trans s2)) rt)
def Ro(h:SE X Ex (aK X) e d):S1 X Ex (.Return (some e) pos) (bU d):=λg D' E U H Hm F D hx R p nx rt=>WS.of (Gd aV) (h g D'.xc E U H Hm F _ _ hx R p λE' k v u H' Hm' F' fp p' R' s' T=>rt _ _ _ _ _ _ _ _ _ p' R' T)
def NT(h:SE X Ex (aK X) e d)(hs:swapsWith e none pos.line X.env=pure false):S1 X Ex (.Expr e pos) (b6 d):=λg D' E U H Hm F D hx R p nx rt=>WS.of (AL aV hs) (h g D'.xc E U H Hm F _ _ hx R p λE' k v u H' Hm' F' fp p' R' s' T=>nx _ _ _ _ _ p' R' s')
def Rl.move{K:Frag}{g:Gh}{E:En}{U:St}{H Hm:Hp}{F:Nat->A03}(R:Rl K g E U H Hm F){i:Nat}{k:Kd}{d:PyData}(e:E[i]?=some (some (k,d)))(hk:k.pin=false):∃v F',U[i]?=some (some v)/\Rl K g (E.set i none) U H Hm F'/\Tm K g F' H Hm k v d (F i):=by
 obtain⟨v,h1,h2⟩:=R.slot i k d e;have li:=aR e;refine⟨v,λj=>if j=i then []else F j,h1,?_,⟨h2,R.off i,λa ha j=>?_,λa ha=>R.notM e hk ha⟩⟩
 .exact {
   len:=by rw[VT];exact R.len
   sub:=R.sub
   slot:=λj k' d' e'=>by
    by_cases c:j=i
    .subst c;rw[aC li]at e';cases e'
    .rw[ai (Ne.symm c)]at e';obtain⟨u,g1,g2⟩:=R.slot j k' d' e';exact⟨u,g1,by rw[if_neg c];exact g2⟩
   off:=λj a ha=>by
    by_cases c:j=i
    .rw[if_pos c]at ha;cases ha
    .rw[if_neg c]at ha;exact R.off j a ha
   aX:=λj a ha=>by
    by_cases c:j=i
    .rw[if_pos c]at ha;cases ha
    .rw[if_neg c]at ha;exact R.aX j a ha
   aD:=λj l a g1 g2=>by
    by_cases c:j=i
    .rw[if_pos c]at g1;cases g1
    .rw[if_neg c]at g1
     by_cases c':l=i
     .rw[if_pos c']at g2;cases g2
     .rw[if_neg c']at g2;exact R.aD j l a g1 g2
   fr:=R.fr
   new:=λj a ha=>by
    by_cases c:j=i
    .rw[if_pos c]at ha;cases ha
    .rw[if_neg c]at ha;exact R.new j a ha
   pin:=λq hq=>by
    obtain⟨g1,ds',g2⟩:=R.pin q hq;have c:i≠q.1:=λz=>by
     rw[<-z,e]at g2;cases g2;cases hk
    exact⟨g1,ds',by rw[ai c];exact g2⟩
   old:=R.old }
 by_cases c:j=i;{rw[if_pos c];simp};rw[if_neg c];exact λz=>c (R.aD j i a z ha)
def gz{n i:Nat}(h:i<n):(List.range n)[i]?=some i:=VF h
def NN{i:Nat}(h:PE X e (lQ i))(hi:i<X.N.length):S1 X Ex (.Return (some e) pos) (fW i):=by
 intro g D' E U H Hm F D hx R p nx rt;replace p:G3 E i D'.rt:=p;unfold G3 at p;split at p
 rotate_left
 .exact p.elim
 rename_i k d e1;rw[cS]at p;obtain⟨hk,p⟩:=p;have hk:k.pin=false:=by simpa using hk
 obtain⟨v,F',h1,R',T⟩:=R.move e1 hk;exact WS.of (Gd h) ⟨v,bR (gz hi) h1,rt _ _ _ _ _ _ _ _ _ p R' T⟩
def fR{i:Nat}(h:bI E i=true):i<E.length:=by rcases WM i E.length with z|z;{exact z};unfold bI at h;rw[VY z]at h;cases h
def RQ{i:Nat}{x:Str}{e:Expr}{pos pos':Pos}{d:DE}(hN:X.N.Nodup)(hi:X.N[i]?=some x)(hl:Loc X.env.scope x)(hs:swapsWith e (some (.Name x pos')) pos.line X.env=pure false)(hf:X.fn x=true\/X.env.scope.names.lookup x=some .local)(h:SE X Ex (aK X) e d):S1 X Ex (.Assign [.Name x pos'] e pos) (aF i d):=by rw[vS];intro g D' E U H Hm F D hx R p nx rt;refine WS.of (OP hN hi hl aV hs hf) (h g D'.xc E U H Hm F _ _ hx R p λE' k v u H' Hm' F' fp p' R' s' T=>?_);show D.nx ((sel (aK X) U).set i (some u)) H';rw[iJ Wv (gz (aR hi)) (R'.len▸fR p'.1)];exact nx _ _ _ _ _ p'.2 (R'.put T p'.1) s'
inductive jW(X:Cx)(Y:A07):A05->A07->Prop
 |nil:jW X Y [] []
 |cons {x:Str}{p:Pos}{j i:Nat}{ts:A05}{is:A07}:X.N[j]?=some x->Y[j]?=some i->Loc X.env.scope x->(X.fn x=true\/X.env.scope.names.lookup x=some .local)->jW X Y ts is->jW X Y (.Name x p::ts) (i::is)
inductive gI(X:Cx)(Y:A07):Expr->Tg->Prop
 |nm {x:Str}{p:Pos}{j i:Nat}:X.N[j]?=some x->Y[j]?=some i->Loc X.env.scope x->(X.fn x=true\/X.env.scope.names.lookup x=some .local)->gI X Y (.Name x p) (.nm i)
 |tp {ts:A05}{k:Nat}{p:Pos}{is:A07}:jW X Y ts is->gI X Y (.Tuple ts k p) (.tp is)
 |nt {x:Str}{q p2 p:Pos}{ts:A05}{k k2 j i:Nat}{is:A07}:X.N[j]?=some x->Y[j]?=some i->Loc X.env.scope x->(X.fn x=true\/X.env.scope.names.lookup x=some .local)->jW X Y ts is->gI X Y (.Tuple [.Name x q,.Tuple ts k2 p2] k p) (.nt i is)
noncomputable def UN (X:Cx)(Y:A07)(tg:Tg)(G:TG):Prop:=∀{g:Gh}{d:PyData}{v:V}{E E2:En}{U:St}{H Hm:Hp}{F:Nat->A03}{Q:St->Hp->Prop},cX tg d E=some E2->Rp X.K Hm v d->Rl X.K g E U H Hm F->(∀σ' F',Rl X.K g E2 σ' H Hm F'->(∀j,j∉tg.slots->σ'[j]?=U[j]?)->Q (sel Y σ') H)->G v (sel Y U) H Q
def zO(hN:X.N.Nodup)(nd:Y.Nodup)(h:jW X Y ts is):∃G:su,Fi X ts G/\(assignEach ts X.env).length=is.length/\(assignEach ts X.env).findIdx? (·.1)=none /\ ∀{g:Gh}{ds:A00}{vs:List V}{E E2:En}{U:St}{H Hm:Hp}{F:Nat->A03}{Q:St->Hp->Prop},bL is ds E=some E2->av X.K Hm vs ds->Rl X.K g E U H Hm F->(∀σ' F',Rl X.K g E2 σ' H Hm F'->(∀j,j∉is->σ'[j]?=U[j]?)->Q (sel Y σ') H)->vs.length=is.length/\G vs (sel Y U) H Q:=by
 induction h with
 |nil=>
  refine⟨IY,Cf,rfl,rfl,λ{g ds vs E E2 U H Hm F Q} h r R q=>?_⟩;cases ds with
  |nil=>cases h;cases r;exact⟨rfl,rfl,q _ _ R λ_ _=>rfl⟩
  |cons _ _=>cases h
 |@cons x p j i ts is h1 h2 h3 h4 _ ih=>
  obtain⟨G,g1,g2,g3,g4⟩:=ih;refine⟨DH (rH j) G,sR (wg hN h1 h3 h4) g1,?_,?_,λ{g ds vs E E2 U H Hm F Q} h r R q=>?_⟩;{show(assignEach ts X.env).length+1=_;rw[g2];rfl};{show List.findIdx? (·.1) ((false,assign (.Name x p) X.env)::assignEach ts X.env)=none;rw[List.findIdx?_cons,g3];rfl};cases ds with
  |nil=>cases h
  |cons d ds=>
   rw[bL]at h;by_cases o:bI E i=true
   .rw[if_pos o]at h;cases r with
    |cons r1 r2=>
     obtain⟨l,k⟩:=g4 h r2 (R.put (Tm.sh r1) o) λσ' F' R' a=>q σ' F' R' λj' hj=>by have ne:i≠j':=λz=>hj (z▸V3);exact(a j' λz=>hj (VA _ z)).trans (ai ne)
     refine⟨congrArg (·+1) l,_,_,rfl,?_⟩;show G _ ((sel Y U).set j (some _)) H Q;rw[iJ nd h2 (R.len▸fR o)];exact k
   rw[if_neg o]at h;cases h
def vH{i:Nat}(h:cX (.nt i is) d E=some E2):∃a ds,d=.tuple [a,.tuple ds]/\bL (i::is) (a::ds) E=some E2:=by
 cases d with
 |tuple l=>
  rcases l with _|⟨a,_|⟨b,_|⟨c,r⟩⟩⟩;{cases h};{cases h}
  .cases b with
   |tuple ds=>exact⟨a,ds,rfl,h⟩
   |_=>cases h
  cases b<;>cases h
 |_=>cases h
def xW(hc:X.calm=true)(hN:X.N.Nodup)(nd:Y.Nodup)(h:gI X Y e tg):∃G,PG X e G/\UN X Y tg G:=by
 cases h with
 |@nm x p j i h1 h2 h3 h4=>refine⟨rH j,wg hN h1 h3 h4,λ{g d v E E2 U H Hm F Q} h r R q=>?_⟩;have h:bL [i] [d] E=some E2:=h;rw[bL]at h;by_cases o:bI E i=true;{rw[if_pos o]at h;cases h;show Q ((sel Y U).set j (some v)) H;rw[iJ nd h2 (R.len▸fR o)];exact q _ _ (R.put (Tm.sh r) o) λj' hj=>ai (show i≠j' from λz=>hj (z▸V3))};rw[if_neg o]at h;cases h
 |@tp ts k p is h=>
  obtain⟨G,g1,g2,g3,g4⟩:=zO hN nd h;refine⟨_,ya hc g1 g2 g3,λ{g d v E E2 U H Hm F Q} h r R q=>?_⟩;cases d with
  |tuple ds=>
   have h:bL is ds E=some E2:=h;cases r with
   |tup a r=>obtain⟨l,k⟩:=g4 h r R q;exact⟨_,_,rfl,bO.of (R.sub _ _ a),l,k⟩
  |_=>cases h
 |@nt x q p2 p ts k k2 j i is h1 h2 h3 h4 h=>
  obtain⟨G,g1,g2,g3,g4⟩:=zO hN nd h;refine⟨_,ya hc (sR (wg hN h1 h3 h4) (sR (ya hc g1 g2 g3) Cf)) rfl rfl,λ{g d v E E2 U H Hm F Q} h r R q=>?_⟩;obtain⟨a1,ds,rfl,h⟩:=vH h;cases r with
  |tup a r=>
   cases r with
   |cons r1 r2=>
    cases r2 with
    |cons r2 r3=>
     cases r3;cases r2 with
     |tup b rs=>
      replace h:(if bI E i then bL is ds (E.set i (some (.sh,a1)))else none)=some E2:=h;by_cases o:bI E i=true
      .rw[if_pos o]at h;obtain⟨l,k⟩:=g4 (Q:=λσ' H'=>IY [] σ' H' Q) h rs (R.put (Tm.sh r1) o) λσ' F' R' a=>⟨rfl,q σ' F' R' λj' hj=>by
        have ne:i≠j':=λz=>hj (z▸V3)
        exact(a j' λz=>hj (VA _ z)).trans (ai ne)⟩
       refine⟨_,_,rfl,bO.of (R.sub _ _ a),rfl,_,_,rfl,?_⟩;show DH _ _ _ ((sel Y U).set j (some _)) H Q;rw[iJ nd h2 (R.len▸fR o)];exact⟨_,_,rfl,_,_,rfl,bO.of (R.sub _ _ b),l,k⟩
      rw[if_neg o]at h;cases h
def Sj{k:Nat}(hc:X.calm=true)(hN:X.N.Nodup)(ht:jW X (aK X) ts is)(hs:swapsWithSole [.Tuple ts k p] e pos.line X.env=pure false)(hw:swappedStores [.Tuple ts k p] e X.env=pure none)(h:SE X Ex (aK X) e d):S1 X Ex (.Assign [.Tuple ts k p] e pos) (tL is d):=by
 intro g D' E U H Hm F D hx R pp nx rt;obtain⟨G,g1,g2⟩:=xW hc hN Wv (gI.tp (k:=k) (p:=p) ht);refine WS.of (HA aV g1 hs hw) (h g D'.xc E U H Hm F _ _ hx R pp λE' k v u H' Hm' F' fp p' R' s' T=>?_);replace p':bK k.fz _:=p';rw[cS]at p';obtain⟨hk,p'⟩:=p';unfold JS at p';split at p'
 rotate_left
 .exact p'.elim
 rename_i ds;rw[<-bq,FZ]at p';obtain⟨E2,e2,p'⟩:=p';have e2:cX (.tp is) (.tuple ds) E'=some E2:=e2;obtain⟨Hm2,s2,R2,r2⟩:=T.dX R' hk;exact g2 e2 r2 R2 λσ' F' R3 _=>nx _ _ _ _ _ p' R3 (s'.trans s2)
def MH(hp:PassesOwn (model X.prog X.w) X.A X.env X.xe)(hc:ST X Ex (aK X) c t)(hb:SS X Ex b d):S1 X Ex (.While c b [] pos) (qC t d):=by
 intro g D' E U H Hm F D hx R h nx rt;obtain⟨W,⟨m0,w0⟩,step⟩:=h;refine WS.of (Jj hp jI gE) ⟨λm τ H'=>∃E' σ' Hm' F',W m E'/\Rl X.K g E' σ' H' Hm' F'/\ah Hm Hm'/\τ=sel (aK X) σ',⟨m0,E,U,Hm,F,w0,R,ah.refl _,rfl⟩,?_⟩;rintro m τ H1⟨E1,σ1,Hm1,F1,w1,R1,s1,rfl⟩;refine hc g D'.xc E1 σ1 H1 Hm1 F1 _ _ hx R1 (step m E1 w1) λE2 b2 H2 Hm2 F2 p2 R2 s2=>?_;cases b2 with
 |true=>
  refine oN ⟨λτ H'=>∃m',m'<m/\∃E' σ' Hm' F',W m' E'/\Rl X.K g E' σ' H' Hm' F'/\ah Hm Hm'/\τ=sel (aK X) σ',λ_ _ z=>z,?_⟩;exact hb g { D' with nx:=λE'=>∃m',m'<m/\W m' E' } E2 σ1 H2 Hm2 F2 _ hx R2 (by simpa using p2) (λE3 σ3 H3 Hm3 F3 p3 R3 s3=>by
   obtain⟨m',hm,w3⟩:=p3;exact⟨m',hm,E3,σ3,Hm3,F3,w3,R3,s1.trans (s2.trans s3),rfl⟩) rt
 |false=>exact oq (nx _ _ _ _ _ (by simpa using p2) R2 (s1.trans s2))
noncomputable def yH (K:Frag)(J:It)(xs:A00)(dZ:Hp):Prop:=∀(i:Nat)(H Hm:Hp),ah dZ Hm->ah Hm H->
 (∀d,xs[i]?=some d->J.go i H/\∀x H',J.rR i H x H'->∃Hm',ah Hm Hm'/\ah Hm' H'/\ah H H'/\(∀a,H a≠none->OE (Hm' a) (Hm a))/\Rp K Hm' x d)/\(xs.length<=i->J.stop i H)
noncomputable def SI (X:Cx)(Ex:XK)(Y:A07)(tg e:Expr)(d:DI):Prop:=∃wi:TI,PI X tg e wi /\
 ∀(g:Gh)(x:XC)(E:En)(U:St)(H Hm:Hp)(F:Nat->A03)(P:En->A00->Prop)(R:It->Hp->Prop),XL X Ex x g->Rl X.K g E U H Hm F->d x E P->
  (∀E' xs J H' Hm' F',P E' xs->Rl X.K g E' U H' Hm' F'->ah Hm Hm'->yH X.K J xs Hm'->R J H')->wi (sel Y U) H R
def Rl.turn{F:Nat->A03}(R:Rl K g E U H Hm F)(s1:ah Hm Hm')(s2:ah Hm' H')(s3:ah H H')(old:∀a,H a≠none->OE (Hm' a) (Hm a)):Rl K g E U H' Hm' F:=
 R.grow s3 s1 s2 (λi a ha=>by
  obtain⟨u,hu,nt⟩:=R.aX i a ha;exact(old a (by rw[hu];simp)).off (R.off i a ha) s2 (s3 _ _ hu) nt) λa ha=>old a (R.l5 ha)
def Sk(hp:PassesOwn (model X.prog X.w) X.A X.env X.xe)(hc:X.calm=true)(hN:X.N.Nodup)(hi:SI X Ex (aK X) tg it di)(ht:gI X (aK X) tg t)(hb:SS X Ex b d)(hs:∀x,foldedSetIterable it X.env x=pure x):S1 X Ex (.For tg it b [] pos) (dQ di t d):=by
 intro g D' E U H Hm F D hx R h nx rt;obtain⟨wi,hpi,hw⟩:=hi;obtain⟨G,g1,g2⟩:=xW hc hN Wv ht;refine WS.of (Qp hp hc hpi g1 gE hs) (hw g D'.xc E U H Hm F _ _ hx R h λE1 xs J H1 Hm1 F1 p1 R1 s1 it1=>?_);obtain⟨I,i0,step,fin⟩:=p1;refine⟨λi m τ H'=>m=xs.length-i/\i<=xs.length/\∃E' σ' Hm' F',I i E'/\Rl X.K g E' σ' H' Hm' F'/\ah Hm1 Hm'/\τ=sel (aK X) σ',⟨xs.length,by simp,W7 _,E1,U,Hm1,F1,i0,R1,ah.refl _,rfl⟩,?_⟩;rintro i m τ H2⟨rfl,hi,E2,σ2,Hm2,F2,i2,R2,s2,rfl⟩;obtain⟨go,stop⟩:=it1 i H2 Hm2 s2 R2.sub;by_cases c:i<xs.length;{obtain⟨go,rR⟩:=go xs[i] (VP c);refine .inr ⟨go,λτ H'=>i+1<=xs.length/\∃E' σ' Hm' F',I (i+1) E'/\Rl X.K g E' σ' H' Hm' F'/\ah Hm1 Hm'/\τ=sel (aK X) σ',λτ H' z=>⟨xs.length-(i+1),by lia,rfl,z⟩,λx H3 y=>?_⟩;obtain⟨Hm3,t1,t2,t3,old,r⟩:=rR x H3 y;have R3:=R2.turn t1 t2 t3 old;obtain⟨E4,e4,p4⟩:=step i xs[i] E2 (VP c) i2;refine g2 e4 r R3 λσ4 F4 R4 _=>?_;exact hb g { D' with nx:=I (i+1) } E4 σ4 H3 Hm3 F4 _ hx R4 p4 (λE5 σ5 H5 Hm5 F5 p5 R5 s5=>⟨c,E5,σ5,Hm5,F5,p5,R5,s2.trans (t1.trans s5),rfl⟩) rt};have e:i=xs.length:=by lia
 subst e;exact .inl ⟨stop (V5 _),nx _ _ _ _ _ (fin E2 i2) R2 (s1.trans s2)⟩
end
end Dv
namespace L2
open PySem PySem.Spec PyProof.Rows
noncomputable def jw (elt:Expr)(gens:Zq)(scope:Scope)(pos:Pos) (k:Nat)(acc:Value)(env:Env)(fin:Sem Fin):Sem Fin:=match gens[k]? with
 |some g'=>do
  let x <-eval g'.iter env
  standAt g'.iter.pos
  let x <-foldedSetIterable g'.iter env x
  let y <-holding [x] (pyIter x)
  let _ <-runOwn (.compStart (.ListComp elt gens scope pos) k y acc env) env
  fin
 |none=>do
  (do let _ <-call (.builtin "list.append") [acc,<-eval elt env])
  fin
def compTurn_gen{k:Nat}(hk:gens[k]?=some ⟨tg,iter,ifs,0⟩)(ha:∀g∈gens,g.is_async=0)(it acc:Value)(env:Env) :
  compTurn (.ListComp elt gens scope pos) k it acc env=(do
   standAt iter.pos
   match <-pyNext it with
   |none=>pure (.done .next)
   |some v=>
    letOwnedTupleGo tg it v
    assign tg env v
    let mut ok:=true
    for c in ifs do
     if ok then ok <-isTrue c env (eval c env)
    if ok then jw elt gens scope pos (k+1) acc env (again (.compLoop (.ListComp elt gens scope pos) k it acc env))
    else again (.compLoop (.ListComp elt gens scope pos) k it acc env)):=by
 unfold compTurn jw;simp only[hk];cases h:gens[k+1]? with
 |none=>rfl
 |some g'=>have e:=ha g' (VZ h);obtain⟨t,i,f,a⟩:=g';dsimp only at e;subst e;rfl
section
variable{prog:Program}{w:World}{A:Around}{R:Result->Shared->Prop}{s:Shared}{elt tg iter:Expr}{gens:Zq}{ifs:A05}{scope:Scope}{pos:Pos}{k:Nat}
def CQ(hk:gens[k]?=some ⟨tg,iter,ifs,0⟩)(ha:∀g∈gens,g.is_async=0)(I:Nat->Shared->Prop)(turn:∀n s,I n s->wpAny (model prog w) A (pyNext it) (λr s1=>match r with
   |none=>R (.ok .next) s1
   |some v=>wpAny (model prog w) A (letOwnedTupleGo tg it v) (λ_ s0=>wpAny (model prog w) A (assign tg env v) (λ_ s2=>wpAny (model prog w) A (forIn ifs true λc r=>if r=true then do let ok <-isTrue c env (eval c env);pure (ForInStep.yield ok)else pure (ForInStep.yield r)) (λok s3=>
      if ok=true then ∀(fin:Sem Fin)(Qf:Fin->Shared->Prop),(∀s5,(∃m,m<n/\I m s5)->wpAny (model prog w) A fin Qf (pG prog w A env R) s5)->wpAny (model prog w) A (jw elt gens scope pos (k+1) acc env fin) Qf (pG prog w A env R) s3
      else ∃m,m<n/\I m s3) (pG prog w A env R) s2) (pG prog w A env R) s0) (pG prog w A env R) s1) (pG prog w A env R) s)
  (n:Nat)(h:I n s):codeAny (model prog w) A (.compLoop (.ListComp elt gens scope pos) k it acc env) R s:=by
 refine codeAny_loop rfl I (λn s hI=>?_) n h
 refine(wpAny_noted (?_:_):wpAny _ A ((compTurn (.ListComp elt gens scope pos) k it acc env).onRaise (λx=>do noteFrame x env;theTreesLotGoes x)) _ _ s)
 rw[compTurn_gen hk ha];refine V0 (wpAny_standAt (V0 (WC (turn n s hI) (λr s1 h1=>?_) λ_ _ z=>z)))
 cases r with
 |none=>exact V6 h1
 |some v=>
  refine V0 (WC h1 (λ_ s0 h0=>V0 (WC h0 (λ_ s2 h2=>V0 (WC h2 (λok s3 h3=>?_) λ_ _ z=>z)) λ_ _ z=>z)) λ_ _ z=>z)
  cases ok with
  |false=>exact V6 ⟨rfl,h3⟩
  |true=>exact h3 _ _ λs5 h5=>V6 ⟨rfl,h5⟩
end
noncomputable def nQ (N:A09)(fs scope:Scope)(vs NB:A09)(ix:A07):Bool:=
 decide (scope.kind=.function)&&scope.names.all (λy=>decide (y.2≠.cell))&&scope.names.all (λy=>decide (y.2≠.local)||decide (scope.names.lookup y.1=some .local)) &&
 scope.names.all (λy=>decide (y.2≠.free)||(decide (fs.names.lookup y.1=some .cell)||decide (fs.names.lookup y.1=some .free))) &&
 decide (NB=vs++ix.map λi=>N.getD i "")&&decide NB.Nodup&&ix.all λi=>match N[i]? with|some y=>decide (scope.names.lookup y=some .free)|none=>false
structure cQ(X:Cx)(scope:Scope)(vs NB:A09)(ix:A07):Prop where
 kind:scope.kind=.function
 cell:∀y∈scope.names,y.2≠.cell
 names:∀y∈scope.names,y.2=.local->scope.names.lookup y.1=some .local
 free:∀y,(y,NameKind.free)∈scope.names->(X.env.kindOf y=some .cell\/X.env.kindOf y=some .free)
 nb:NB=vs++ix.map λi=>X.N.getD i ""
 nd:NB.Nodup
 cap:∀i∈ix,∃y,X.N[i]?=some y/\scope.names.lookup y=some .free
def cQ.of(h:nQ N fs scope vs NB ix=true)(hN:X.N=N:=by rfl)(hf:X.env.scope=fs:=by rfl):cQ X scope vs NB ix:=by
 subst hN hf;unfold nQ at h;simp only[V9]at h;obtain⟨⟨⟨⟨⟨⟨h1,h2⟩,h3⟩,h4⟩,h6⟩,h7⟩,h8⟩:=h;refine⟨WV h1,λy hy=>WV (VL.mp h2 y hy),λy hy e=>?_,λy hy=>?_,WV h6,WV h7,λi hi=>?_⟩;{have z:=VL.mp h3 y hy;rw[Bool.or_eq_true]at z;rcases z with z|z;{exact absurd e (WV z)};exact WV z};{have z:=VL.mp h4 _ hy;rw[Bool.or_eq_true,Bool.or_eq_true]at z;rcases z with z|z|z;{exact absurd rfl (WV z)};{exact .inl (WV z)};exact .inr (WV z)};have z:=VL.mp h8 i hi;cases e:X.N[i]? with
 |none=>rw[e]at z;cases z
 |some y=>rw[e]at z;exact⟨y,rfl,WV z⟩
section
variable{X:Cx}{scope:Scope}{vs:A09}{NB:A09}{ix:A07}{pins:Zs}{U:St}{H2:Hp}{s2:Shared}{fp:A03}
def cQ.clos(B:cQ X scope vs NB ix)(I2:Inv X pins U H2 s2):closureFor scope X.env=pure (eW X.env.cells scope.names []):=
 uf λn hn=>I2.ok.has n (B.free n hn)
def cQ.look(B:cQ X scope vs NB ix)(I2:Inv X pins U H2 s2){c:Addr}(h:(eW X.env.cells scope.names []).lookup y=some c):X.env.cells.lookup y=some c:=by rcases r9 _ _ h with⟨m,e⟩|e;{obtain⟨c',hc⟩:=I2.ok.has y (B.free y m);rw[hc]at e⊢;exact congrArg some e};cases e
def FU(B:cQ X scope vs NB ix)(I2:Inv X pins U H2 s2){C:Addr}(hC:s2.heap.objs.size<=C)(f2:∀b∈fp,ji X pins H2 b)(ft:∀b∈fp,b<s2.heap.objs.size):(X.block scope C NB s2 H2 fp).Ok where
 mod:=I2.ok.mod
 kind:=B.kind
 glob:=I2.ok.glob
 blt:=I2.ok.blt
 above:=hC
 inj:=λa b c h1 h2=>I2.ok.inj a b c (B.look I2 h1) (B.look I2 h2)
 has:=λy hy=>by
  have key:∀k,(relabel scope X.env).names.lookup y=some k->(k=.cell\/k=.free)->∃c,(eW X.env.cells scope.names []).lookup y=some c:=λk hk kk=>by
   rcases yO (names:=scope.names) hk with e|⟨e,_⟩
   .rcases kk with rfl|rfl
    .exact absurd rfl (B.cell _ (jk e))
    .exact kB _ _ (.inl (jk e))
   .exact kB _ _ (.inl (jk e))
  rcases hy with e|e
  .exact key _ e (.inl rfl)
  .exact key _ e (.inr rfl)
 yx:=λ_ _ z=>by cases z
 hd:=I2.ok.hd
 frames:=I2.ok.frames
 stk:=.inl rfl
 JB:=λb hb=>⟨VQ (Vv (ft b hb) hC),λy c e=>(f2 b hb).2.2.2.2.1 y c (B.look I2 e)⟩
 bs:=I2.bs
 uv:=Vx I2.ok.uv I2.sz
 sJ:=λb o e hb=>by
  rcases(f2 b hb).2.2.2.1 with z|z
  .exact I2.ok.sJ b o e z
  .exact absurd (Vv (VC (I2.ok.bs b o e).1) z) (WB _)
 vQ:=λb hb z=>by
  rcases VB.mp (I2.mW b z)with e|e
  .exact(f2 b hb).2.1 e
  .exact(f2 b hb).2.2.1 e
 jm:=I2.stack
 wL:=I2.rA
def Cw(B:cQ X scope vs NB ix)(I2:Inv X pins U H2 s2){C D:Addr}{tk:Nat}(hC:s2.heap.objs.size<=C)(hD:s2.heap.objs.size<=D)(hDC:D≠C)(f2:∀b∈fp,ji X pins H2 b)(ft:∀b∈fp,b<s2.heap.objs.size)(old:∀b o,s2.heap.get? b=some o->h1.get? b=some o)(hn:h1.Ns C m)(ho:h1.get? D=some oD)(hcl:∀v,oD.data≠.cell v) : Inv (X.block scope C NB s2 H2 fp) [(D,oD)] (List.replicate vs.length none++caps ix U) H2 { s2 with heap:=h1,toks:=tk } where
 ok:=FU B I2 hC f2 ft
 os:=rfl
 bare:=I2.bare
 base:=Un.kept old
 loc:=by
  refine⟨m,hn,λi y v e1 e2 _=>?_⟩
  have e1:NB[i]?=some y:=e1
  by_cases li:i<vs.length
  .rw[Xn (by rw[Wk];exact li),Yk,if_pos li]at e2
   cases e2
  .obtain⟨j,rfl⟩:∃j,i=vs.length+j:=⟨i-vs.length,by lia⟩
   have e2:(caps ix U)[j]?=some (some v):=by
    rw[YB (by rw[Wk];lia),Wk,Xu]at e2
    exact e2
   rw[B.nb]at e1;have e1:(ix.map λi=>X.N.getD i "")[j]?=some y:=by
    rw[YB (by lia),Xu]at e1
    exact e1
   rw[VE]at e1;unfold caps at e2;rw[VE]at e2;cases q:ix[j]? with
   |none=>rw[q]at e1;cases e1
   |some i=>
    rw[q]at e1 e2;obtain⟨z,hz,fz⟩:=B.cap i (VZ q);have ey:y=z:=by
     have w:X.N.getD i ""=y:=Option.some.inj e1;rw[<-w,VO,hz];rfl
    subst ey;have e2:(U[i]?).join=some v:=Option.some.inj e2;have es:U[i]?=some (some v):=by
     cases w:U[i]? with
     |none=>rw[w]at e2;cases e2
     |some o=>rw[w]at e2;exact congrArg some e2
    have fk:=B.free y (jk fz);have vis:gU X.env.scope y:=.inr fk;obtain⟨mm,_,hl⟩:=I2.loc;obtain⟨u,ru,lk⟩:=hl i y v hz es vis;refine⟨u,ru,.inr ⟨?_,?_⟩⟩
    .rcases vf (env:=X.env) (names:=scope.names) fz with e|⟨_,e⟩
     .exact .inr e
     .exact .inl e
    .rcases lk with⟨lk,_⟩|⟨_,c,hc,hcell⟩
     .rcases fk with fk|fk
      .rw[lk]at fk;cases fk
      .rw[lk]at fk;cases fk
     .obtain⟨c',hc'⟩:=kB (cells:=X.env.cells) scope.names [] (.inl (jk fz));have e3:=B.look I2 hc';rw[hc]at e3;cases e3;obtain⟨oc,g1,g2⟩:=hcell;exact⟨c,hc',oc,old _ _ g1,g2⟩
 cell:=λy c e=>by
  obtain⟨v,o,g1,g2⟩:=I2.cell y c (B.look I2 e);exact⟨v,o,old _ _ g1,g2⟩
 free:=I2.hok.fresh hC
 eU:=λy c e=>I2.eU y c (B.look I2 e)
 pin:=λp hp=>by
  have e:p=(D,oD):=by simpa[Cx.block]using hp
  subst e;refine⟨ho,I2.hok.fresh hD,hDC,λz=>?_,hcl⟩
  rcases VB.mp (I2.mW D z)with e|e
  .have e:D=X.env.locals:=e;exact absurd (Vv I2.lt (e▸hD)) (WB _)
  .exact I2.Pf hD e
 hok:=I2.hok.kept old
 len:=by
  show(List.replicate vs.length none++caps ix U).length=NB.length;rw[B.nb,VH,VH,HY,V4,Wk]
end
abbrev TL:=List V->St->Hp->(List V->St->Hp->Prop)->Prop
noncomputable def PL (X:Cx)(D:Addr)(elt:Expr)(gens:Zq)(scope:Scope)(pos:Pos) (k:Nat)(t:TL):Prop:=
 X.s₀.heap.objs.size<=D->(∀y c,X.env.cells.lookup y=some c->c≠D)->(∀e s',X.xe e s'->False)->
 ∀(pins:Zs)(s:Shared)(U:St)(H:Hp)(ys:List V)(its:A02) (nn:Nat)(Q:List V->St->Hp->Prop)(fin:Sem Fin)(Qf:Fin->Shared->Prop)(E:Zp),
  (∀p∈X.pn++pins,p.1≠D)->Inv X ((D,i7 its nn)::pins) U H s->Vals ys its->ys.length<=sizeLine->t ys U H Q->
  (∀s' ys' its' nn' σ' H',Inv X ((D,i7 its' nn')::pins) σ' H' s'->Vals ys' its'->ys'.length<=sizeLine->Q ys' σ' H'->wpAny (model X.prog X.w) X.A fin Qf E s')->
  wpAny (model X.prog X.w) X.A (jw elt gens scope pos k (.ref D) X.env fin) Qf E s
def Ku (te:TE):TL:=λys U H Q=>te U H λv H1=>ys.length<sizeLine/\Q (ys++[v]) U H1
noncomputable def Jv (J:It)(g:TG)(tt:TT)(tr:TL)(ys0:List V)(σ0:St)(H1:Hp)(Q:List V->St->Hp->Prop):Prop:=
 ∃W:Nat->Nat->List V->St->Hp->Prop,(∃m,W 0 m ys0 σ0 H1)/\∀i m ys U H,W i m ys U H->
  (J.stop i H/\Q ys U H)\/(J.go i H/\∃N:List V->St->Hp->Prop,(∀ys' σ' H',N ys' σ' H'->∃m',m'<m/\W (i+1) m' ys' σ' H') /\
   ∀x H',J.rR i H x H'->g x U H' λσ2 H2=>tt σ2 H2 λb H3=>if b=true then tr ys σ2 H3 N else N ys σ2 H3)
section
variable{X:Cx}{D:Addr}{elt tg iter:Expr}{gens:Zq}{ifs:A05}{scope:Scope}{pos:Pos}{k:Nat}
def Bl(he:PE X elt te)(hk:gens[k]?=none:=by rfl):PL X D elt gens scope pos k (Ku te):=by
 intro hD hc hx pins s U H ys its nn Q fin Qf E hp I rv hz h hf;unfold jw;rw[hk];refine V0 (V0 (WC (he _ s U H _ I h) (λy s8 ⟨yv,H8,I8,r8,hlt,n8⟩=>V0 ?_) λe s' z=>(hx e s' z).elim));have pD:=I8.pin (D,i7 its nn) (WN _ V3);refine append_at (hsz:=by rw[VM,<-rv.length];exact hz) pD.1 λh9 hs9 hD9=>V6 ?_;have I8n:Inv X pins U H8 s8:=I8.nA λp hp'=>I8.pin p (WN _ (VA _ hp'));have I9:=I8n.turned (h':=h9) (t':=s8.toks) (it:=D) (λb o hb e=>hs9.extBut b o hb e) pD.2.1 pD.2.2.1 (.inr hD) hc hp;have e9:i7 (its++[y]) (nn+1)={ cls:=.type "list",data:=.seq (its.toArray.push y) (nn+1) }:=by show({ cls:=.type "list",data:=.seq (its++[y]).toArray (nn+1) }:Obj)=_;rw[List.push_toArray]
 have I10:Inv X ((D,i7 (its++[y]) (nn+1))::pins) U H8 { s8 with heap:=h9 }:=by refine I9.nA λp hp'=>?_;rcases VB.mp hp' with rfl|hp';{exact⟨hD9.trans (congrArg some e9.symm),pD.2.1,pD.2.2.1,pD.2.2.2.1,λv q=>by cases q⟩};exact I9.pin p (WN _ hp')
 exact hf _ (ys++[yv]) (its++[y]) (nn+1) U H8 I10 (Vals.append rv (.cons r8 .nil)) (by rw[VH];exact hlt) n8
end
section
variable{X:Cx}{scope:Scope}{vs:A09}{NB:A09}{ix:A07}
def uM (wi:TI) (n:Nat)(ix:A07)(g:TG)(tt:TT)(tr:TL):TE:=λU H Q=>wi U H λJ H1=>Jv J g tt tr [] (List.replicate n none++caps ix U) H1 λys _ H'=>∀p,H' p=none->Q (.ref p) (upd H' p (.lst ys))
def uF{elt tg iter:Expr}{ifs:A05}{rest:Zq}{pos:Pos}{g:TG}{tt:TT}{tr:TL}{J:It}{it:Addr}{tn:Nat->Heap->Prop}{fp:A03}{pins:Zs}{U:St}{H2:Hp}{s2:Shared}{E:Zp}{RR:Value->Addr->Result->Shared->Prop}{Qr:VK}(B:cQ X scope vs NB ix)(hc:X.calm=true)(hg:∀(C:Addr)(s:Shared)(H:Hp)(fp:A03),PG (X.block scope C NB s H fp) tg g)(ht:∀(C:Addr)(s:Shared)(H:Hp)(fp:A03),wX (X.block scope C NB s H fp) ifs tt)(hr:∀(C:Addr)(s:Shared)(H:Hp)(fp:A03)(D:Addr),PL (X.block scope C NB s H fp) D elt (⟨tg,iter,ifs,0⟩::rest) scope pos 1 tr)(ha:∀g∈rest,g.is_async=0)(I2:Inv X pins U H2 s2)(T:Turn X.prog X.w X.K tg J fp it tn)(st2:tn 0 s2.heap)(f2:∀b∈fp,ji X pins H2 b)(h:Jv J g tt tr [] (List.replicate vs.length none++caps ix U) H2 λys _ H'=>∀p,H' p=none->Qr (.ref p) (upd H' p (.lst ys)))(hRR:∀(D C:Addr)(Hf:Hp)(s':Shared)(m':Zr),Inv X pins U Hf s'->s'.heap.Ns C m'->ji X pins Hf C->Qr (.ref D) Hf->RR (.ref D) C (.ok .next) s') : wpAny (model X.prog X.w) X.A (newList []) (λacc s3=>wpAny (model X.prog X.w) X.A (newFunctionEnv scope X.env.globals (eW X.env.cells scope.names []) [] X.env.qual none .none (some X.env)) (λcenv s4=> codeAny (model X.prog X.w) X.A (.compStart (.ListComp elt (⟨tg,iter,ifs,0⟩::rest) scope pos) 0 (.ref it) acc { cenv with scope:=relabel scope X.env }) (RR acc cenv.locals) s4) E s3) E s2:=by
 obtain⟨W,⟨m0,w0⟩,turn⟩:=h;have ha':∀g∈(⟨tg,iter,ifs,0⟩:Comprehension)::rest,g.is_async=0:=λg hg=>by rcases VB.mp hg with rfl|hg;{rfl};exact ha g hg
 refine Wt (wpAny_newFunctionEnv B.cell (by intro y hy;simp at hy) (λh1 hns hsb=>?_) B.kind);dsimp only at hns hsb⊢;generalize eG:s2.heap.push { cls:=.type "list",dict:=none,data:=.seq ([]:A02).toArray }=G at hns hsb⊢;have hC:G.objs.size=s2.heap.objs.size+1:=by rw[<-eG,Heap.size_push]
 have hDC:s2.heap.objs.size≠G.objs.size:=by rw[hC];exact VQ (YM _)
 have hCle:s2.heap.objs.size<=G.objs.size:=by rw[hC];exact Nat.le_succ _
 have old:∀b o,s2.heap.get? b=some o->h1.get? b=some o:=λb o e=>by have lt:=VC e;exact hsb.extBut b o (VQ (Vv lt hCle)) (VW _ (eG▸VW _ e))
 have hacc:h1.get? s2.heap.objs.size=some (i7 [] 0):=hsb.extBut _ _ hDC (VW _ (eG▸W8 _ rfl));have ft:∀b∈fp,b<s2.heap.objs.size:=λb hb=>by obtain⟨o,e,_⟩:=T.obj _ _ st2 b hb;exact VC e
 have cD:∀y c,(X.block scope G.objs.size NB s2 H2 fp).env.cells.lookup y=some c->c≠s2.heap.objs.size:=λy c e z=>by obtain⟨w,q⟩:=I2.cell y c (B.look I2 e);exact WB _ (z▸q.lt)
 have loop:∀s3:Shared,s3={ s2 with heap:=h1,toks:=s2.toks+([]:List (Str×Value)).length }->
   codeAny (model X.prog X.w) X.A (.compLoop (.ListComp elt (⟨tg,iter,ifs,0⟩::rest) scope pos) 0 (.ref it) (.ref s2.heap.objs.size) (compEnvC scope (eW X.env.cells scope.names []) G.objs.size X.env))
    (RR (.ref s2.heap.objs.size) G.objs.size) s3:=by
  rintro s3 rfl;have I3:=Cw (tk:=s2.toks+([]:List (Str×Value)).length) B I2 hCle (V5 _) hDC f2 ft old hns hacc (λv q=>by cases q)
  have st3:tn 0 h1:=T.keep _ _ _ st2 λb _ o e=>old b o e
  have fy:∀{H':Hp}{oD:Obj},(∀b∈fp,H' b=none)->∀b∈fp,ji (X.block scope G.objs.size NB s2 H2 fp) [(s2.heap.objs.size,oD)] H' b:=λ{H' oD} hn b hb=>by
   refine⟨hn b hb,VQ (Vv (ft b hb) hCle),λz=>?_,.inl hb,λy c e=>(f2 b hb).2.2.2.2.1 y c (B.look I2 e),λp hp=>?_⟩;{rcases VB.mp (I2.mW b z)with e|e;{exact(f2 b hb).2.1 e};exact(f2 b hb).2.2.1 e};have e:p=(s2.heap.objs.size,oD):=by simpa[Cx.block]using hp
   subst e;exact Ne.symm (VQ (ft b hb))
  refine CQ (k:=0) rfl ha' (λn s'=>∃i ys its nn σ' H',W i n ys σ' H'/\Inv (X.block scope G.objs.size NB s2 H2 fp) [(s2.heap.objs.size,i7 its nn)] σ' H' s'/\tn i s'.heap/\(∀b∈fp,H' b=none)/\Vals ys its/\ys.length<=sizeLine)
   ?_ m0 ⟨0,[],[],0,_,H2,w0,I3,st3,λb hb=>(f2 b hb).1,.nil,W7 _⟩
  rintro n s'⟨i,ys,its,nn,σ',H',w',I',st',fr',rv,hz⟩;rcases turn i n ys σ' H' w' with⟨stop,q⟩|⟨go,Nx,hNx,step⟩
  .refine WC (T.done (X.block scope G.objs.size NB s2 H2 fp) rfl rfl rfl hc i _ s' _ H' (λ_ _=>False) I' (fy fr') st' stop) (λr s4 ⟨hr',I4⟩=>?_) λ_ _ z=>z.elim
   subst hr';have I5:=Ho I2 f2 (V5 _) I4 rv hz;obtain⟨m4,hn4,_⟩:=I4.loc;have hfree:H' s2.heap.objs.size=none:=(I4.pin (s2.heap.objs.size,i7 its nn) (by show _∈[]++[(s2.heap.objs.size,i7 its nn)];simp)).2.1
   have fC:ji X pins (upd H' s2.heap.objs.size (.lst ys)) G.objs.size:=I2.vK hCle (by
    rw[aj (Ne.symm hDC)];exact I4.free)
   exact hRR _ _ _ s4 m4 I5 hn4 fC (q _ hfree)
  .refine WC (T.item (X.block scope G.objs.size NB s2 H2 fp) rfl rfl rfl hc i _ s' _ H' (λ_ _=>False) I' (fy fr') st' go) (λr s4 ⟨u,hr',h4⟩=>?_) λ_ _ z=>z.elim
   subst hr';refine WC h4 (λ_ s4 ⟨v,H5,I5,r5,y5,st5,fr5⟩=>?_) λ_ _ z=>z.elim
   have pIt:∀b∈fp,∃o,s4.heap.get? b=some o/\∀v,o.data≠.cell v:=T.obj _ _ st5;have I5':=I5.pinned (fy fr5) pIt;refine WC (hg _ _ _ _ _ s4 σ' H5 v u _ I5' r5 (step v H5 y5)) (λ_ s6 ⟨σ6,H6,I6,q6⟩=>?_) λ_ _ z=>z.elim
   refine WC (ht _ _ _ _ _ s6 σ6 H6 _ I6 q6) (λb s7 ⟨H7,I7,q7⟩=>?_) λ_ _ z=>z.elim
   have stays:∀{s9:Shared}{H9:Hp}{σ9:St}{oD:Obj},Inv (X.block scope G.objs.size NB s2 H2 fp) ((s2.heap.objs.size,oD)::lC fp s4.heap) σ9 H9 s9->tn (i+1) s9.heap/\(∀b∈fp,H9 b=none)/\Inv (X.block scope G.objs.size NB s2 H2 fp) [(s2.heap.objs.size,oD)] σ9 H9 s9:=λ{s9 H9 σ9 oD} I9=>by
    refine⟨T.keep _ _ _ st5 λb hb o e=>(I9.pin (b,o) (WN _ (VA _ (kE hb e)))).1,λb hb=>?_,I9.nA λp hp'=>I9.pin p (WN _ ?_)⟩
    .obtain⟨o,e,d⟩:=pIt b hb;exact(I9.pin (b,o) (WN _ (VA _ (kE hb e)))).2.1
    .rw[V7.mp hp'];exact V3
   cases b with
   |false=>
    rw[if_neg VV]at q7⊢;obtain⟨m',hm,w7⟩:=hNx _ _ _ q7;obtain⟨g1,g2,g3⟩:=stays I7;exact⟨m',hm,i+1,ys,its,nn,σ6,H7,w7,g3,g1,g2,rv,hz⟩
   |true=>
    rw[if_pos rfl]at q7⊢;intro fin' Qf' hf';refine hr _ _ _ _ s2.heap.objs.size (V5 _) cD (λ_ _ z=>z) (lC fp s4.heap) s7 σ6 H7 ys its nn Nx fin' Qf' _ (λp hp'=>?_) I7 rv hz q7 λs8 ys8 its8 nn8 σ8 H8 I8 rv8 hz8 n8=>?_
    .have hp'':p∈lC fp s4.heap:=hp';exact VQ (ft _ (wI hp'').1)
    .obtain⟨m',hm,w8⟩:=hNx _ _ _ n8;obtain⟨g1,g2,g3⟩:=stays I8;exact hf' s8 ⟨m',hm,i+1,ys8,its8,nn8,σ8,H8,w8,g3,g1,g2,rv8,hz8⟩
 exact codeAny_compStart_list (loop _ rfl) (T.self _ 0 _ _ _ (T.keep _ _ _ st2 λb _ o e=>old b o e) (loop _ rfl))
def Jq{elt tg iter:Expr}{ifs:A05}{rest:Zq}{pos:Pos}{wi:TI}{g:TG}{tt:TT}{tr:TL}(B:cQ X scope vs NB ix)(hc:X.calm=true)(hi:PI X tg iter wi)(hg:∀(C:Addr)(s:Shared)(H:Hp)(fp:A03),PG (X.block scope C NB s H fp) tg g)(ht:∀(C:Addr)(s:Shared)(H:Hp)(fp:A03),wX (X.block scope C NB s H fp) ifs tt)(hr:∀(C:Addr)(s:Shared)(H:Hp)(fp:A03)(D:Addr),PL (X.block scope C NB s H fp) D elt (⟨tg,iter,ifs,0⟩::rest) scope pos 1 tr)(ha:∀g∈rest,g.is_async=0:=by decide)(hs:∀v,foldedSetIterable iter X.env v=pure v:=by intro _;rfl):PE X (.ListComp elt (⟨tg,iter,ifs,0⟩::rest) scope pos) (uM wi vs.length ix g tt tr):=by intro pins s U H Q I h;rw[eval_ListComp];refine wpAny_comprehension_free (use:=none) rfl hs (B.clos I) B.kind B.names (aM (hi pins s U H _ I h) λv s1 h1=>aM h1 λitv s2 h2=>?_);obtain⟨it,fp,tn,J,H2,e,I2,T,st2,f2,w⟩:=h2;subst e;refine uF (Qr:=Q) (RR:=λacc C=>compPost (model X.prog X.w) X.A X.xe none (EP X pins U Q) acc C) B hc hg ht hr ha I2 T st2 f2 w λD C Hf s' m' I' hn' fC q=>?_;refine⟨m',hn',λh'' hs''=>⟨.ref D,Hf,?_,rfl,q⟩⟩;obtain⟨c0,c1,c2,c3,c4,c5⟩:=fC;exact I'.turned (it:=C) (t':=s'.toks) (λb o hb e=>hs''.extBut b o hb e) c0 c1 c3 c4 c5
def yG{elt tg iter:Expr}{ifs:A05}{rest:Zq}{pos py spos:Pos}{wi:TI}{g:TG}{tt:TT}{tr:TL}{j:Nat}{y:Str}(hN:X.N.Nodup)(hj:X.N[j]?=some y)(hy:X.env.scope.names.lookup y=some .local)(B:cQ X scope vs NB ix)(hc:X.calm=true)(hi:PI X tg iter wi)(hg:∀(C:Addr)(s:Shared)(H:Hp)(fp:A03),PG (X.block scope C NB s H fp) tg g)(ht:∀(C:Addr)(s:Shared)(H:Hp)(fp:A03),wX (X.block scope C NB s H fp) ifs tt)(hr:∀(C:Addr)(s:Shared)(H:Hp)(fp:A03)(D:Addr),PL (X.block scope C NB s H fp) D elt (⟨tg,iter,ifs,0⟩::rest) scope pos 1 tr)(hsw:swapsWith (.ListComp elt (⟨tg,iter,ifs,0⟩::rest) scope pos) (some (.Name y py)) spos.line X.env=pure true)(ha:∀g∈rest,g.is_async=0:=by decide)(hs:∀v,foldedSetIterable iter X.env v=pure v:=by intro _;rfl):PS X (.Assign [.Name y py] (.ListComp elt (⟨tg,iter,ifs,0⟩::rest) scope pos) spos) (HL (uM wi vs.length ix g tt tr) (rH j)):=by
 intro pins s U H Dn I h;rw[exec_Assign_Name_used _ _ _ _ hsw];refine V0 (wpAny_standAt (V0 ?_));show wpAny (model X.prog X.w) X.A (comprehension (.ListComp elt (⟨tg,iter,ifs,0⟩::rest) scope pos) scope X.env _ (newList []) false (eval iter X.env) (some (assign (.Name y py) X.env))>>=λ_=>pure ()) _ _ s;refine V0 (aM (wpAny_comprehension_free (use:=some (assign (.Name y py) X.env)) (Q:=λ_ s'=>SP X pins Dn .next s') rfl hs (B.clos I) B.kind B.names (aM (hi pins s U H _ I h) λv s1 h1=>aM h1 λitv s2 h2=>?_)) λ_ s' q=>V6 (V6 q));obtain⟨it,fp,tn,J,H2,e,I2,T,st2,f2,w⟩:=h2;subst e;refine uF (Qr:=λx H1=>rH j x U H1 Dn.nx) (RR:=λacc C=>compPost (model X.prog X.w) X.A X.xe (some (assign (.Name y py) X.env)) (λ_ s'=>SP X pins Dn .next s') acc C) B hc hg ht hr ha I2 T st2 f2 w λD C Hf s' m' I' hn' fC q=>?_;obtain⟨c0,c1,c2,c3,c4,c5⟩:=fC;show wpAny (model X.prog X.w) X.A (assign (.Name y py) X.env (.ref D)) _ _ s';refine wpAny_assign_Name (xm I' hN hj (.inl hy) (v:=.ref D) rfl (λs'' I'' ⟨a,sb,ha⟩=>?_) (.inr hy));have hCa:C≠a:=by rcases ha with e|e;{rw[e];exact c1};exact λz=>c4 y a e z.symm
 refine⟨m',hn'.sameBut sb hCa,λh3 hs3=>⟨_,Hf,?_,q⟩⟩;exact I''.turned (it:=C) (t':=s''.toks) (λb o hb e=>hs3.extBut b o hb e) c0 c1 c3 c4 c5
end
end L2
namespace Dv
open PySem L2 PySem.W
section
variable{X:Cx}{Ex:XK}{Y:A07}{tg:Expr}
def Jc{a:Addr}(h:bX K dZ a xs)(r:av K dZ xs ds):yH K (JD K a) ds dZ:=by intro i H Hm s1 s2;have q:bF K H a xs:=(bX.mono (s1.trans s2) h).sq;refine⟨λd e=>?_,λl=>⟨xs,q,by rw[r.len];exact l⟩⟩;obtain⟨v,e1,r1⟩:=r.get e;refine⟨⟨xs,v,q,e1⟩,λx H' y=>?_⟩;obtain⟨rfl,y⟩:=y;have:=y xs q;rw[e1]at this;cases this;exact⟨Hm,ah.refl _,s2,ah.refl _,λ_ _=>.inl rfl,r1.mono s1⟩
def K9{a:Addr}(h:dZ a=some (.tup xs))(r:av K dZ xs ds):yH K (KZ K a) ds dZ:=by intro i H Hm s1 s2;have q:bO K H a xs:=bO.of (s2 _ _ (s1 _ _ h));refine⟨λd e=>?_,λl=>⟨xs,q,by rw[r.len];exact l⟩⟩;obtain⟨v,e1,r1⟩:=r.get e;refine⟨⟨xs,v,q,e1⟩,λx H' y=>?_⟩;obtain⟨rfl,y⟩:=y;have:=y xs q;rw[e1]at this;cases this;exact⟨Hm,ah.refl _,s2,ah.refl _,λ_ _=>.inl rfl,r1.mono s1⟩
def My{lo:Int}{n i:Nat}(h:(kq lo n)[i]?=some d):i<n/\d=.int (lo+i):=by unfold kq at h;rw[VE]at h;by_cases c:i<n;{rw[VF c]at h;cases h;exact⟨c,rfl⟩};rw[VY (by rw[VD];lia)]at h;cases h
def AS{lo:Int}{n:Nat}:yH K (Gx lo n) (kq lo n) dZ:=by intro i H Hm s1 s2;refine⟨λd e=>?_,λl=>?_⟩;{obtain⟨l,rfl⟩:=My e;refine⟨l,λx H' y=>?_⟩;obtain⟨rfl,rfl⟩:=y;exact⟨Hm,ah.refl _,s2,ah.refl _,λ_ _=>.inl rfl,.int _⟩};unfold kq at l;rw[V4,VD]at l;exact l
def x6{T:Addr}(s:ah Hm H)(hT:H T=none)(r1:Rp K Hm x a)(r2:Rp K Hm y b):∃Hm',ah Hm Hm'/\ah Hm' (upd H T (.tup [x,y]))/\ah H (upd H T (.tup [x,y]))/\(∀a,H a≠none->OE (Hm' a) (Hm a))/\Rp K Hm' (.ref T) (.tuple [a,b]):=by have n:=gW s hT;have s2:=aQ (o:=.tup [x,y]) n;refine⟨upd Hm T (.tup [x,y]),s2,λb o e=>?_,aQ hT,λa ha=>.inl (aj λz=>ha (z▸hT)),.tup aq (.cons (r1.mono s2) (.cons (r2.mono s2) .nil))⟩;by_cases c:b=T;{rw[c,aq]at e⊢;exact e};rw[aj c]at e⊢;exact s _ _ e
def GQ{i:Nat}(h:(jG ds)[i]?=some d):∃e,ds[i]?=some e/\d=.tuple [.int i,e]:=by
 unfold jG at h;rw[VE,Yu]at h;cases e:ds[i]? with
 |none=>rw[e]at h;cases h
 |some a=>rw[e]at h;simp at h;exact⟨a,rfl,h.symm⟩
def FJ(ds:A00):(jG ds).length=ds.length:=by unfold jG;rw[V4,List.length_zipIdx]
def Il{a:Addr}(h:bX K dZ a xs)(r:av K dZ xs ds):yH K (NQ K a) (jG ds) dZ:=by intro i H Hm s1 s2;have q:bF K H a xs:=(bX.mono (s1.trans s2) h).sq;refine⟨λd e=>?_,λl=>⟨xs,q,by rw[r.len,<-FJ];exact l⟩⟩;obtain⟨d0,e0,rfl⟩:=GQ e;obtain⟨v,e1,r1⟩:=r.get e0;refine⟨⟨xs,v,q,e1⟩,λx H' y=>?_⟩;obtain⟨T,hT,rfl,y⟩:=y;obtain⟨x',e2,rfl⟩:=y xs q;rw[e1]at e2;cases e2;exact x6 s2 hT (.int _) (r1.mono s1)
open PyProof.Rows in
def LB{a:Addr}(I:Inv X pins U H s)(hq:bF X.K H a xs)(q:R (JD X.K a) H):wpAny (model X.prog X.w) X.A (pyIter (.ref a)) (KQ X pins U tg R) E s:=by
 obtain⟨its,rv,p,hz⟩:=I.list hq;refine ZO p.isList ?_;refine⟨s.heap.objs.size,[s.heap.objs.size],_,_,H,rfl,I.kept (t':=s.toks) λb o e=>VW _ e,ED a _,⟨_,W8 _ rfl,rfl,rfl⟩,λb hb=>?_,q⟩;have e:b=s.heap.objs.size:=by simpa using hb
 subst e;exact I.vK (V5 _) (I.hok.fresh (V5 _))
open PyProof.Rows in
def NF{a:Addr}(I:Inv X pins U H s)(hq:bO X.K H a xs)(q:R (KZ X.K a) H):wpAny (model X.prog X.w) X.A (pyIter (.ref a)) (KQ X pins U tg R) E s:=by
 obtain⟨its,rv,p,hz⟩:=I.tuple hq;refine wpAny_pyIter_tuple (show s.heap.IsTuple a its.toArray from p) ?_;refine⟨s.heap.objs.size,[s.heap.objs.size],_,_,H,rfl,I.kept (t':=s.toks) λb o e=>VW _ e,CC a _,⟨_,W8 _ rfl,rfl,rfl⟩,λb hb=>?_,q⟩;have e:b=s.heap.objs.size:=by simpa using hb
 subst e;exact I.vK (V5 _) (I.hok.fresh (V5 _))
def fU(h:SE X Ex Y e d):SI X Ex Y tg e (iE d):=by
 rw[Rb];refine⟨λU H R=>WE X e U H λx H1=>(∃a,x=.ref a/\(∃xs,bF X.K H1 a xs)/\R (JD X.K a) H1)\/∃a,x=.ref a/\(∃xs,bO X.K H1 a xs)/\R (KZ X.K a) H1,?_,?_⟩;{intro pins s U H R I h;refine aM (h pins s I) λv s1 ⟨x,H1,I1,r1,q1⟩=>?_;rcases q1 with⟨a,rfl,⟨xs,hq⟩,q⟩|⟨a,rfl,⟨xs,hq⟩,q⟩;{cases r1;exact LB I1 hq q};cases r1;exact NF I1 hq q};intro g x E U H Hm F P R hx Rl p q;refine h g x E U H Hm F _ _ hx Rl p λE' k v u H' Hm' F' fp p' R' s' T=>?_;obtain⟨hk,ds,e1,p'⟩:=p';obtain⟨Hm2,s2,R2,r2⟩:=T.dX R' hk;cases r2 with
 |lst a r=>cases e1;exact .inl ⟨_,rfl,⟨_,(bX.mono R2.sub a).sq⟩,q _ _ _ _ _ _ p' R2 (s'.trans s2) (Jc a r)⟩
 |tup a r=>cases e1;exact .inr ⟨_,rfl,⟨_,bO.of (R2.sub _ _ a)⟩,q _ _ _ _ _ _ p' R2 (s'.trans s2) (K9 a r)⟩
 |_=>cases e1
def jV:A00->Option (A00)
 |[.int j]=>@ite _ (-(2^62)<=j/\j<2^62) (Classical.propDecidable _) (some (kq 0 j.toNat)) none
 |_=>none
def FF:A00->Option (A00)
 |[.int i,.int j]=>@ite _ (-(2^62)<=i/\i<2^62/\-(2^62)<=j/\j<2^62) (Classical.propDecidable _) (some (kq i (j-i).toNat)) none
 |_=>none
def xZ{g:Gh}{U:St}{E:En}{H Hm:Hp}{F:Nat->A03}{as:List Arg}{os:List (Option PyData)}{vs:List V}{ds:A00}{K:Frag}(R:Rl K g E U H Hm F)(G:Got K U Hm as os vs)(h:fill as E os=some ds):av K H vs ds:=kM R R.sub G h λ_ _ _ _=>rfl
def Sf(hg:Gl X "range")(hm:X.mg "range"=none)(ns:noStar a=true)(S:aJ X Ex Y [a] as):SI X Ex Y tg (.Call (.Name "range" p) [a] [] pos) (iX jV as):=by refine⟨_,Eb hg hm (dJ (es:=[a]) (by rw[VJ,ns];rfl)) (aG ns),λg x E U H Hm F P R hx Rl p q=>?_⟩;refine iS hx S Rl p λE1 os vs H1 Hm1 F1 p1 R1 s1 G=>?_;replace p1:ay (cg as E1 os) _:=p1;rw[<-bq,dR]at p1;obtain⟨ds,hf,p1⟩:=p1;rw[<-bq]at p1;obtain⟨xs,hg',p1⟩:=p1;have r:=xZ R1 G hf;unfold jV at hg';split at hg';{rename_i j;obtain⟨v,rfl,r1⟩:=cR r;cases r1;split at hg';{rename_i c;cases hg';exact⟨j,rfl,c.1,c.2,q _ _ _ _ _ _ p1 R1 s1 AS⟩};cases hg'};cases hg'
def Rc(hg:Gl X "range")(hm:X.mg "range"=none)(ns:noStar a=true)(ns2:noStar b=true)(S:aJ X Ex Y [a,b] as):SI X Ex Y tg (.Call (.Name "range" p) [a,b] [] pos) (iX FF as):=by refine⟨_,GB hg hm (dJ (es:=[a,b]) (by rw[VJ,VJ,ns,ns2];rfl)) ((aG ns).trans (by rw[aG ns2];rfl)) (aG ns2),λg x E U H Hm F P R hx Rl p q=>?_⟩;refine iS hx S Rl p λE1 os vs H1 Hm1 F1 p1 R1 s1 G=>?_;replace p1:ay (cg as E1 os) _:=p1;rw[<-bq,dR]at p1;obtain⟨ds,hf,p1⟩:=p1;rw[<-bq]at p1;obtain⟨xs,hg',p1⟩:=p1;have r:=xZ R1 G hf;unfold FF at hg';split at hg';{rename_i i j;obtain⟨v,w,rfl,r1,r2⟩:=fV r;cases r1;cases r2;split at hg';{rename_i c;cases hg';exact⟨i,j,rfl,c,q _ _ _ _ _ _ p1 R1 s1 AS⟩};cases hg'};cases hg'
def Q8{x1:Nat}(hg:Gl X "enumerate")(hm:X.mg "enumerate"=none)(ns:noStar e=true)(h:SE X Ex Y e d):SI X Ex Y (.Tuple elts x1 tp) (.Call (.Name "enumerate" p) [e] [] pos) (uP d):=by rw[Qc];refine⟨_,MG hg hm (dJ (es:=[e]) (by rw[VJ,ns];rfl)) (aG ns),λg x E U H Hm F P R hx Rl p q=>?_⟩;refine h g x E U H Hm F _ _ hx Rl p λE' k v u H' Hm' F' fp p' R' s' T=>?_;obtain⟨hk,ds,rfl,p'⟩:=p';obtain⟨Hm2,s2,R2,r2⟩:=T.dX R' hk;obtain⟨a,xs,rfl,ha,r⟩:=fN r2;exact⟨a,rfl,⟨xs,(bX.mono R2.sub ha).sq⟩,q _ _ _ _ _ _ p' R2 (s'.trans s2) (Il ha r)⟩
def IT{ds es:A00}{i:Nat}(h:((ds.zip es).map λp=>PyData.tuple [p.1,p.2])[i]?=some d):∃a b,ds[i]?=some a/\es[i]?=some b/\d=.tuple [a,b]:=by
 rw[VE]at h;cases e:(ds.zip es)[i]? with
 |none=>rw[e]at h;cases h
 |some p=>rw[e]at h;cases h;obtain⟨h1,h2⟩:=List.getElem?_zip_eq_some.mp e;exact⟨_,_,h1,h2,rfl⟩
def L8{a b:Addr}{ds:A00}(h:bX K dZ a xs)(h2:bX K dZ b ys)(r:av K dZ xs ds)(r2:av K dZ ys es):yH K (Oq K a b) ((ds.zip es).map λp=>.tuple [p.1,p.2]) dZ:=by intro i H Hm s1 s2;have q:bF K H a xs:=(bX.mono (s1.trans s2) h).sq;have q2:bF K H b ys:=(bX.mono (s1.trans s2) h2).sq;refine⟨λd e=>?_,λl=>⟨xs,ys,q,q2,?_⟩⟩;{obtain⟨d1,d2,e1,e2,rfl⟩:=IT e;obtain⟨v1,f1,g1⟩:=r.get e1;obtain⟨v2,f2,g2⟩:=r2.get e2;refine⟨⟨xs,ys,v1,v2,q,q2,f1,f2⟩,λx H' y=>?_⟩;obtain⟨T,hT,rfl,y⟩:=y;obtain⟨x1,z1,hx,hz2,rfl⟩:=y xs ys q q2;rw[f1]at hx;cases hx;rw[f2]at hz2;cases hz2;exact x6 s2 hT (g1.mono s1) (g2.mono s1)};rw[V4,List.length_zip]at l;have:=r.len;have:=r2.len;lia
def Sh{x1:Nat}(hg:Gl X "zip")(hm:X.mg "zip"=none)(ns:noStar e1=true)(ns2:noStar e2=true)(h1:SE X Ex Y e1 d1)(h2:SE X Ex Y e2 d2):SI X Ex Y (.Tuple elts x1 tp) (.Call (.Name "zip" p) [e1,e2] [] pos) (Gm d1 d2):=by refine⟨_,O9 hg hm (dJ (es:=[e1,e2]) (by rw[VJ,VJ,ns,ns2];rfl)) ((aG ns).trans (by rw[aG ns2];rfl)) (aG ns2),λg x E U H Hm F P R hx Rl p q=>?_⟩;refine h1 g x E U H Hm F _ _ hx Rl p λE1 k v u H1 Hm1 F1 fp p1 R1 s1 T=>?_;replace p1:bK k.fz _:=p1;rw[cS]at p1;obtain⟨hk,p1⟩:=p1;obtain⟨Hm2,s2,R2,r2⟩:=T.dX R1 hk;refine h2 g x E1 U H1 Hm2 F1 _ _ hx R2 p1 λE3 k3 v3 u3 H3 Hm3 F3 fp3 p3 R3 s3 T3=>?_;replace p3:bK k3.fz _:=p3;rw[cS,<-Co]at p3;obtain⟨hk3,ds,rfl,p3⟩:=p3;rw[<-Co]at p3;obtain⟨es,rfl,p3⟩:=p3;obtain⟨Hm4,s4,R4,r4⟩:=T3.dX R3 hk3;have r2':=r2.mono (s3.trans s4);obtain⟨a,xs,rfl,ha,ra⟩:=fN r2';obtain⟨b,ys,rfl,hb,rb⟩:=fN r4;exact⟨a,b,rfl,⟨xs,(bX.mono R4.sub ha).sq⟩,⟨ys,(bX.mono R4.sub hb).sq⟩,q _ _ _ _ _ _ p3 R4 (s1.trans (s2.trans (s3.trans s4))) (L8 ha hb ra rb)⟩
end
noncomputable def WG (X:Cx)(tg:Expr):TG:=λv U H Q=>∀(pins:Zs)(s:Shared)(u:Value),Inv X pins U H s->RelV v u->wpAny (model X.prog X.w) X.A (assign tg X.env u) (λ_ s'=>∃σ' H',Inv X pins σ' H' s'/\Q σ' H') X.xe s
def WG.of(h:PG X tg t)(q:t v U H Q):WG X tg v U H Q:=λpins s u I r=>h pins s U H v u Q I r q
noncomputable def zP (X:Cx)(ifs:A05):TT:=λU H Q=>∀(pins:Zs)(s:Shared),Inv X pins U H s->wpAny (model X.prog X.w) X.A (forIn ifs true λc r=>if r=true then do let ok <-isTrue c X.env (eval c X.env);pure (ForInStep.yield ok)else pure (ForInStep.yield r)) (TP X pins U Q) X.xe s
def zP.of(h:wX X ifs t)(q:t U H Q):zP X ifs U H Q:=λpins s I=>h pins s U H Q I q
noncomputable def WL (X:Cx)(D:Addr)(elt:Expr)(gens:Zq)(scope:Scope)(pos:Pos) (k:Nat):TL:=λys U H Q=>
 X.s₀.heap.objs.size<=D->(∀y c,X.env.cells.lookup y=some c->c≠D)->(∀e s',X.xe e s'->False)->
 ∀(pins:Zs)(s:Shared)(its:A02) (nn:Nat)(fin:Sem Fin)(Qf:Fin->Shared->Prop)(E:Zp),
  (∀p∈X.pn++pins,p.1≠D)->Inv X ((D,i7 its nn)::pins) U H s->Vals ys its->ys.length<=sizeLine->
  (∀s' ys' its' nn' σ' H',Inv X ((D,i7 its' nn')::pins) σ' H' s'->Vals ys' its'->ys'.length<=sizeLine->Q ys' σ' H'->wpAny (model X.prog X.w) X.A fin Qf E s')->
  wpAny (model X.prog X.w) X.A (jw elt gens scope pos k (.ref D) X.env fin) Qf E s
def WL.of{D:Addr}{k:Nat}(h:PL X D elt gens scope pos k t)(q:t ys U H Q):WL X D elt gens scope pos k ys U H Q:=λh1 h2 h3 pins s its nn fin Qf E hp I rv hz hf=>h h1 h2 h3 pins s U H ys its nn Q fin Qf E hp I rv hz q hf
def Agree (cs:A07)(U σ':St):Prop:=U.length=σ'.length/\∀j,j∉cs->σ'[j]?=U[j]?
def Agree.refl(cs:A07)(U:St):Agree cs U U:=⟨rfl,λ_ _=>rfl⟩
theorem Agree.trans(h:Agree cs a b)(k:Agree cs b c):Agree cs a c:=⟨h.1.trans k.1,λj hj=>(k.2 j hj).trans (h.2 j hj)⟩
theorem Agree.symm(h:Agree cs a b):Agree cs b a:=⟨h.1.symm,λj hj=>(h.2 j hj).symm⟩
section
variable{K:Frag}{g:Gh}{E E0:En}{U σ':St}{H Hm:Hp}{F:Nat->A03}
def Rl.RT(R:Rl K g E U H Hm F){i:Nat}(o:bI E i=true)(v:Option V):Rl K g (E.set i none) (U.set i v) H Hm (λj=>if j=i then []else F j) where
 len:=by rw[VT,VT];exact R.len
 sub:=R.sub
 slot:=λj k' d' e'=>by
  by_cases c:j=i
  .subst c;rw[aC (fR o)]at e';cases e'
  .rw[ai (Ne.symm c)]at e';obtain⟨u,g1,g2⟩:=R.slot j k' d' e';exact⟨u,by rw[ai (Ne.symm c)];exact g1,by rw[if_neg c];exact g2⟩
 off:=λj a ha=>by
  by_cases c:j=i
  .rw[if_pos c]at ha;cases ha
  .rw[if_neg c]at ha;exact R.off j a ha
 aX:=λj a ha=>by
  by_cases c:j=i
  .rw[if_pos c]at ha;cases ha
  .rw[if_neg c]at ha;exact R.aX j a ha
 aD:=λj l a g1 g2=>by
  by_cases c:j=i
  .rw[if_pos c]at g1;cases g1
  .rw[if_neg c]at g1
   by_cases c':l=i
   .rw[if_pos c']at g2;cases g2
   .rw[if_neg c']at g2;exact R.aD j l a g1 g2
 fr:=R.fr
 new:=λj a ha=>by
  by_cases c:j=i
  .rw[if_pos c]at ha;cases ha
  .rw[if_neg c]at ha;exact R.new j a ha
 pin:=λq hq=>by
  obtain⟨g1,ds',g2⟩:=R.pin q hq;have c:i≠q.1:=λz=>by
   unfold bI at o;rw[z,g2]at o;cases o
  exact⟨by rw[ai c];exact g1,ds',by rw[ai c];exact g2⟩
 old:=R.old
theorem Rl.bM:∀{cs:A07}{E E0:En}{U:St}{F:Nat->A03},Rl K g E U H Hm F->Dv.bM cs E=some E0->∃σ' F',Rl K g E0 σ' H Hm F'/\Agree cs U σ'/\(∀c∈cs,σ'[c]?=some none/\E0[c]?=some none)
 |[],E,E0,U,F,R,h=>by cases h;exact⟨U,F,R,Agree.refl _ _,λ_ z=>by cases z⟩
 |c::cs,E,E0,U,F,R,h=>by
  rw[Dv.bM]at h;by_cases o:bI E c=true
  .rw[if_pos o]at h;have R1:=R.RT o none;obtain⟨σ',F',R',a,n⟩:=Rl.bM (cs:=cs) R1 h;have lc:=fR o;have keep:∀{l:A07}{E E0:En},Dv.bM l E=some E0->∀j,j∉l->E0[j]?=E[j]?:=by
    intro l;induction l with
    |nil=>intro E E0 h j _;cases h;rfl
    |cons i l ih=>intro E E0 h j hj;rw[Dv.bM]at h;by_cases o:bI E i=true;{rw[if_pos o]at h;have ne:i≠j:=λz=>hj (z▸V3);exact(ih h j λz=>hj (VA _ z)).trans (ai ne)};rw[if_neg o]at h;cases h
   refine⟨σ',F',R',⟨by rw[<-a.1,VT],λj hj=>?_⟩,λd hd=>?_⟩;{have ne:c≠j:=λz=>hj (z▸V3);exact(a.2 j λz=>hj (VA _ z)).trans (ai ne)};by_cases m:d∈cs;{exact n d m};have e:d=c:=(VB.mp hd).resolve_right m;subst e;exact⟨(a.2 d m).trans (aC (R.len▸lc)),(keep h d m).trans (aC lc)⟩
  rw[if_neg o]at h;cases h
def Rl.agree(R:Rl K g E U H Hm F)(a:Agree cs U σ')(n:∀c∈cs,E[c]?=some none):Rl K g E σ' H Hm F where
 len:=R.len.trans a.1
 sub:=R.sub
 slot:=λj k d e=>by
  obtain⟨v,h1,h2⟩:=R.slot j k d e;refine⟨v,?_,h2⟩;rw[a.2 j λz=>by rw[n j z]at e;cases e]
  exact h1
 off:=R.off
 aX:=R.aX
 aD:=R.aD
 fr:=R.fr
 new:=R.new
 pin:=λq hq=>by
  obtain⟨g1,ds',g2⟩:=R.pin q hq;refine⟨?_,ds',g2⟩;rw[a.2 q.1 λz=>by rw[n q.1 z]at g2;cases g2]
  exact g1
 old:=R.old
end
inductive kR(X:Cx)(Ex:XK)(Y:A07):A05->DT->Prop
 |nil:kR X Ex Y [] fT
 |one {e:Expr}{t:DT}:ST X Ex Y e t->kR X Ex Y [e] t
def kR.ok(h:kR X Ex Y ifs t){F:Nat->A03}(hx:XL X Ex x g)(R:Rl X.K g E U H Hm F)(p:t x E P)(q:∀E' b H' Hm' F',P E' b->Rl X.K g E' U H' Hm' F'->ah Hm Hm'->Q b H'):zP X ifs (sel Y U) H Q:=by
 cases h with
 |nil=>exact zP.of Mh (q _ _ _ _ _ p R (ah.refl _))
 |one h=>exact zP.of (LR jI) (h g x E U H Hm F P Q hx R p q)
noncomputable def SL (X:Cx)(Y cs:A07)(D:Addr)(elt:Expr)(gens:Zq)(scope:Scope)(pos:Pos) (k:Nat)(dc:DC):Prop:=
 ∀(g:Gh)(E:En)(U:St)(H Hm:Hp)(F:Nat->A03)(ys:List V)(dys:A00)(P:A00->En->Prop)(Q:List V->St->Hp->Prop),Rl X.K g E U H Hm F->av X.K Hm ys dys->dc xF dys E P->
  (∀E' dys' ys' σ' H' Hm' F',P dys' E'->Rl X.K g E' σ' H' Hm' F'->ah Hm Hm'->av X.K Hm' ys' dys'->Agree cs U σ'->Q ys' (sel Y σ') H')->WL X D elt gens scope pos k ys (sel Y U) H Q
section
variable{X:Cx}{Ex:XK}{Y cs:A07}{D:Addr}{elt tg iter:Expr}{ifs:A05}{gens:Zq}{scope:Scope}{pos:Pos}{k:Nat}
def LF(h:SE X Ex Y elt d)(hk:gens[k]?=none):SL X Y cs D elt gens scope pos k (cC sizeLine d):=by intro g E U H Hm F ys dys P Q R r p q;refine WL.of (Bl aV hk) (h g xF E U H Hm F _ _ XL.no R p λE1 k1 v u H1 Hm1 F1 fp p1 R1 s1 T=>?_);obtain⟨hk,hl,p1⟩:=p1;obtain⟨Hm2,s2,R2,r2⟩:=T.dX R1 hk;exact⟨by rw[r.len];exact hl,q _ _ _ _ _ _ _ p1 R2 (s1.trans s2) ((r.mono (s1.trans s2)).snoc r2) (Agree.refl _ _)⟩
def Io{xs:A00}{t:Tg}{c:DT}{r:DC}{G:TG}{tt:TT}{tr:TL}{I:Nat->A00->En->Prop}{U:St}{F1:Nat->A03}{Q:List V->St->Hp->Prop}(hts:∀i∈t.slots,i∈cs)(it1:yH K J xs Hm1)(R1:Rl K g E1 U H1 Hm1 F1)(r0:av K Hm1 ys dys)(i0:I 0 dys E1)(hG:∀{d:PyData}{v:V}{E E2:En}{U:St}{H Hm:Hp}{F:Nat->A03}{Q:St->Hp->Prop},cX t d E=some E2->Rp K Hm v d->Rl K g E U H Hm F->(∀σ' F',Rl K g E2 σ' H Hm F'->(∀j,j∉t.slots->σ'[j]?=U[j]?)->Q (sel Y σ') H)->G v (sel Y U) H Q)(hT:∀{E:En}{U:St}{H Hm:Hp}{F:Nat->A03}{P:En->Bool->Prop}{Q:Bool->Hp->Prop},Rl K g E U H Hm F->c xF E P->(∀E' b H' Hm' F',P E' b->Rl K g E' U H' Hm' F'->ah Hm Hm'->Q b H')->tt (sel Y U) H Q)(hR:∀{E:En}{U:St}{H Hm:Hp}{F:Nat->A03}{ys:List V}{dys:A00}{P:A00->En->Prop}{Q:List V->St->Hp->Prop},Rl K g E U H Hm F->av K Hm ys dys->r xF dys E P->(∀E' dys' ys' σ' H' Hm' F',P dys' E'->Rl K g E' σ' H' Hm' F'->ah Hm Hm'->av K Hm' ys' dys'->Agree cs U σ'->Q ys' (sel Y σ') H')->tr ys (sel Y U) H Q)(step:∀i d ys E,xs[i]?=some d->I i ys E->∃E2,cX t d E=some E2/\c xF E2 λE3 b=>if b=true then r xF ys E3 (I (i+1))else I (i+1) ys E3)(fin:∀E' dys' ys' σ' H' Hm' F',I xs.length dys' E'->Rl K g E' σ' H' Hm' F'->ah Hm1 Hm'->av K Hm' ys' dys'->Agree cs U σ'->Q ys' (sel Y σ') H'):Jv J G tt tr ys (sel Y U) H1 Q:=by
 refine⟨λi m ys τ H'=>m=xs.length-i/\i<=xs.length/\∃E' dys' σ' Hm' F',I i dys' E'/\Rl K g E' σ' H' Hm' F'/\ah Hm1 Hm'/\av K Hm' ys dys'/\Agree cs U σ'/\τ=sel Y σ',⟨xs.length,by simp,W7 _,E1,dys,U,Hm1,F1,i0,R1,ah.refl _,r0,Agree.refl _ _,rfl⟩,?_⟩;rintro i m ys τ H2⟨rfl,hi,E2,dys2,σ2,Hm2,F2,i2,R2,s2,r2,a2,rfl⟩;obtain⟨go,stop⟩:=it1 i H2 Hm2 s2 R2.sub;by_cases c':i<xs.length
 .obtain⟨go,rR⟩:=go xs[i] (VP c');refine .inr ⟨go,λys τ H'=>i+1<=xs.length/\∃E' dys' σ' Hm' F',I (i+1) dys' E'/\Rl K g E' σ' H' Hm' F'/\ah Hm1 Hm'/\av K Hm' ys dys'/\Agree cs U σ'/\τ=sel Y σ',λys τ H' z=>⟨xs.length-(i+1),by lia,rfl,z⟩,λx H3 y=>?_⟩;obtain⟨Hm3,t1,t2,t3,old,rx⟩:=rR x H3 y;have R3:=R2.turn t1 t2 t3 old;obtain⟨E4,e4,p4⟩:=step i xs[i] dys2 E2 (VP c') i2;refine hG e4 rx R3 λσ4 F4 R4 ag=>?_;have a4:Agree cs U σ4:=a2.trans ⟨by rw[<-R3.len,<-R4.len];exact(show E2.length=E4.length from R3.len.trans (by
   have h1:=R3.len;have h2:=R4.len;have:E4.length=E2.length:=by
    have go:∀{is:A07}{ds:A00}{E E':En},bL is ds E=some E'->E'.length=E.length:=by
     intro is
     induction is with
     |nil=>intro ds E E' h;cases ds with|nil=>cases h;rfl|cons _ _=>cases h
     |cons j is ih=>
      intro ds E E' h;cases ds with
      |nil=>cases h
      |cons d ds=>
       rw[bL]at h
       by_cases o:bI E j=true
       .rw[if_pos o]at h;rw[ih h,VT]
       .rw[if_neg o]at h;cases h
    cases t with
    |nm j=>exact go (is:=[j]) e4
    |tp js=>
     cases hd:xs[i]with
     |tuple ds=>rw[hd]at e4;exact go (is:=js) e4
     |_=>rw[hd]at e4;cases e4
    |nt j js=>
     obtain⟨a,ds,hd,e4⟩:=vH e4;exact go (is:=j::js) e4
   lia)),λj hj=>ag j λz=>hj (hts j z)⟩
  refine hT R4 p4 λE5 b H5 Hm5 F5 p5 R5 s5=>?_;cases b with
  |true=>refine oN (hR R5 (r2.mono (t1.trans s5)) (by simpa using p5) λE6 dys6 ys6 σ6 H6 Hm6 F6 p6 R6 s6 r6 a6=>?_);exact⟨c',E6,dys6,σ6,Hm6,F6,p6,R6,s2.trans (t1.trans (s5.trans s6)),r6,a4.trans a6,rfl⟩
  |false=>exact oq ⟨c',E5,dys2,σ4,Hm5,F5,by simpa using p5,R5,s2.trans (t1.trans s5),r2.mono (t1.trans s5),a4,rfl⟩
 have e:i=xs.length:=by lia
 subst e;exact .inl ⟨stop (V5 _),fin _ _ _ _ _ _ _ i2 R2 s2 r2 a2⟩
def Je:caps ix (sel Y U)=ix.map λi=>(((Y[i]?).map λm=>(U[m]?).join)).join:=by unfold caps sel;refine VX λi _=>?_;rw[VE]
def cE (Y cs ix:A07):A07:=cs++ix.map λi=>(Y[i]?).getD 0
def Be(hix:∀i∈ix,i<Y.length)(aD:∀c∈cs,c∉Y)(a:Agree cs U σ0)(n:∀c∈cs,σ0[c]?=some none):List.replicate cs.length none++caps ix (sel Y U)=sel (cE Y cs ix) σ0:=by unfold cE;rw[Je];unfold sel;rw[VR,VG];congr 1;{refine(List.eq_replicate_iff.mpr ⟨V4 ..,λx hx=>?_⟩).symm;obtain⟨c,hc,rfl⟩:=V8.mp hx;rw[n c hc];rfl};refine VX λi hi=>?_;have l:=hix i hi;show((Y[i]?).map λm=>(U[m]?).join).join=(σ0[(Y[i]?).getD 0]?).join;rw[VP l];show(U[Y[i]]?).join=(σ0[Y[i]]?).join;rw[a.2 Y[i] λz=>aD _ z (Xp l)]
def BK{rest:Zq}{vs NB:A09}{ix:A07}{di:DI}{t:Tg}{c:DT}{r:DC}(B:cQ X scope vs NB ix)(hc:X.calm=true)(hcs:cs.length=vs.length)(hix:∀i∈ix,i<Y.length)(aD:∀c∈cs,c∉Y)(nd:(cE Y cs ix).Nodup)(hi:SI X Ex Y tg iter di)(ht:∀(C:Addr)(s:Shared)(H:Hp)(fp:A03),gI (X.block scope C NB s H fp) (cE Y cs ix) tg t)(hts:∀i∈t.slots,i∈cs)(hif:∀(C:Addr)(s:Shared)(H:Hp)(fp:A03),kR (X.block scope C NB s H fp) E0 (cE Y cs ix) ifs c)(hr:∀(C:Addr)(s:Shared)(H:Hp)(fp:A03)(D:Addr),SL (X.block scope C NB s H fp) (cE Y cs ix) cs D elt (⟨tg,iter,ifs,0⟩::rest) scope pos 1 r)(ha:∀g∈rest,g.is_async=0)(hs:∀v,foldedSetIterable iter X.env v=pure v){w:(V->Hp->Prop)->St->Hp->Prop}(hw:∀{wi:TI}{G:TG}{tt:TT}{tr:TL}{U:St}{H:Hp}{Q:VK},PI X tg iter wi->(∀(C:Addr)(s:Shared)(H:Hp)(fp:A03),PG (X.block scope C NB s H fp) tg G)->(∀(C:Addr)(s:Shared)(H:Hp)(fp:A03),wX (X.block scope C NB s H fp) ifs tt)-> (∀(C:Addr)(s:Shared)(H:Hp)(fp:A03)(D:Addr),PL (X.block scope C NB s H fp) D elt (⟨tg,iter,ifs,0⟩::rest) scope pos 1 tr)->uM wi vs.length ix G tt tr U H Q->w Q U H)(g:Gh)(x:XC)(E:En)(U:St)(H Hm:Hp)(F:Nat->A03)(P:En->Kd->PyData->Prop)(Q:VK)(hx:XL X Ex x g)(R:Rl X.K g E U H Hm F)(p:cB cs di t c r x E P)(q:∀E' k v u H' Hm' F' fp,P E' k v->Rl X.K g E' U H' Hm' F'->ah Hm Hm'->Tm X.K g F' H' Hm' k u v fp->Q u H'):w Q (sel Y U) H:=by
 obtain⟨wi,hpi,hwi⟩:=hi;refine hw (wi:=wi) (G:=λv U H Q=>∀(C:Addr)(s:Shared)(H2:Hp)(fp:A03),WG (X.block scope C NB s H2 fp) tg v U H Q) (tt:=λU H Q=>∀(C:Addr)(s:Shared)(H2:Hp)(fp:A03),zP (X.block scope C NB s H2 fp) ifs U H Q)
  (tr:=λys U H Q=>∀(C:Addr)(s:Shared)(H2:Hp)(fp:A03)(D:Addr),WL (X.block scope C NB s H2 fp) D elt (⟨tg,iter,ifs,0⟩::rest) scope pos 1 ys U H Q) hpi (λC s H2 fp pins s' U H v u Q I r h=>h C s H2 fp pins s' u I r) (λC s H2 fp pins s' U H Q I h=>h C s H2 fp pins s' I)
  (λC s H2 fp D h1 h2 h3 pins s' U H ys its nn Q fin Qf E hp I rv hz h hf=>h C s H2 fp D h1 h2 h3 pins s' its nn fin Qf E hp I rv hz hf) ?_
 refine hwi g x E U H Hm F _ _ hx R p λE1 xs J H1 Hm1 F1 p1 R1 s1 it1=>?_;obtain⟨E0',I,hcl,i0,step,fin⟩:=p1;obtain⟨σ0,F0,R0,a0,n0⟩:=R1.bM hcl;rw[<-hcs,Be hix aD a0 λc hc=>(n0 c hc).1];refine Io (cs:=cs) (t:=t) (c:=c) (r:=r) hts it1 R0 .nil i0 (λh1 h2 h3 h4 C s H2 fp=>?_) (λh1 h2 h3 C s H2 fp=>(hif C s H2 fp).ok XL.no h1 h2 h3) (λh1 h2 h3 h4 C s H2 fp D=>hr C s H2 fp D g _ _ _ _ _ _ _ _ _ h1 h2 h3 h4) step λE' dys' ys' σ' H' Hm' F' i R' s' r' a' p hp=>?_;{obtain⟨G,g1,g2⟩:=xW (X:=X.block scope C NB s H2 fp) hc B.nd nd (ht C s H2 fp);exact WG.of g1 (g2 h1 h2 h3 h4)};obtain⟨E2,hcl2,p2⟩:=fin _ _ i;obtain⟨σ2,F2,R2,a2,n2⟩:=R'.bM hcl2;have R3:=R2.agree (cs:=cs) ((a0.trans a').trans a2).symm λc hc=>(n2 c hc).2;have s2:=aQ (o:=.lst ys') hp;have R4:=R3.grow (H':=upd H' p (.lst ys')) s2 (ah.refl _) (R3.sub.trans s2) (λi a ha=>R3.off i a ha) λ_ _=>.inl rfl;refine q _ _ _ _ _ Hm' F2 [p] p2 R4 (s1.trans s') ⟨.ow aq r',λa ha=>?_,λa ha i=>?_,λa ha=>?_⟩;{rw[V7.mp ha];exact R3.g9 hp};{rw[V7.mp ha];exact R3.fresh hp};rw[V7.mp ha];exact R3.d7 hp
end
section
variable{X:Cx}{Ex:XK}{Y cs:A07}{elt tg iter:Expr}{ifs:A05}{scope:Scope}{pos:Pos}
def Od{rest:Zq}{vs NB:A09}{ix:A07}{di:DI}{t:Tg}{c:DT}{r:DC}(B:cQ X scope vs NB ix)(hc:X.calm=true)(hcs:cs.length=vs.length)(hix:∀i∈ix,i<Y.length)(aD:∀c∈cs,c∉Y)(nd:(cE Y cs ix).Nodup)(hi:SI X Ex Y tg iter di)(ht:∀(C:Addr)(s:Shared)(H:Hp)(fp:A03),gI (X.block scope C NB s H fp) (cE Y cs ix) tg t)(hts:∀i∈t.slots,i∈cs)(hif:∀(C:Addr)(s:Shared)(H:Hp)(fp:A03),kR (X.block scope C NB s H fp) E0 (cE Y cs ix) ifs c)(hr:∀(C:Addr)(s:Shared)(H:Hp)(fp:A03)(D:Addr),SL (X.block scope C NB s H fp) (cE Y cs ix) cs D elt (⟨tg,iter,ifs,0⟩::rest) scope pos 1 r)(ha:∀g∈rest,g.is_async=0)(hs:∀v,foldedSetIterable iter X.env v=pure v):SE X Ex Y (.ListComp elt (⟨tg,iter,ifs,0⟩::rest) scope pos) (cB cs di t c r):=λg x E U H Hm F P Q hx R p q=>
 BK B hc hcs hix aD nd hi ht hts hif hr ha hs (w:=λQ U H=>WE X (.ListComp elt (⟨tg,iter,ifs,0⟩::rest) scope pos) U H Q) (λh1 h2 h3 h4 h5=>WE.of (Jq B hc h1 h2 h3 h4 ha hs) h5) g x E U H Hm F P Q hx R p q
def RA{j:Nat}{y:Str}{py spos:Pos}(hN:X.N.Nodup)(hj:X.N[j]?=some y)(hy:X.env.scope.names.lookup y=some .local){rest:Zq}{vs NB:A09}{ix:A07}{di:DI}{t:Tg}{c:DT}{r:DC}(B:cQ X scope vs NB ix)(hc:X.calm=true)(hcs:cs.length=vs.length)(hix:∀i∈ix,i<(aK X).length)(aD:∀c∈cs,c∉aK X)(nd:(cE (aK X) cs ix).Nodup)(hi:SI X Ex (aK X) tg iter di)(ht:∀(C:Addr)(s:Shared)(H:Hp)(fp:A03),gI (X.block scope C NB s H fp) (cE (aK X) cs ix) tg t)(hts:∀i∈t.slots,i∈cs)(hif:∀(C:Addr)(s:Shared)(H:Hp)(fp:A03),kR (X.block scope C NB s H fp) E0 (cE (aK X) cs ix) ifs c)(hr:∀(C:Addr)(s:Shared)(H:Hp)(fp:A03)(D:Addr),SL (X.block scope C NB s H fp) (cE (aK X) cs ix) cs D elt (⟨tg,iter,ifs,0⟩::rest) scope pos 1 r)(ha:∀g∈rest,g.is_async=0)(hs:∀v,foldedSetIterable iter X.env v=pure v)(hsw:swapsWith (.ListComp elt (⟨tg,iter,ifs,0⟩::rest) scope pos) (some (.Name y py)) spos.line X.env=pure true):S1 X Ex (.Assign [.Name y py] (.ListComp elt (⟨tg,iter,ifs,0⟩::rest) scope pos) spos) (aF j (cB cs di t c r)):=by
 rw[vS];intro g D' E U H Hm F D hx R p nx rt;refine BK B hc hcs hix aD nd hi ht hts hif hr ha hs (w:=λQ τ H=>(Q=λu H1=>D.nx (τ.set j (some u)) H1)->WS X (.Assign [.Name y py] (.ListComp elt (⟨tg,iter,ifs,0⟩::rest) scope pos) spos) D τ H)
  (λh1 h2 h3 h4 h5 e=>by
   subst e;exact WS.of (yG hN hj hy B hc h1 h2 h3 h4 hsw ha hs) h5) g D'.xc E U H Hm F _ _ hx R p (λE' k v u H' Hm' F' fp p' R' s' T=>?_) rfl
 rw[iJ Wv (gz (aR hj)) (R'.len▸fR p'.1)];exact nx _ _ _ _ _ p'.2 (R'.put T p'.1) s'
end
end Dv
namespace L2
open PySem PySem.Spec PyProof.Rows
section
variable{X:Cx}
theorem xo:∀{xs:List V}{us:A02} (k:Nat),Vals xs us->Vals (xs.take k) (us.take k)
 |_,_,0,_=>.nil
 |_,_,_+1,.nil=>.nil
 |_,_,k+1,.cons h r=>.cons h (xo k r)
theorem wZ:∀{xs:List V}{us:A02} (k:Nat),Vals xs us->Vals (xs.drop k) (us.drop k)
 |_,_,0,h=>h
 |_,_,_+1,.nil=>.nil
 |_,_,k+1,.cons _ r=>wZ k r
theorem yZ:∀{xs ys:List V}{us ws:A02},Vals xs us->Vals ys ws->Vals (xs++ys) (us++ws)
 |_,_,_,_,.nil,h=>h
 |_,_,_,_,.cons h r,h2=>.cons h (yZ r h2)
inductive zT(x:V)(vs:List V)(H:Hp)(Q:VK):Prop
 |mk:∀(l:Addr)(xs:List V) (i:Nat) (y:V),(x=.ref l)->(vs=[.int (i:Int),y])->(H l=some (.lst xs))->(i<=xs.length)->(xs.length<sizeLine)->(Q .aU (upd H l (.lst (xs.take i++y::xs.drop i))))->zT x vs H Q
def B9:V->List V->Hp->VK->Prop:=λx vs H Q=>zT x vs H Q
def Hv:vj X "list.insert" B9:=by
 intro pins s U H x vs v us Q I rx rv h;obtain⟨l,xs,i,y,rfl,rfl,hH,hi,hs,q⟩:=h;cases rx;obtain⟨u1,u2,rfl,ru1,ru2⟩:=rv.two;obtain⟨t,rfl⟩:=ru1;obtain⟨z,its,n,r,hl,e⟩:=I.vM hH;have line:sizeLine<2^62:=by decide
 have fit:¬(!Builtin.List.listFitsIndex (i:Int))=true:=by rw[fitsIndex_both (k:=(i:Int)) (by lia) (by lia)];decide
 have sz:its.toArray.size<=sizeLine:=by rw[VM];lia
 have key:((λxs:Zz=>have k:=if(i:Int)<0 then((i:Int)+(xs.size:Int)).toNat else min (i:Int).toNat xs.size;(xs.extract 0 k).push u2++xs.extract k) its.toArray)=(its.take i++u2::its.drop i).toArray:=by
  have h1:¬((i:Int)<0):=by lia
  have h2:min i its.length=i:=by lia
  apply Array.toList_inj.mp;simp[h1,h2];exact Xb (by simp)
 have I2:∀tk,Inv X pins U (upd H l (.lst (xs.take i++y::xs.drop i))) { s with heap:=s.heap.update l (Obj.mapSeq (λxs:Zz=>have k:=if(i:Int)<0 then((i:Int)+(xs.size:Int)).toNat else min (i:Int).toNat xs.size;(xs.extract 0 k).push u2++xs.extract k)),toks:=tk }:=λtk=>I.vW (its':=its.take i++u2::its.drop i) hH e key (yZ (xo i r) (.cons ru2 (wZ i r))) (by
  rw[VH,VI,Wj,WO];lia)
 generalize (i:Int)=x at fit I2⊢;exact XD F.slot_list_insert ⟨_,e,rfl⟩ F.entry_list_insert (F.args_list_insert_3 _ _ _) (AutoSeq1.list_insert_list_int_val_1 l its.toArray n x t u2 fit sz) ⟨e,.aU,_,I2 _,rfl,q⟩
end
end L2
namespace Dv
open PySem L2 PySem.W
noncomputable def xg (K:Frag)(f:DM)(r:V->List V->Hp->VK->Prop):Prop:=∀(H Hm:Hp)(a:Addr)(xs:List V)(ds:A00)(vs:List V)(args:A00)(P:A00->PyData->Prop)(Q:VK),H a=some (.lst xs)->Hm a=none->ah Hm H->av K Hm xs ds->av K Hm vs args->f ds args P->
 (∀ys new u v,P new v->av K Hm ys new->Rp K Hm u v->Q u (upd H a (.lst ys)))->r (.ref a) vs H Q
theorem FI:∀{es:List DE}{os:List (Option PyData)}{vs:List V}{ds:A00},Got K U Hm (es.map .ev) os vs->fill (es.map .ev) E os=some ds->av K Hm vs ds
 |[],_,_,_,.nil,h=>by cases h;exact .nil
 |e::es,_,_,_,.ev (os:=os) r G,h=>by
  have h:(fill (es.map .ev) E os).map (_::·)=some _:=h;cases hf:fill (es.map .ev) E os with
  |none=>rw[hf]at h;cases h
  |some ds=>rw[hf]at h;cases h;exact .cons r (FI G hf)
inductive sA(X:Cx)(Ex:XK)(Y:A07):A05->List DE->Prop
 |nil:sA X Ex Y [] []
 |cons {e:Expr}{d:DE}{es:A05}{ds:List DE}:SE X Ex Y e d->sA X Ex Y es ds->sA X Ex Y (e::es) (d::ds)
def sA.as(h:sA X Ex Y es ds):aJ X Ex Y es (ds.map .ev):=by
 induction h with
 |nil=>exact .nil
 |cons h _ ih=>exact .ev h ih
def Eo(ns:es.all noStar=true)(l:es.length<30):((backTo cpos (starEach es env)).all (λx=>!x.1)&&(backToKw cpos (keywordEach [] env)).all (λx=>x.1.isSome)&&decide (es.length+([]:List Keyword).length+(if([]:List Keyword).isEmpty then 0 else 1)<30))=true:=by have h:=fE (pos:=cpos) (env:=env) ns;rw[List.any_eq_false]at h;rw[V9,V9,VL];refine⟨⟨λx hx=>by simpa using h x hx,rfl⟩,Vw ?_⟩;show es.length+0+0<30;lia
section
variable{X:Cx}{Ex:XK}{Y:A07}
def IG{i:Nat}(h:jA E i=true):∃p ds,E[i]?=some (some (.ow p,.list ds)):=by unfold jA at h;split at h;{rename_i p ds e;exact⟨p,ds,e⟩};cases h
def QU{x name:Str}{id:String}{p apos cpos:Pos}{es:A05}{ds:List DE}{f:DM}{r:V->List V->Hp->VK->Prop}{i j:Nat}(hm:vj X id r)(D:xg X.K f r)(slot:Slot "list" name id)(hty:typeOf (.builtin id)=pure (.type "method_descriptor"))(hv:PE X (.Name x p) (lQ j))(hj:Y[j]?=some i)(ns:es.all noStar=true)(l30:es.length<30)(hline:(apos.endLine==cpos.line)=true)(S:sA X Ex Y es ds):SE X Ex Y (.Call (.Attribute (.Name x p) name apos) es [] cpos) (iR f i ds):=by
 intro g xc E U H Hm F P Q hx R h q;replace h:bK (jA E i) _:=h;rw[cS]at h;obtain⟨ho,h⟩:=h;obtain⟨p0,ds0,e0⟩:=IG ho;obtain⟨v,h1,h2⟩:=R.slot i _ _ e0;have hs1:=bR hj h1;have fin:∀a xs0,v=.ref a->H a=some (.lst xs0)->pV X es (sel Y U) H λvs H2=>r (.ref a) vs H2 Q:=λa xs0 ev _=>by
  subst ev;refine iS hx S.as R h λE1 os vs H1 Hm1 F1 p1 R1 s1 G=>?_;replace p1:Gb f i (ds.map .ev) E1 os P:=p1;unfold Gb at p1;rw[<-bq,dR]at p1;obtain⟨args,hf,p1⟩:=p1;split at p1
  rotate_left
  .exact p1.elim
  rename_i p1' ds1 e1;have ra:=FI G hf;obtain⟨v',g1,g2⟩:=R1.slot i _ _ e1;rw[h1]at g1;cases g1;generalize hfi:F1 i=fi at g2;cases g2 with
  |@ow _ _ xs1 _ ha1 hr1=>refine D H1 Hm1 a xs1 ds1 vs args _ Q ha1 (R1.off i a (by rw[hfi];exact V3)) R1.sub hr1 ra p1 λys new u v p2 ry ru=>?_;obtain⟨a',xs',k1,k2,k3,k4,R2⟩:=R1.chg e1 ry;rw[h1]at k1;cases k1;exact q _ _ _ _ _ _ _ [] p2 R2 s1 (Tm.sh ru)
 generalize hfi:F i=fi at h2;cases h2 with
 |@ow _ a xs _ ha hr=>
  cases es with
  |nil=>exact WE.of (Es YO slot hty hm hv rfl hline) ⟨_,hs1,.inl ⟨rfl,_,bF.of ha⟩,fin a xs rfl ha⟩
  |cons e es=>have ns':=ns;rw[VJ,V9]at ns';exact WE.of (xU YO slot hty hm hv (dJ ns) rfl (Eo ns l30) hline (aG ns'.1) (fE ns'.2)) ⟨_,hs1,.inl ⟨rfl,_,bF.of ha⟩,fin a xs rfl ha⟩
def cy:DM:=λds args P=>match args with
 |[d]=>ds.length<sizeLine/\P (ds++[d]) .none
 |_=>False
def bZ:xg K cy AD:=by intro H Hm a xs ds vs args P Q ha _ s r ra h q;unfold cy at h;split at h;{obtain⟨x,rfl,h1⟩:=cR ra;exact⟨a,xs,x,rfl,rfl,ha,by rw[r.len];exact h.1,q _ _ _ _ h.2 (r.snoc h1) .aU⟩};exact h.elim
inductive w4(K:Frag) (x:V)(vs:List V)(H:Hp)(Q:VK):Prop
 |mk:∀l b xs zs,(x=.ref l)->(vs=[.ref b])->(H l=some (.lst xs))->(bX K H b zs)->(xs.length+zs.length<=sizeLine)->(Q .aU (upd H l (.lst (xs++zs))))->w4 K x vs H Q
def yC (K:Frag):V->List V->Hp->VK->Prop:=λx vs H Q=>w4 K x vs H Q
open PyProof.Rows in
def uU:vj X "list.extend" (yC X.K):=by
 intro pins s U H x vs v us Q I rx rv h;obtain⟨l,b,xs,zs,rfl,rfl,hH,hB,hz,q⟩:=h;cases rx;obtain⟨u,rfl,ru⟩:=rv.one;cases ru;obtain⟨z,its,n,r,hl,e⟩:=I.vM hH;obtain⟨z2,its2,n2,r2,e2⟩:=hB.get I;have hl2:=r2.length;have hsz:its.toArray.size+its2.toArray.size<=sizeLine:=by rw[VM,VM];lia
 have hlong:¬(!its.toArray.isEmpty&&Builtin.List.listTooLong (its.toArray.size+its2.toArray.size))=true:=by rw[nX hsz,XY];exact VV
 refine XD F.slot_list_extend ⟨_,e,rfl⟩ F.entry_list_extend (F.args_list_extend_2 _ _)
  (AutoSeq1.list_extend_list_list_0 l its.toArray n b its2.toArray n2 hlong (by rw[VM];lia) (by lia)) ⟨e,e2,?_⟩
 refine⟨.aU,_,I.vW (its':=its++its2) hH e (by simp) (r.append r2) ?_,rfl,q⟩;rw[VH];lia
def nh:DM:=λds args P=>match args with
 |[.list es]=>ds.length+es.length<=sizeLine/\P (ds++es) .none
 |_=>False
def uN:xg K nh (yC K):=by intro H Hm a xs ds vs args P Q ha _ s r ra h q;unfold nh at h;split at h;{obtain⟨x,rfl,h1⟩:=cR ra;obtain⟨b,zs,rfl,hb,r2⟩:=fN h1;exact⟨a,b,xs,zs,rfl,rfl,ha,bX.mono s hb,by rw[r.len,r2.len];exact h.1,q _ _ _ _ h.2 (r.app r2) .aU⟩};exact h.elim
noncomputable def Oz:DM:=λds args P=>match args with
 |[]=>∃d,ds[ds.length-1]?=some d/\P ds.dropLast d
 |[.int i]=>(-(2^63)<=i/\i<2^63)/\∃n d,seqIndex? i ds.length=some n/\ds[n]?=some d/\P (ds.eraseIdx n) d
 |_=>False
def wz:DM:=λds args P=>match args with
 |[.int i,d]=>∃n:Nat,i=n/\n<=ds.length/\ds.length<sizeLine/\P (ds.take n++d::ds.drop n) .none
 |_=>False
def CS:xg K wz B9:=by intro H Hm a xs ds vs args P Q ha _ s r ra h q;unfold wz at h;split at h;{obtain⟨x,y,rfl,h1,h2⟩:=fV ra;cases h1;obtain⟨n,rfl,l1,l2,h⟩:=h;exact⟨a,xs,n,y,rfl,rfl,ha,by rw[r.len];exact l1,by rw[r.len];exact l2,q _ _ _ _ h ((r.take n).app (.cons h2 (r.drop n))) .aU⟩};exact h.elim
end
def nY:bJ a=bJ b↔a=b:=by cases a<;>cases b<;>simp[bJ]
theorem wB:∀{a b:List Key},a.map bJ=b.map bJ↔a=b
 |[],[]=>by simp
 |[],_::_=>by simp
 |_::_,[]=>by simp
 |a::as,b::bs=>by simp[nY,wB (a:=as) (b:=bs)]
def tN{a b:List Key}:PyData.tuple (a.map bJ)=.tuple (b.map bJ)↔a=b:=by rw[PyData.tuple.injEq];exact wB
def rG(h:mj w=true):∃k,w=bJ k:=by
 cases w with
 |int i=>exact⟨.inl i,rfl⟩
 |str x=>exact⟨.inr x,rfl⟩
 |_=>cases h
theorem jM:∀{ks:A00},ks.all mj=true->∃k:List Key,ks=k.map bJ
 |[],_=>⟨[],rfl⟩
 |w::ks,h=>by rw[VJ,V9]at h;obtain⟨k,rfl⟩:=rG h.1;obtain⟨l,rfl⟩:=jM h.2;exact⟨k::l,rfl⟩
section
variable{K:Frag}{H:Hp}
def uK(r:Rp K H u (bJ k)):u=kV k:=by
 cases k with
 |inl i=>have r:Rp K H u (.int i):=r;cases r;rfl
 |inr x=>have r:Rp K H u (.str x):=r;cases r;rfl
theorem tX:∀{us:List V}{k:List Key},av K H us (k.map bJ)->us=k.map kV
 |_,[],r=>by cases r;rfl
 |_,k::ks,r=>by
  cases r with
  |cons h t=>rw[uK h,tX t];rfl
def we{k:List Key}(r:Rp K H u (.tuple (k.map bJ))):∃b,u=.ref b/\H b=some (.tup (k.map kV)):=by
 cases r with
 |tup a r=>exact⟨_,rfl,by rw[<-tX r];exact a⟩
theorem eY.len:∀{kvs:List (Key×V)}{ds:Zn},eY K H kvs ds->kvs.length=ds.length
 |_,_,.nil=>rfl
 |_,_,.cons _ r=>congrArg (·+1) r.len
theorem eK.len:∀{kvs:List (List Key×V)}{ds:Zn},eK K H kvs ds->kvs.length=ds.length
 |_,_,.nil=>rfl
 |_,_,.cons _ r=>congrArg (·+1) r.len
theorem eY.val:∀{kvs:List (Key×V)}{ds:Zn},eY K H kvs ds->(cN ds (bJ k)=none/\cP kvs k=none)\/∃v d,cP kvs k=some v/\cN ds (bJ k)=some d/\Rp K H v d
 |_,_,.nil=>.inl ⟨rfl,rfl⟩
 |_,_,.cons (k:=k') (v:=v) (d:=d) (kvs:=kvs) (ds:=ds) h r=>by
  by_cases c:k'=k;{subst c;exact .inr ⟨v,d,by unfold cP;rw[YQ (by simp)];rfl,by unfold cN;rw[YQ (by simp)];rfl,h⟩};have c':¬bJ k'=bJ k:=λz=>c (nY.mp z);have e1:cP ((k',v)::kvs) k=cP kvs k:=by unfold cP;rw[YR (by simpa using c)]
  have e2:cN ((bJ k',d)::ds) (bJ k)=cN ds (bJ k):=by unfold cN;rw[YR (by simpa using c')]
  rw[e1,e2];exact r.val
theorem eK.val:∀{kvs:List (List Key×V)}{ds:Zn},eK K H kvs ds->(cN ds (.tuple (k.map bJ))=none/\cP kvs k=none)\/∃v d,cP kvs k=some v/\cN ds (.tuple (k.map bJ))=some d/\Rp K H v d
 |_,_,.nil=>.inl ⟨rfl,rfl⟩
 |_,_,.cons (k:=k') (v:=v) (d:=d) (kvs:=kvs) (ds:=ds) h r=>by
  by_cases c:k'=k;{subst c;exact .inr ⟨v,d,by unfold cP;rw[YQ (by simp)];rfl,by unfold cN;rw[YQ (by simp)];rfl,h⟩};have c':¬PyData.tuple (k'.map bJ)=.tuple (k.map bJ):=λz=>c (tN.mp z);have e1:cP ((k',v)::kvs) k=cP kvs k:=by unfold cP;rw[YR (by simpa using c)]
  have e2:cN ((.tuple (k'.map bJ),d)::ds) (.tuple (k.map bJ))=cN ds (.tuple (k.map bJ)):=by unfold cN;rw[YR (by simpa using c')]
  rw[e1,e2];exact r.val
theorem eY.any:∀{kvs:List (Key×V)}{ds:Zn},eY K H kvs ds->(kvs.any λkv=>decide (kv.1=k))=ds.any λkv=>decide (kv.1=bJ k)
 |_,_,.nil=>rfl
 |_,_,.cons (k:=k') h r=>by rw[Wy,Wy,r.any,decide_eq_decide.mpr (nY (a:=k') (b:=k)).symm]
theorem eK.any{k:List Key}:∀{kvs:List (List Key×V)}{ds:Zn},eK K H kvs ds->(kvs.any λkv=>decide (kv.1=k))=ds.any λkv=>decide (kv.1=.tuple (k.map bJ))
 |_,_,.nil=>rfl
 |_,_,.cons (k:=k') h r=>by rw[Wy,Wy,r.any,decide_eq_decide.mpr (tN (a:=k') (b:=k)).symm]
theorem eY.app(k:Key)(h:Rp K H v d):∀{kvs:List (Key×V)}{ds:Zn},eY K H kvs ds->eY K H (kvs++[(k,v)]) (ds++[(bJ k,d)])
 |_,_,.nil=>.cons h .nil
 |_,_,.cons g r=>.cons g (r.app k h)
theorem eK.app(k:List Key)(h:Rp K H v d):∀{kvs:List (List Key×V)}{ds:Zn},eK K H kvs ds->eK K H (kvs++[(k,v)]) (ds++[(.tuple (k.map bJ),d)])
 |_,_,.nil=>.cons h .nil
 |_,_,.cons g r=>.cons g (r.app k h)
def eY.put(k:Key)(h:Rp K H v d)(r:eY K H kvs ds):eY K H (putK kvs k v) (putD ds (bJ k) d):=by
 unfold putK putD;rw[r.any (k:=k)];split
 .have go:∀{kvs:List (Key×V)}{ds:Zn},eY K H kvs ds->eY K H (kvs.map λkv=>if kv.1=k then(kv.1,v)else kv) (ds.map λkv=>if kv.1=bJ k then(kv.1,d)else kv):=by
   intro kvs;induction kvs with
   |nil=>intro ds r;cases r;exact .nil
   |cons p kvs ih=>
    intro ds r;cases r with
    |@cons k' v' d' _ ds g r=>rw[VN,VN];by_cases c:k'=k;{rw[if_pos c,if_pos (congrArg bJ c)];exact .cons h (ih r)};rw[if_neg c,if_neg λz=>c (nY.mp z)];exact .cons g (ih r)
  exact go r
 exact r.app k h
def eK.put(k:List Key)(h:Rp K H v d)(r:eK K H kvs ds):eK K H (putK kvs k v) (putD ds (.tuple (k.map bJ)) d):=by
 unfold putK putD;rw[r.any (k:=k)];split
 .have go:∀{kvs:List (List Key×V)}{ds:Zn},eK K H kvs ds->eK K H (kvs.map λkv=>if kv.1=k then(kv.1,v)else kv) (ds.map λkv=>if kv.1=.tuple (k.map bJ)then(kv.1,d)else kv):=by
   intro kvs;induction kvs with
   |nil=>intro ds r;cases r;exact .nil
   |cons p kvs ih=>
    intro ds r;cases r with
    |@cons k' v' d' _ ds g r=>rw[VN,VN];by_cases c:k'=k;{rw[if_pos c,if_pos (by rw[c])];exact .cons h (ih r)};rw[if_neg c,if_neg λz=>c (tN.mp z)];exact .cons g (ih r)
  exact go r
 exact r.app k h
end
section
variable{X:Cx}{Ex:XK}{Y:A07}
inductive JZ(neg:Bool) (x:V) (y:V)(H:Hp)(Q:VK):Prop
 |mk:∀a o,(y=.ref a)->(jb H a x o)->(Q (.bl (if neg then !o.isSome else o.isSome)) H)->JZ neg x y H Q
def Iv (neg:Bool):R2:=λx y H Q=>JZ neg x y H Q
def Ot(hu:X.A.units+64<cLine):bN X (compareOp .In) (Iv false):=by intro pins s U H x y v u Q I rx ry h;obtain⟨a,o,rfl,g,q⟩:=h;cases ry;exact T7 (by lia) I g rx λs3 I3=>⟨.bl o.isSome,H,I3,rfl,q⟩
def GG(hu:X.A.units+64<cLine):bN X (compareOp .NotIn) (Iv true):=by intro pins s U H x y v u Q I rx ry h;obtain⟨a,o,rfl,g,q⟩:=h;cases ry;exact Lo (by lia) I g rx λs3 I3=>⟨.bl (!o.isSome),H,I3,rfl,q⟩
noncomputable def oM (neg:Bool):DR:=λds P=>BZ (λx y=>match y,x with
 |.dict ((.none,.none)::kvs),.tuple ks=>ks.all mj=true/\P .sh (.bool (if neg then !(cN kvs (.tuple ks)).isSome else(cN kvs (.tuple ks)).isSome))
 |.dict kvs,w=>(mj w=true/\nU kvs=true)/\P .sh (.bool (if neg then !(cN kvs w).isSome else(cN kvs w).isSome))
 |y,x=>KO neg [x,y] P) ds
def zj (K:Frag)(neg:Bool):R2:=λx y H Q=>Dp K neg x y H Q\/Iv neg x y H Q
def OH(hu:X.A.units+64<cLine):bN X (compareOp .In) (zj X.K false):=bN.or (QA hu) (Ot hu)
def Gy(hu:X.A.units+64<cLine):bN X (compareOp .NotIn) (zj X.K true):=bN.or (FT hu) (GG hu)
def tE(r:Rp K H u (.dict kvs))(h:nU kvs=true):∃a es,u=.ref a/\H a=some (.dK es)/\eY K H es kvs:=by
 cases r with
 |dk a r=>exact⟨_,_,rfl,a,r⟩
 |dt a r=>cases h
 |exc _ _=>cases h
 |pd _ _ _=>cases h
def Fz(r:Rp K H u (.dict ((.none,.none)::kvs))):∃a es,u=.ref a/\H a=some (.dT es)/\eK K H es kvs:=by
 generalize e:((PyData.none,PyData.none)::kvs)=ds at r;cases r with
 |dk a r=>
  cases r with
  |nil=>cases e
  |@cons k _ _ _ _ _ _=>cases k<;>cases e
 |dt a r=>cases e;exact⟨_,_,rfl,a,r⟩
 |exc _ _=>cases e
 |pd _ _ _=>cases e
def AH(neg:Bool):cT K (oM neg) (r2 (zj K neg)):=by
 intro H Hm vs ds P Q s r h q;obtain⟨x,y,w,d,rfl,rfl,h1,h2,h⟩:=qh r h;have dflt:KO neg [w,d] P->r2 (zj K neg) [x,y] H Q:=λh=>.inl (Nl neg H Hm _ _ P Q s r h q);have alt:∀kvs,d=.dict kvs->((mj w=true/\nU kvs=true)/\P .sh (.bool (if neg then !(cN kvs w).isSome else(cN kvs w).isSome)))->r2 (zj K neg) [x,y] H Q:=λkvs e hz=>by
  subst e;obtain⟨⟨hk,hp⟩,hz⟩:=hz;obtain⟨k,rfl⟩:=rG hk;cases uK h1;obtain⟨a,es,rfl,ha,rt⟩:=tE h2 hp;refine .inr ⟨a,_,rfl,jb.k (s _ _ ha),?_⟩;have e:(cP es k).isSome=(cN kvs (bJ k)).isSome:=by rcases rt.val (k:=k)with⟨e1,e2⟩|⟨v,d,e1,e2,_⟩;{rw[e1,e2];rfl};rw[e1,e2];rfl
  rw[e];exact bB.sc q s hz (.bl _)
 have h2':=h2;cases h2' with
 |dk _ rk=>
  cases rk with
  |nil=>exact alt _ rfl h
  |@cons k _ _ _ _ _ _=>cases k<;>exact alt _ rfl h
 |exc _ _=>exact alt _ rfl h
 |pd _ _ _=>exact alt _ rfl h
 |@dt _ _ kvs _ _=>
  cases w with
  |tuple ks=>
   obtain⟨k,rfl⟩:=jM h.1;obtain⟨b,rfl,hb⟩:=we h1;obtain⟨a,es,e,ha,rt⟩:=Fz h2;cases e;refine .inr ⟨_,_,rfl,jb.t (s _ _ ha) (s _ _ hb),?_⟩;have e:(cP es k).isSome=(cN kvs (.tuple (k.map bJ))).isSome:=by rcases rt.val (k:=k)with⟨e1,e2⟩|⟨v,d,e1,e2,_⟩;{rw[e1,e2];rfl};rw[e1,e2];rfl
   rw[e];exact bB.sc q s h.2 (.bl _)
  |_=>exact alt _ rfl h
 |_=>exact dflt h
inductive KJ(x:V) (y:V)(H:Hp)(Q:VK):Prop
 |mk:∀a v,(x=.ref a)->(jb H a y (some v))->(Q v H)->KJ x y H Q
def QN:R2:=λx y H Q=>KJ x y H Q
def Lr(hu:X.A.units+64<cLine):pR X QN:=by intro value slice pins s U H x y v u Q I rx ry h hs;obtain⟨a,w,rfl,g,q⟩:=h;cases rx;exact PyProof.Rows.tail_any (Aw I g) PySem.F.slot_dict_getitem.lookup (EV (by lia) I g ry λw' s3 I3 rw'=>⟨w,H,I3,rw',q⟩) hs
def atK (xs:A00) (i:Int):Option PyData:=match i with
 |.ofNat n=>xs[n]?
 |.negSucc n=>dP xs (.negSucc n)
def uz{xs:A00}{i:Int}:atK xs i=dP xs i:=by
 cases i with
 |ofNat n=>unfold atK dP l0;show xs[n]?=_;rw[if_pos (show(0:Int)<=Int.ofNat n from Yh n)];by_cases h:n<xs.length;{rw[if_pos (show Int.ofNat n<(xs.length:Int)from Y6.mpr h)];rfl};rw[if_neg (show ¬Int.ofNat n<(xs.length:Int)from λz=>h (Y6.mp z))];exact VY (Nat.le_of_not_lt h)
 |negSucc n=>rfl
noncomputable def aB:DR:=λds P=>BZ (λx y=>match x,y with
 |.list xs,.int i=>ay (atK xs i) (P .sh)
 |.tuple xs,.int i=>ay (atK xs i) (P .sh)
 |.dict ((.none,.none)::kvs),.tuple ks=>ks.all mj=true/\∃d,cN kvs (.tuple ks)=some d/\P .sh d
 |.dict kvs,w=>(mj w=true/\nU kvs=true)/\∃d,cN kvs w=some d/\P .sh d
 |x,y=>Km [x,y] P) ds
def DA (K:Frag):R2:=λx y H Q=>PR K x y H Q\/QN x y H Q
def Ux(hu:X.A.units+64<cLine):pR X (DA X.K):=EB.or (Lr hu)
def MM:cT K aB (r2 (DA K)):=by
 intro H Hm vs ds P Q s r h q;obtain⟨x,y,d,w,rfl,rfl,h2,h1,h⟩:=qh r h;have dflt:Km [d,w] P->r2 (DA K) [x,y] H Q:=λh=>.inl (QG H Hm _ _ P Q s r h q);have alt:∀kvs,d=.dict kvs->((mj w=true/\nU kvs=true)/\∃d,cN kvs w=some d/\P .sh d)->r2 (DA K) [x,y] H Q:=λkvs e hz=>by subst e;obtain⟨⟨hk,hp⟩,d,hv,hz⟩:=hz;obtain⟨k,rfl⟩:=rG hk;cases uK h1;obtain⟨a,es,rfl,ha,rt⟩:=tE h2 hp;rcases rt.val (k:=k)with⟨e1,e2⟩|⟨v,d',e1,e2,rv⟩;{rw[e1]at hv;cases hv};rw[e2]at hv;cases hv;exact .inr ⟨a,v,rfl,by rw[<-e1];exact jb.k (s _ _ ha),bB.sc q s hz rv⟩
 have h2':=h2;cases h2' with
 |lst _ _=>
  cases w with
  |int i=>have h:ay (atK _ i) (P .sh):=h;rw[uz,<-bq]at h;exact dflt h
  |_=>exact dflt h
 |tup _ _=>
  cases w with
  |int i=>have h:ay (atK _ i) (P .sh):=h;rw[uz,<-bq]at h;exact dflt h
  |_=>exact dflt h
 |dk _ rk=>
  cases rk with
  |nil=>exact alt _ rfl h
  |@cons k _ _ _ _ _ _=>cases k<;>exact alt _ rfl h
 |exc _ _=>exact alt _ rfl h
 |pd _ _ _=>exact alt _ rfl h
 |dt _ _=>
  cases w with
  |tuple ks=>obtain⟨hk,d,hv,hz⟩:=h;obtain⟨k,rfl⟩:=jM hk;obtain⟨b,rfl,hb⟩:=we h1;obtain⟨a,es,e,ha,rt⟩:=Fz h2;cases e;rcases rt.val (k:=k)with⟨e1,e2⟩|⟨v,d',e1,e2,rv⟩;{rw[e1]at hv;cases hv};rw[e2]at hv;cases hv;exact .inr ⟨_,v,rfl,by rw[<-e1];exact jb.t (s _ _ ha) (s _ _ hb),bB.sc q s hz rv⟩
  |_=>exact alt _ rfl h
 |_=>exact dflt h
def c9:DR:=λds P=>match ds with
 |[.dict kvs]=>nU kvs=true/\P .sh (.int kvs.length)
 |ds=>Jg ds P
def Jb:cT K c9 λxs H Q=>(∃p ys,xs=[.ref p]/\(bF K H p ys\/bO K H p ys)/\Q (.int ys.length) H)\/∃a kvs,xs=[V.ref a]/\H a=some (.dK kvs)/\Q (.int kvs.length) H:=by intro H Hm vs ds P Q s r h q;unfold c9 at h;split at h;{obtain⟨x,rfl,h1⟩:=cR r;obtain⟨a,es,rfl,ha,rt⟩:=tE h1 h.1;exact .inr ⟨a,es,rfl,s _ _ ha,by rw[rt.len];exact bB.sc q s h.2 (.int _)⟩};exact .inl (Lk H Hm _ _ P Q s r h q)
def Ji:DE:=λ_ E Q=>Q E (.dk false) (.dict [])\/Q E (.dt false) (.dict [(.none,.none)])
def QJ(h1:PE X (.Dict [] [] pos) Hg)(h2:PE X (.Dict [] [] pos) Gg):SE X Ex Y (.Dict [] [] pos) Ji:=by
 intro g x E U H Hm F P Q hx R p q;have go:∀(o:HO)(k:Kd)(d:PyData),P E k d->(∀p,Own X.K (upd H p o) Hm k (.ref p) d [p])->∀p,H p=none->Q (.ref p) (upd H p o):=λo k d p own a ha=>by have s2:=aQ (o:=o) ha;have R2:=R.grow (H':=upd H a o) s2 (ah.refl _) (R.sub.trans s2) (λi b hb=>R.off i b hb) λ_ _=>.inl rfl;refine q _ _ _ _ _ Hm F [a] p R2 (ah.refl _) ⟨own a,λb hb=>?_,λb hb i=>?_,λb hb=>?_⟩;{rw[V7.mp hb];exact R.g9 ha};{rw[V7.mp hb];exact R.fresh ha};rw[V7.mp hb];exact R.d7 ha
 rcases p with p|p;{exact WE.of h1 (go _ _ _ p λ_=>.dk aq .nil)};exact WE.of h2 (go _ _ _ p λ_=>.dt aq .nil)
def Rl.Jr{F:Nat->A03}(R:Rl K g E U H Hm F){i:Nat}{a:Addr}(e:E[i]?=some (some (k,d)))(hF:F i=[a])(hv:U[i]?=some (some (.ref a)))(new:Own K (upd H a o) Hm k (.ref a) d' [a])(nt:pM o)(hp:k=.ow true->∃ds,d'=.list ds) : Rl K g (E.set i (some (k,d'))) U (upd H a o) Hm F:=by
 have ma:a∈F i:=by rw[hF];exact V3
 have na:=R.off i a ma;have up:∀b,b≠a->upd H a o b=H b:=λb hb=>aj hb;have li:=aR e;exact {
  len:=by rw[VT];exact R.len
  sub:=λb u hb=>by
   have:b≠a:=λz=>by rw[z,na]at hb;cases hb
   rw[up b this];exact R.sub b u hb
  slot:=λj k' d'' e'=>by
   by_cases c:j=i
   .subst c;rw[aC li]at e';cases e';exact⟨_,hv,by rw[hF];exact new⟩
   .rw[ai (Ne.symm c)]at e';obtain⟨u,g1,g2⟩:=R.slot j k' d'' e';refine⟨u,g1,g2.step (ah.refl _) λb hb=>up b λz=>c (R.aD j i a (z▸hb) ma)⟩
  off:=R.off
  aX:=λj b hb=>by
   by_cases c:b=a
   .rw[c];exact⟨_,aq,nt⟩
   .rw[up b c];exact R.aX j b hb
  aD:=R.aD
  fr:=λq u hq ho=>by
   have:q≠a:=λz=>by
    rcases R.new i a ma with y|y
    .exact hq (z▸y)
    .rw[z,y]at ho;cases ho
   rw[up q this];exact R.fr q u hq ho
  new:=R.new
  pin:=λq hq=>by
   obtain⟨g1,ds',g2⟩:=R.pin q hq
   by_cases c:i=q.1
   .rw[<-c]at g1 g2⊢;rw[e]at g2;cases g2;obtain⟨ds,rfl⟩:=hp rfl;exact⟨g1,ds,aC li⟩
   .exact⟨g1,ds',by rw[ai c];exact g2⟩
  old:=R.old }
def Kc:Cj:=λo i v H Q=>Kq o i v H Q\/∃a H',o=.ref a/\p9 H a i v H'/\Q H'
def RP(hu:X.A.units+64<cLine):HK X Kc:=by intro pins s U H o i v ov iv u Q I ro ri rv h;rcases h with h|⟨a,H',rfl,g,q⟩;{exact set_list pins s U H o i v ov iv u Q I ro ri rv h};cases ro;exact HF (by lia) I g ri rv λs' I'=>⟨H',I',q⟩
def Ma{F:Nat->A03}{i:Nat}(R:Rl K g E U H Hm F)(ho:U[i]?=some (some o))(rw':Rp K Hm wv w)(rv:Rp K Hm vv v)(h:gS.setI E i w v Qe)(q:∀E' H',Qe E'->Rl K g E' U H' Hm F->Q H'):Kc o wv vv H Q:=by
 unfold gS.setI at h;split at h
 .rename_i p ds a e;rw[<-bq,yy]at h;obtain⟨n,hn,h⟩:=h;cases rw';obtain⟨v',h1,h2⟩:=R.slot i _ _ e;rw[ho]at h1;cases h1;generalize hfi:F i=fi at h2;cases h2 with
  |@ow _ b xs _ ha hr=>refine .inl ⟨b,xs,a,n,rfl,rfl,ha,by rw[hr.len];exact hn,q _ _ h ?_⟩;exact R.Jr e hfi ho (.ow aq (hr.set rv n)) iM λ_=>⟨_,rfl⟩
 .rename_i p kvs _ e;obtain⟨⟨hk,hl⟩,h⟩:=h;obtain⟨k,rfl⟩:=rG hk;cases uK rw';obtain⟨v',h1,h2⟩:=R.slot i _ _ e;rw[ho]at h1;cases h1;generalize hfi:F i=fi at h2;cases h2 with
  |@dk _ b es _ ha hr=>refine .inr ⟨b,_,rfl,p9.k ha (by rw[hr.len];exact hl),q _ _ h ?_⟩;exact R.Jr e hfi ho (.dk aq (hr.put k rv)) xx λz=>by cases z
 .rename_i p kv kvs ks e;obtain⟨⟨hk,hl⟩,h⟩:=h;obtain⟨k,rfl⟩:=jM hk;obtain⟨c,rfl,hc⟩:=we rw';obtain⟨v',h1,h2⟩:=R.slot i _ _ e;rw[ho]at h1;cases h1;generalize hfi:F i=fi at h2;cases h2 with
  |@dt _ b es _ ha hr=>refine .inr ⟨b,_,rfl,p9.t ha (R.sub _ _ hc) (by rw[hr.len];exact hl),q _ _ h ?_⟩;exact R.Jr e hfi ho (.dt aq (hr.put k rv)) uS λz=>by cases z
 exact h.elim
def Rm{i jx:Nat}(hu:X.A.units+64<cLine)(hv:PE X (.Name x p) (lQ jx))(hj:(aK X)[jx]?=some i)(hs:swapsWithSole [.Subscript (.Name x p) j pos'] e pos.line X.env=pure false)
  (ha:∀v,assign (.Subscript (.Name x p) j pos') X.env v=(do
   let ov <-holding [v] (eval (.Name x p) X.env)
   let iv <-holding [v,ov] (eval j X.env)
   standAt pos'
   holding [v,ov,iv] (setItem ov iv v)
   release [v,ov,iv] []))(hd:SE X Ex (aK X) e de)(hd2:SE X Ex (aK X) j dj):S1 X Ex (.Assign [.Subscript (.Name x p) j pos'] e pos) (gS i dj de):=by
 intro g D' E U H Hm F D hx R pp nx rt;refine WS.of (HA aV (Na hv aV (RP hu) ha) hs) (hd g D'.xc E U H Hm F _ _ hx R pp λE1 k v u H1 Hm1 F1 fp p1 R1 s1 T=>?_)
 replace p1:bK k.fz _:=p1
 rw[cS,cS]at p1;obtain⟨hk,hh,p1⟩:=p1;obtain⟨Hm2,s2,R2,r2⟩:=T.dX R1 hk;obtain⟨o,ho⟩:=l6 R2 hh;refine⟨o,bR hj ho,hd2 g D'.xc E1 U H1 Hm2 F1 _ _ hx R2 p1 λE3 k3 v3 u3 H3 Hm3 F3 fp3 p3 R3 s3 T3=>?_⟩
 replace p3:bK k3.fz _:=p3
 rw[cS]at p3;obtain⟨hk3,p3⟩:=p3;obtain⟨Hm4,s4,R4,r4⟩:=T3.dX R3 hk3;exact Ma R4 ho r4 (r2.mono (s3.trans s4)) p3 λE' H' q R'=>nx _ _ _ _ _ q R' (s1.trans (s2.trans (s3.trans s4)))
end
def ini:A04->A00->En
 |true::ms,d::ds=>some (.ow true,d)::ini ms ds
 |false::ms,d::ds=>some (.sh,d)::ini ms ds
 |_,_=>[]
def fH:A04->En->Option (A00)
 |[],_=>some []
 |true::ms,some (.ow true,.list es)::E=>(fH ms E).map (.list es::·)
 |false::ms,_::E=>fH ms E
 |_,_=>none
def fL:A04->Nat->A03->List (Nat×Addr)
 |true::ms,n,a::as=>(n,a)::fL ms (n+1) as
 |false::ms,n,as=>fL ms (n+1) as
 |_,_,_=>[]
def gF:A04->A03->List (A03)
 |true::ms,a::as=>[a]::gF ms as
 |false::ms,as=>[]::gF ms as
 |_,_=>[]
section
variable{K:Frag}{H Hm:Hp}
def Ag.zu(h:Ag K H Hm ms vs ds as):vs.length=ms.length:=by
 induction h with
 |nil=>rfl
 |sh _ _ ih=>rw[VI,VI,ih]
 |mu _ _ _ _ _ ih=>rw[VI,VI,ih]
def Ag.Tz(h:Ag K H Hm ms vs ds as):(ini ms ds).length=vs.length:=by
 induction h with
 |nil=>rfl
 |sh _ _ ih=>rw[ini,VI,VI,ih]
 |mu _ _ _ _ _ ih=>rw[ini,VI,VI,ih]
def Ag.pins(h:Ag K H Hm ms vs ds as):∀n,(fL ms n as).map (·.2)=as:=by
 induction h with
 |nil=>exact λ_=>rfl
 |sh _ _ ih=>exact λn=>ih (n+1)
 |@mu _ _ _ _ a _ _ _ _ _ _ _ ih=>exact λn=>congrArg (a::·) (ih (n+1))
def Ag.slot(h:Ag K H Hm ms vs ds as):∀{i:Nat}{k:Kd}{d:PyData},(ini ms ds)[i]?=some (some (k,d))->∃v,vs[i]?=some v/\Own K H Hm k v d ((gF ms as)[i]?.getD []):=by
 induction h with
 |nil=>intro i k d e;simp[ini]at e
 |@sh ms vs ds as v d r _ ih=>
  intro i k d' e;rw[ini]at e;cases i with
  |zero=>cases e;exact⟨v,rfl,.sh r⟩
  |succ i=>exact ih e
 |@mu ms vs ds as a xs es h1 h2 h3 h4 _ ih=>
  intro i k d' e;rw[ini]at e;cases i with
  |zero=>cases e;exact⟨_,rfl,.ow h1 h2⟩
  |succ i=>exact ih e
def Ag.Ka(h:Ag K H Hm ms vs ds as):(∀(i:Nat) a,a∈(gF ms as)[i]?.getD []->a∈as/\Hm a=none/\∃xs,H a=some (.lst xs))/\∀(i j:Nat) a,a∈(gF ms as)[i]?.getD []->a∈(gF ms as)[j]?.getD []->i=j:=by
 induction h with
 |nil=>exact⟨λi a h=>by simp[gF]at h,λi j a h=>by simp[gF]at h⟩
 |@sh ms vs ds as v d r _ ih=>
  refine⟨λi a h=>?_,λi j a h1 h2=>?_⟩
  .rw[gF]at h;cases i with
   |zero=>simp at h
   |succ i=>exact ih.1 i a h
  rw[gF]at h1 h2;cases i with
  |zero=>simp at h1
  |succ i=>
   cases j with
   |zero=>simp at h2
   |succ j=>exact congrArg (·+1) (ih.2 i j a h1 h2)
 |@mu ms vs ds as a xs es g1 g2 g3 g4 _ ih=>
  refine⟨λi b h=>?_,λi j b h1 h2=>?_⟩
  .rw[gF]at h;cases i with
   |zero=>have h:b∈[a]:=h;rw[V7]at h;subst h;exact⟨V3,g3,xs,g1⟩
   |succ i=>obtain⟨y1,y2⟩:=ih.1 i b h;exact⟨VA _ y1,y2⟩
  rw[gF]at h1 h2;cases i with
  |zero=>
   have h1:b∈[a]:=h1;rw[V7]at h1;subst h1;cases j with
   |zero=>rfl
   |succ j=>exact absurd (ih.1 j b h2).1 g4
  |succ i=>
   cases j with
   |zero=>have h2:b∈[a]:=h2;rw[V7]at h2;subst h2;exact absurd (ih.1 i b h1).1 g4
   |succ j=>exact congrArg (·+1) (ih.2 i j b h1 h2)
def Ag.pin(h:Ag K H Hm ms vs ds as):∀n,∀q∈fL ms n as,∃i,q.1=n+i/\vs[i]?=some (.ref q.2)/\∃es,(ini ms ds)[i]?=some (some (.ow true,.list es)):=by
 induction h with
 |nil=>exact λn q h=>by cases h
 |@sh ms vs ds as v d r _ ih=>intro n q h;obtain⟨i,e,h1,h2⟩:=ih (n+1) q h;exact⟨i+1,by lia,h1,h2⟩
 |@mu ms vs ds as a xs es g1 g2 g3 g4 _ ih=>intro n q h;have h:q∈(n,a)::fL ms (n+1) as:=h;rcases VB.mp h with rfl|h;{exact⟨0,rfl,rfl,es,rfl⟩};obtain⟨i,e,h1,h2⟩:=ih (n+1) q h;exact⟨i+1,by lia,h1,h2⟩
def Ag.back{H' Hm':Hp}{E:En}(h:Ag K H Hm ms vs ds as):∀{n:Nat}{us:A00},(∀q∈fL ms n as,∃es xs,E[q.1]?=some (some (.ow true,.list es))/\H' q.2=some (.lst xs)/\av K Hm' xs es/\Hm' q.2=none)->fH ms (E.drop n)=some us->Bk K H' Hm' as us:=by
 induction h with
 |nil=>intro n us _ e;cases e;exact .nil
 |@sh ms vs ds as v d r _ ih=>
  intro n us hq e;cases hE:E.drop n with
  |nil=>rw[hE]at e;cases e
  |cons o E'=>rw[hE]at e;refine ih (n:=n+1) hq ?_;rw[show E.drop (n+1)=E' from by rw[<-List.tail_drop,hE];rfl];exact e
 |@mu ms vs ds as a xs es g1 g2 g3 g4 _ ih=>
  intro n us hq e;obtain⟨es',xs',e1,e2,e3,e4⟩:=hq (n,a) V3;cases hE:E.drop n with
  |nil=>rw[hE]at e;cases e
  |cons o E'=>
   have ho:o=some (.ow true,.list es'):=by have:=List.getElem?_drop (xs:=E) (i:=n) (j:=0);rw[hE,Nat.add_zero]at this;have e1:E[n]?=_:=e1;rw[e1]at this;exact Option.some.inj this
   subst ho;rw[hE]at e;have e:(fH ms E').map (PyData.list es'::·)=some us:=e;cases hb:fH ms E' with
   |none=>rw[hb]at e;cases e
   |some us'=>rw[hb]at e;cases e;refine .cons e2 e3 e4 (ih (n:=n+1) (λq hq'=>hq q (VA _ hq')) ?_);rw[show E.drop (n+1)=E' from by rw[<-List.tail_drop,hE];rfl];exact hb
def Fb{n:Nat}(h:n<=U.length):sel (List.range n) U=U.take n:=by
 refine WA λi=>?_;unfold sel;rw[VE,List.getElem?_take];by_cases c:i<n
 .rw[VF c,if_pos c];have l:i<U.length:=by lia
  rw[VP l];show some ((U[i]?).join)=some U[i];rw[VP l];rfl
 rw[if_neg c,VY (by rw[VD];lia)];rfl
def Ag.rl(h:Ag K H Hm ms vs ds as)(s:ah Hm H) (m:Nat):Rl K ⟨H,Hm,fL ms 0 as⟩ (ini ms ds++List.replicate m none) (vs.map some++List.replicate m none) H Hm (λi=>(gF ms as)[i]?.getD []):=by
 have hM:Gh.M ⟨H,Hm,fL ms 0 as⟩=as:=h.pins 0;have inE:∀{i:Nat}{k:Kd}{d:PyData},(ini ms ds++List.replicate m none)[i]?=some (some (k,d))->(ini ms ds)[i]?=some (some (k,d)):=λ{i k d} e=>by rcases WM i (ini ms ds).length with l|l;{rwa[Xn l]at e};rw[YB l]at e;have:=VZ e;have:=List.eq_of_mem_replicate this;cases this
 have inV:∀{i:Nat}{v:V},vs[i]?=some v->(vs.map some++List.replicate m none)[i]?=some (some v):=λ{i v} e=>by have l:=aR e;rw[Xn (by rw[V4];exact l),VE,e];rfl
 exact {
  len:=by rw[VH,VH,h.Tz,V4,Wk,Wk]
  sub:=s
  slot:=λi k d e=>by
   obtain⟨v,h1,h2⟩:=h.slot (inE e);exact⟨v,inV h1,h2⟩
  off:=λi a ha=>(h.Ka.1 i a ha).2.1
  aX:=λi a ha=>by
   obtain⟨_,_,xs,e⟩:=h.Ka.1 i a ha;exact⟨_,e,iM⟩
  aD:=λi j a h1 h2=>h.Ka.2 i j a h1 h2
  fr:=λp o _ e=>e
  new:=λi a ha=>.inl (by rw[hM];exact(h.Ka.1 i a ha).1)
  pin:=λq hq=>by
   obtain⟨i,e,h1,es,h2⟩:=h.pin 0 q hq;rw[Nat.zero_add]at e;rw[e];refine⟨inV h1,es,?_⟩;rw[Xn (aR h2)];exact h2
  old:=λ_ _=>.inl rfl }
end
section
variable{P:Program}{w:World}{K:Frag}{mg:Zr}{base:Heap}
def aY (ms:A04)(Q:A00->Kd->PyData->Prop)(x:XC):fX where
 nx:=λE=>ay (fH ms E) λus=>Q us .sh .none
 rt:=λE k v=>ay (fH ms E) λus=>Q us k v
 xc:=x
def bH{f:Addr}{N ps:A09}{k:Nat}{ms:A04}{sp:bz}{d:DS}{m:Nat}(F:uo K x qual st f fd)(S:aH N ps (au st))(hl:ms.length=ps.length)(hm:N.length<=ps.length+m)(hb:∀(cdv:Value)(A:Around)(outer:List Env)(s:Shared)(H:Hp)(Ex:XK),cW k (A.deeper (PyProof.Rows.envOfC qual (au st) s.heap.objs.size f cdv))->SS (fF (dS P w) P w K mg base N qual (au st) f cdv A outer s H Ex) Ex (gA st) d)(hd:∀(ds:A00)(Q:A00->Kd->PyData->Prop)(x:XC),sp ds Q x->d (aY ms Q x) (ini ms ds++List.replicate m none)):gu P w K mg base (dS P w) (k+1) f fd ps (bS mg K ms sp):=by
 refine F.Gj S (λvs H Q E h=>?_) (λcdv A outer s H vs Q E hr h=>?_);{obtain⟨ds,as,Hm,P',x,_,ag,_⟩:=h;rw[ag.zu,hl]};obtain⟨ds,as,Hm,P',xc,sm,ag,hsp,ret,exn⟩:=h;refine⟨_,gE,?_⟩;have R:=ag.rl sm m;have hpre:N.length >= vs.length:=by rw[ag.zu,hl];have:=congrArg List.length S.pre;rw[Wj]at this;lia
 have hsel:L2.start N vs=sel (List.range N.length) (vs.map some++List.replicate m none):=by
  have hv:vs.length=ps.length:=by rw[ag.zu,hl]
  rw[Fb (by rw[VH,V4,Wk];lia)];unfold L2.start;rw[List.take_append,V4,Xb (by rw[V4];exact hpre),List.take_replicate];congr 2;lia
 rw[hsel];have hM:Gh.M ⟨H,Hm,fL ms 0 as⟩=as:=ag.pins 0;have fin:∀{E':En}{k:Kd}{v:PyData}{u:V}{σ':St}{H' Hm':Hp}{F':Nat->A03}{fp:A03},(ay (fH ms E') λus=>P' us k v)->Rl K ⟨H,Hm,fL ms 0 as⟩ E' σ' H' Hm' F'->Tm K ⟨H,Hm,fL ms 0 as⟩ F' H' Hm' k u v fp->Q u H':=by
  intro E' k v u σ' H' Hm' F' fp p R' T;rw[<-bq]at p;obtain⟨us,hus,p⟩:=p;refine ret us k v u H' Hm' fp p (λa o e=>?_) R'.sub (λp o hp e=>R'.fr p o (by rw[hM];exact hp) e) (λa _ ha=>R'.old a ha) ?_ T.own λa ha=>⟨T.new a ha,T.off a ha⟩
  .have:H a≠none:=λz=>by rw[sm _ _ e]at z;cases z
   rcases R'.old a this with e'|⟨e',_⟩;{exact e'.trans e};have e':Hm a=none:=e';rw[e]at e';cases e'
  refine ag.back (E:=E') (n:=0) (λq hq=>?_) (by rw[YJ];exact hus);obtain⟨h1,es,h2⟩:=R'.pin q hq;obtain⟨v',h3,h4⟩:=R'.slot _ _ _ h2;have hF:=R'.yT hq;rw[h1]at h3;cases h3;rw[hF]at h4;cases h4 with
  |ow e1 e2=>exact⟨es,_,h2,e1,e2,R'.off q.1 q.2 (by rw[hF];exact V3)⟩
 refine hb cdv A outer s H E hr ⟨H,Hm,fL ms 0 as⟩ (aY ms P' xc) _ _ H Hm _ _ (λc d' C a H' hC hx fr ha hn=>exn c d' C a H' hC hx (λp o hp ho=>fr p o (by rw[hM];exact hp) ho) ha hn) R (hd ds P' xc hsp) (λE' σ' H' Hm' F' p R' _=>?_) (λE' k v u σ' H' Hm' F' fp p R' T=>fin p R' T);exact fin (k:=.sh) (v:=.none) (u:=.aU) p R' (Tm.sh .aU)
end
section
variable{X:Cx}{Ex:XK}{Y:A07}
def xI{i:Int} {j}:SE X Ex Y (.Constant (.int i) j pos) (dC (.int i)):=ze k7 λ_=>.int i
def xS{j}:SE X Ex Y (.Constant (.str x) j pos) (dC (.str x)):=ze GW λ_=>.str x
def xB{b:Bool} {j}:SE X Ex Y (.Constant (.bool b) j pos) (dC (.bool b)):=ze QX λ_=>.bl b
def xN{j}:SE X Ex Y (.Constant .none j pos) (dC .none):=ze PF λ_=>.aU
def xG{i:Int}(hm:∃t,X.mg x=some (.int i t))(hg:Gl X x:=by rfl)(hd:(x==("__debug__":Str))=false:=by decide):SE X Ex Y (.Name x pos) (dC (.int i)):=
 let⟨t,ht⟩:=hm
 ze (vz (v:=.int i) hg ht ⟨t,rfl⟩ hd) λ_=>.int i
def xV(j:Nat){i:Nat}(hN:X.N[j]?=some x:=by rfl)(hv:gU X.env.scope x:=by nofun)(hj:Y[j]?=some i:=by rfl)(hd:(x==("__debug__":Str))=false:=by decide)(hcd:(x==("__classdict__":Str))=false:=by decide):SE X Ex Y (.Name x pos) (br i):=QI (cH hN hv hd hcd) hj
def a0:aJ X Ex Y [] []:=.nil
def aP(j:Nat){i:Nat}(S:aJ X Ex Y es as)(hN:X.N[j]?=some x:=by rfl)(hv:gU X.env.scope x:=by nofun)(hj:Y[j]?=some i:=by rfl)(hd:(x==("__debug__":Str))=false:=by decide)(hcd:(x==("__classdict__":Str))=false:=by decide):aJ X Ex Y (.Name x pos::es) (.pk i::as):=.pk (cH hN hv hd hcd) hj S
def aE(h:SE X Ex Y e d)(S:aJ X Ex Y es as):aJ X Ex Y (e::es) (.ev d::as):=.ev h S
def n9:DR:=oz λi j=>.int (i-j)
def qp:DR:=rB (λ_ j=>0<j) λi j=>.int (i%j)
def CO:DR:=rB Cn λi j=>.int (i/j)
def vF:DR:=rB yU λi j=>.int (i^j.toNat)
def kr:DR:=oz λi j=>.bool (decide (i<j))
def Vk:DR:=oz λi j=>.bool (decide (i<=j))
def uA:DR:=oz λi j=>.bool (decide (j<i))
def Ng:DR:=oz λi j=>.bool (decide (j<=i))
def fZ:DR:=λds P=>match ds with
 |[.int a]=>P .sh (.int (-a))
 |_=>False
def LC:cT K fZ (r1 (rU λi=>.int (-i))):=by intro H Hm vs ds P Q s r h q;unfold fZ at h;split at h;{obtain⟨x,rfl,h1⟩:=cR r;cases h1;exact⟨_,rfl,bB.sc q s h (.int _)⟩};exact h.elim
variable{a b:Expr}{pos:Pos}{as:List Arg}
def dF(S:aJ X Ex Y [a,b] as):SE X Ex Y (.BinOp a .Add b pos) (aa cF as):=jS Mb L5 S
def zZ(S:aJ X Ex Y [a,b] as):SE X Ex Y (.BinOp a .Sub b pos) (aa n9 as):=jS NZ (kX λ_ _ _=>.int _) S
def iC(S:aJ X Ex Y [a,b] as):SE X Ex Y (.BinOp a .Mult b pos) (aa eX as):=jS LX LD S
def wu(S:aJ X Ex Y [a,b] as):SE X Ex Y (.BinOp a .Mod b pos) (aa qp as):=jS OV (mU λ_ _ _=>.int _) S
def M8(S:aJ X Ex Y [a,b] as):SE X Ex Y (.BinOp a .FloorDiv b pos) (aa CO as):=jS IK (mU λ_ _ _=>.int _) S
def Cm(S:aJ X Ex Y [a,b] as):SE X Ex Y (.BinOp a .Pow b pos) (aa vF as):=jS Qz (mU λ_ _ _=>.int _) S
def lR(S:aJ X Ex Y [a] as):SE X Ex Y (.UnaryOp .USub a pos) (aa fZ as):=Sl PZ LC S
def S8(S:aJ X Ex Y [a,b] as):SE X Ex Y (.Compare a [.Lt] [b] pos) (aa kr as):=uu CV (gY _) (kX λ_ _ _=>.bl _) S
def NC(hu:X.A.units+64<cLine)(S:aJ X Ex Y [a,b] as):SE X Ex Y (.Compare a [.Eq] [b] pos) (aa iK as):=uu (zS hu) (gY _) EO S
def Sy(hu:X.A.units+64<cLine)(S:aJ X Ex Y [a,b] as):SE X Ex Y (.Compare a [.NotEq] [b] pos) (aa jO as):=uu (G6 hu) (gY _) FD S
def rM(S:aJ X Ex Y [a,b] as):bC X Ex Y (.Compare a [.Lt] [b] pos) (aa kr as):=iH CV (gY _) (kX λ_ _ _=>.bl _) S
def zR(S:aJ X Ex Y [a,b] as):bC X Ex Y (.Compare a [.Gt] [b] pos) (aa uA as):=iH RV (gY _) (kX λ_ _ _=>.bl _) S
def UU(S:aJ X Ex Y [a,b] as):bC X Ex Y (.Compare a [.GtE] [b] pos) (aa Ng as):=iH Rf (gY _) (kX λ_ _ _=>.bl _) S
def uC(hu:X.A.units+64<cLine)(S:aJ X Ex Y [a,b] as):bC X Ex Y (.Compare a [.Eq] [b] pos) (aa iK as):=iH (zS hu) (gY _) EO S
def xr(hu:X.A.units+64<cLine)(S:aJ X Ex Y [a,b] as):bC X Ex Y (.Compare a [.NotEq] [b] pos) (aa jO as):=iH (G6 hu) (gY _) FD S
def Ti(S:aJ X Ex Y [a,b] as):bC X Ex Y (.Compare a [.Is] [b] pos) (aa (fm false) as):=iH Nb (gY _) LA S
def UR(hu:X.A.units+64<cLine)(S:aJ X Ex Y [a,b] as)(hm:behindInMarks .In b=false:=by rfl):bC X Ex Y (.Compare a [.In] [b] pos) (aa (oM false) as):=iH (OH hu) hm (AH false) S
def T9(hu:X.A.units+64<cLine)(S:aJ X Ex Y [a,b] as)(hm:behindInMarks .NotIn b=false:=by rfl):bC X Ex Y (.Compare a [.NotIn] [b] pos) (aa (oM true) as):=iH (Gy hu) hm (AH true) S
def rN(h:SE X Ex Y e d)(he:∀whole,isTrue e X.env whole=(do let v <-whole;standAt e.pos;holding [v] (truthy v)):=by intro _;rfl):bC X Ex Y e d:=h.pN he
def tV(j:Nat){i:Nat}(hN:X.N[j]?=some x:=by rfl)(hv:gU X.env.scope x:=by nofun)(hj:Y[j]?=some i:=by rfl)(hd:(x==("__debug__":Str))=false:=by decide)(hcd:(x==("__classdict__":Str))=false:=by decide):ST X Ex Y (.Name x pos) (JT i):=T5 (cH hN hv hd hcd) hj λ_=>rfl
def aT(hu:X.A.units+64<cLine)(S:aJ X Ex Y [a,b] as)(hs:nv b:=by intro _ _;rfl):SE X Ex Y (.Subscript a b pos) (aa aB as):=RH (Ux hu) hs MM S
variable{p:Pos}
def gP(hm:X.mg "len"=none)(S:aJ X Ex Y [a] as)(hg:Gl X "len":=by rfl)(ns:noStar a=true:=by rfl):SE X Ex Y (.Call (.Name "len" p) [a] [] pos) (aa c9 as):=fJ (zY.or Gf) Jb hg hm PySem.boot_len (by decide) (by decide) (by rw[VJ,ns];rfl) S
def R9(hm:X.mg "list"=none)(S:aJ X Ex Y [a] as)(hg:Gl X "list":=by rfl)(ns:noStar a=true:=by rfl):SE X Ex Y (.Call (.Name "list" p) [a] [] pos) (aa qS as):=pX lg Iu hg hm XM (by decide) (by decide) (by rw[VJ,ns];rfl) S
def Qs(hm:X.mg "tuple"=none)(S:aJ X Ex Y [a] as)(hg:Gl X "tuple":=by rfl)(ns:noStar a=true:=by rfl):SE X Ex Y (.Call (.Name "tuple" p) [a] [] pos) (aa nk as):=pX pC HC hg hm YS (by decide) (by decide) (by rw[VJ,ns];rfl) S
def Oh(hm:X.mg "min"=none)(S:aJ X Ex Y [a,b] as)(hc:X.calm=true:=by rfl)(hg:Gl X "min":=by rfl)(ns:noStar a=true:=by rfl)(ns2:noStar b=true:=by rfl):SE X Ex Y (.Call (.Name "min" p) [a,b] [] pos) (aa xX as):=fJ (HE hc) QV hg hm ZW (by decide) (by decide) (by rw[VJ,VJ,ns,ns2];rfl) S
def DU(hm:X.mg "min"=none)(S:aJ X Ex Y [a] as)(hc:X.calm=true:=by rfl)(hg:Gl X "min":=by rfl)(ns:noStar a=true:=by rfl):SE X Ex Y (.Call (.Name "min" p) [a] [] pos) (aa lY as):=fJ (EZ hc) Jl hg hm ZW (by decide) (by decide) (by rw[VJ,ns];rfl) S
def RI(hm:X.mg "max"=none)(S:aJ X Ex Y [a] as)(hc:X.calm=true:=by rfl)(hg:Gl X "max":=by rfl)(ns:noStar a=true:=by rfl):SE X Ex Y (.Call (.Name "max" p) [a] [] pos) (aa CK as):=fJ (Ga hc) IC hg hm PyProof.Rows.boot_max (by decide) (by decide) (by rw[VJ,ns];rfl) S
def Om(hm:X.mg "int"=none)(S:aJ X Ex Y [a] as)(hg:Gl X "int":=by rfl)(ns:noStar a=true:=by rfl):SE X Ex Y (.Call (.Name "int" p) [a] [] pos) (aa kO as):=pX Eg Gw hg hm Yv (by decide) (by decide) (by rw[VJ,ns];rfl) S
def Aa(hm:X.mg "sum"=none)(S:aJ X Ex Y [a] as)(hc:X.calm=true:=by rfl)(hg:Gl X "sum":=by rfl)(ns:noStar a=true:=by rfl):SE X Ex Y (.Call (.Name "sum" p) [a] [] pos) (aa tw as):=fJ (Eu hc) LS hg hm PyProof.Rows.boot_sum (by decide) (by decide) (by rw[VJ,ns];rfl) S
def QO(hm:X.mg "all"=none)(S:aJ X Ex Y [a] as)(hc:X.calm=true:=by rfl)(hg:Gl X "all":=by rfl)(ns:noStar a=true:=by rfl):SE X Ex Y (.Call (.Name "all" p) [a] [] pos) (aa Ci as):=fJ (Er hc) MC hg hm PyProof.Rows.boot_all (by decide) (by decide) (by rw[VJ,ns];rfl) S
def EF(h1:X.mg "list"=none)(h2:X.mg "range"=none)(S:aJ X Ex Y [a] as)(hc:X.calm=true:=by rfl)(g1:Gl X "list":=by rfl)(g2:Gl X "range":=by rfl)(ns:noStar a=true:=by rfl):SE X Ex Y (.Call (.Name "list" p) [.Call (.Name "range" p2) [a] [] pos2] [] pos) (aa ly as):=IS hc g1 h1 g2 h2 ns S
def cK(S:aJ X Ex Y es as)(ns:es.all noStar=true:=by rfl):SE X Ex Y (.List es pos) (aa bY as):=OL ns S
def iW{k:Nat}(S:aJ X Ex Y es as)(ns:es.all noStar=true:=by rfl):SE X Ex Y (.Tuple es k pos) (aa fc as):=OW ns S
def Uz:SE X Ex Y (.Dict [] [] pos) Ji:=QJ II Jk
variable{tg:Expr}
def nG(hm:X.mg "range"=none)(S:aJ X Ex Y [a] as)(hg:Gl X "range":=by rfl)(ns:noStar a=true:=by rfl):SI X Ex Y tg (.Call (.Name "range" p) [a] [] pos) (iX jV as):=Sf hg hm ns S
def UP(hm:X.mg "range"=none)(S:aJ X Ex Y [a,b] as)(hg:Gl X "range":=by rfl)(ns:noStar a=true:=by rfl)(ns2:noStar b=true:=by rfl):SI X Ex Y tg (.Call (.Name "range" p) [a,b] [] pos) (iX FF as):=Rc hg hm ns ns2 S
def DW{x1:Nat}(hm:X.mg "enumerate"=none)(h:SE X Ex Y a d)(hg:Gl X "enumerate":=by rfl)(ns:noStar a=true:=by rfl):SI X Ex Y (.Tuple elts x1 tp) (.Call (.Name "enumerate" p) [a] [] pos) (uP d):=Q8 hg hm ns h
def Du{x1:Nat}(hm:X.mg "zip"=none)(h:SE X Ex Y a d)(h2:SE X Ex Y b d2)(hg:Gl X "zip":=by rfl)(ns:noStar a=true:=by rfl)(ns2:noStar b=true:=by rfl):SI X Ex Y (.Tuple elts x1 tp) (.Call (.Name "zip" p) [a,b] [] pos) (Gm d d2):=Sh hg hm ns ns2 h h2
def gN(j:Nat){i:Nat}(hN:X.N[j]?=some x:=by rfl)(hj:Y[j]?=some i:=by rfl)(hl:Loc X.env.scope x:=by first|exact Or.inl rfl|exact Or.inr rfl)(hf:X.fn x=true\/X.env.scope.names.lookup x=some .local:=by first|exact Or.inl rfl|exact Or.inr rfl):gI X Y (.Name x p) (.nm i):=.nm hN hj hl hf
def g0:jW X Y [] []:=.nil
def gC(j:Nat){i:Nat}(t:jW X Y ts is)(hN:X.N[j]?=some x:=by rfl)(hj:Y[j]?=some i:=by rfl)(hl:Loc X.env.scope x:=by first|exact Or.inl rfl|exact Or.inr rfl)(hf:X.fn x=true\/X.env.scope.names.lookup x=some .local:=by first|exact Or.inl rfl|exact Or.inr rfl):jW X Y (.Name x p::ts) (i::is):=.cons hN hj hl hf t
def gT{k:Nat}(t:jW X Y ts is):gI X Y (.Tuple ts k p) (.tp is):=.tp t
def oX:Passes (dS X.prog X.w) X E0:=by rintro pins U H s e s' I⟨_,_,_,_,_,_,_,_,_,_,_,_,_,_,_,z⟩;exact z.elim
def aS{k k':Nat}(F:bG X.prog X.w X.K X.mg X.base k x ps (bS X.mg X.K ms sp))(hp:Passes (dS X.prog X.w) X Ex)(hr:cW k' X.A)(S:aJ X Ex Y (e::es) as)(hk:k<=k':=by decide)(hg:Gl X x:=by rfl)(hd:(x==("__debug__":Str))=false:=by decide)(ns:(e::es).all noStar=true:=by rfl):SE X Ex Y (.Call (.Name x p) (e::es) [] pos) (aN sp ms as):=Mk F hp (hr.mono hk) hg hd ns S
def cA(h:SE X Ex (aK X) a d):S1 X Ex (.Return (some a) pos) (bU d):=Ro h
def iQ(i:Nat)(hN:X.N[i]?=some x:=by rfl)(hv:gU X.env.scope x:=by nofun)(hd:(x==("__debug__":Str))=false:=by decide)(hcd:(x==("__classdict__":Str))=false:=by decide):S1 X Ex (.Return (some (.Name x p)) pos) (fW i):=NN (cH hN hv hd hcd) (aR hN)
def cO(h:SE X Ex (aK X) a d)(hs:swapsWith a none pos.line X.env=pure false:=by rfl):S1 X Ex (.Expr a pos) (b6 d):=NT h hs
def aO(i:Nat)(hN:X.N.Nodup)(h:SE X Ex (aK X) a d)(hi:X.N[i]?=some x:=by rfl)(hl:Loc X.env.scope x:=by first|exact Or.inl rfl|exact Or.inr rfl)(hs:swapsWith a (some (.Name x p)) pos.line X.env=pure false:=by rfl)(hf:X.fn x=true\/X.env.scope.names.lookup x=some .local:=by first|exact Or.inl rfl|exact Or.inr rfl) : S1 X Ex (.Assign [.Name x p] a pos) (aF i d):=RQ hN hi hl hs hf h
def Dj{k:Nat}(hN:X.N.Nodup)(ht:jW X (aK X) ts is)(h:SE X Ex (aK X) a d)(hc:X.calm=true:=by rfl)(hs:swapsWithSole [.Tuple ts k p] a pos.line X.env=pure false:=by rfl)(hw:swappedStores [.Tuple ts k p] a X.env=pure none:=by rfl):S1 X Ex (.Assign [.Tuple ts k p] a pos) (tL is d):=Sj hc hN ht hs hw h
def ql(i:Nat)(hu:X.A.units+64<cLine)(hd:SE X Ex (aK X) a de)(hd2:SE X Ex (aK X) b dj)(hN:X.N[i]?=some x:=by rfl)(hv:gU X.env.scope x:=by nofun)(hs:swapsWithSole [.Subscript (.Name x p) b pos'] a pos.line X.env=pure false:=by rfl)
  (ha:∀v,assign (.Subscript (.Name x p) b pos') X.env v=(do
   let ov <-holding [v] (eval (.Name x p) X.env)
   let iv <-holding [v,ov] (eval b X.env)
   standAt pos'
   holding [v,ov,iv] (setItem ov iv v)
   release [v,ov,iv] []):=by intro _;rfl)(hb:(x==("__debug__":Str))=false:=by decide)(hcd:(x==("__classdict__":Str))=false:=by decide):S1 X Ex (.Assign [.Subscript (.Name x p) b pos'] a pos) (gS i dj de):=Rm hu (cH hN hv hb hcd) (gz (aR hN)) hs ha hd hd2
def fh(hc:ST X Ex (aK X) a t)(ha:SS X Ex u d)(hb:SS X Ex v e):S1 X Ex (.If a u v pos) (b8 t d e):=Ug hc ha hb
def EA(hp:PassesOwn (model X.prog X.w) X.A X.env X.xe)(hc:ST X Ex (aK X) a t)(hb:SS X Ex u d):S1 X Ex (.While a u [] pos) (qC t d):=MH hp hc hb
def fD(hp:PassesOwn (model X.prog X.w) X.A X.env X.xe)(hN:X.N.Nodup)(hi:SI X Ex (aK X) tg a di)(ht:gI X (aK X) tg t)(hb:SS X Ex u d)(hc:X.calm=true:=by rfl)(hs:∀x,foldedSetIterable a X.env x=pure x:=by intro _;rfl):S1 X Ex (.For tg a u [] pos) (dQ di t d):=Sk hp hc hN hi ht hb hs
def e0:sA X Ex Y [] []:=.nil
def eC(h:SE X Ex Y e d)(t:sA X Ex Y es ds):sA X Ex Y (e::es) (d::ds):=.cons h t
def xM(j:Nat){i:Nat}{x name:Str}{id:String}{p apos cpos:Pos}{es:A05}{ds:List DE}{f:DM}{r:V->List V->Hp->VK->Prop}(hm:vj X id r)(D:xg X.K f r)(slot:Slot "list" name id)(hty:typeOf (.builtin id)=pure (.type "method_descriptor"))(S:sA X Ex Y es ds)(hN:X.N[j]?=some x:=by rfl)(hv:gU X.env.scope x:=by nofun)(hj:Y[j]?=some i:=by rfl)(ns:es.all noStar=true:=by rfl)(l30:decide (es.length<30)=true:=by rfl)(hline:(apos.endLine==cpos.line)=true:=by rfl)(hd:(x==("__debug__":Str))=false:=by decide)(hcd:(x==("__classdict__":Str))=false:=by decide):SE X Ex Y (.Call (.Attribute (.Name x p) name apos) es [] cpos) (iR f i ds):=QU hm D slot hty (cH hN hv hd hcd) hj ns (WV l30) hline S
def k9:A07->Bool
 |[]=>true
 |a::r=>!r.contains a&&k9 r
theorem iN:∀{l:A07},k9 l=true->l.Nodup
 |[],_=>Wd
 |a::r,h=>by rw[k9,V9,YN,Y5,decide_eq_false_iff_not]at h;exact W6.mpr ⟨h.1,iN h.2⟩
def Ac (Y cs ix:A07)(vs:A09)(sl:A07):Bool:=(cs.length==vs.length)&&ix.all (λi=>Nat.blt i Y.length)&&cs.all (λc=>!Y.contains c)&&k9 (cE Y cs ix)&&sl.all (λi=>cs.contains i)
def yr(h:Ac Y cs ix vs sl=true):cs.length=vs.length/\(∀i∈ix,i<Y.length)/\(∀c∈cs,c∉Y)/\(cE Y cs ix).Nodup/\∀i∈sl,i∈cs:=by unfold Ac at h;rw[V9,V9,V9,V9,VL,VL,VL,beq_iff_eq]at h;obtain⟨⟨⟨⟨h1,h2⟩,h3⟩,h4⟩,h5⟩:=h;refine⟨h1,λi hi=>by simpa using h2 i hi,λc hc z=>?_,iN h4,λi hi=>?_⟩;{have:=h3 c hc;rw[YN,Y5,decide_eq_false_iff_not]at this;exact this z};have:=h5 i hi;rw[Y5,Wu]at this;exact this
def O3 (r:Zq):Bool:=r.all λg=>g.is_async==0
def Gn(h:O3 r=true):∀g∈r,g.is_async=0:=λg hg=>by have:=VL.mp h g hg;simpa using this
variable{cs:A07}{elt tg iter:Expr}{ifs:A05}{scope:Scope}{pos:Pos}
def kg{rest:Zq}{vs NB:A09}{ix:A07}{di:DI}{t:Tg}{c:DT}{r:DC}(B:nQ X.N X.env.scope scope vs NB ix=true)(hi:SI X Ex Y tg iter di)(ht:∀(C:Addr)(s:Shared)(H:Hp)(fp:A03),gI (X.block scope C NB s H fp) (cE Y cs ix) tg t)(hif:∀(C:Addr)(s:Shared)(H:Hp)(fp:A03),kR (X.block scope C NB s H fp) E0 (cE Y cs ix) ifs c)(hr:∀(C:Addr)(s:Shared)(H:Hp)(fp:A03)(D:Addr),SL (X.block scope C NB s H fp) (cE Y cs ix) cs D elt (⟨tg,iter,ifs,0⟩::rest) scope pos 1 r)(hc:X.calm=true:=by rfl)(ck:Ac Y cs ix vs t.slots=true:=by rfl)(ha:O3 rest=true:=by rfl)(hs:∀v,foldedSetIterable iter X.env v=pure v:=by intro _;rfl):SE X Ex Y (.ListComp elt (⟨tg,iter,ifs,0⟩::rest) scope pos) (cB cs di t c r):=
 let⟨h1,h2,h3,h4,h5⟩:=yr ck
 Od (cQ.of B) hc h1 h2 h3 h4 hi ht h5 hif hr (Gn ha) hs
def wk{j:Nat}{y:Str}{py spos:Pos}{rest:Zq}{vs NB:A09}{ix:A07}{di:DI}{t:Tg}{c:DT}{r:DC}(hN:X.N.Nodup)(B:nQ X.N X.env.scope scope vs NB ix=true)(hi:SI X Ex (aK X) tg iter di)(ht:∀(C:Addr)(s:Shared)(H:Hp)(fp:A03),gI (X.block scope C NB s H fp) (cE (aK X) cs ix) tg t)(hif:∀(C:Addr)(s:Shared)(H:Hp)(fp:A03),kR (X.block scope C NB s H fp) E0 (cE (aK X) cs ix) ifs c)(hr:∀(C:Addr)(s:Shared)(H:Hp)(fp:A03)(D:Addr),SL (X.block scope C NB s H fp) (cE (aK X) cs ix) cs D elt (⟨tg,iter,ifs,0⟩::rest) scope pos 1 r)(hj:X.N[j]?=some y:=by rfl)(hy:X.env.scope.names.lookup y=some .local:=by rfl)(hsw:swapsWith (.ListComp elt (⟨tg,iter,ifs,0⟩::rest) scope pos) (some (.Name y py)) spos.line X.env=pure true:=by rfl)(hc:X.calm=true:=by rfl)(ck:Ac (aK X) cs ix vs t.slots=true:=by rfl)(ha:O3 rest=true:=by rfl)(hs:∀v,foldedSetIterable iter X.env v=pure v:=by intro _;rfl):S1 X Ex (.Assign [.Name y py] (.ListComp elt (⟨tg,iter,ifs,0⟩::rest) scope pos) spos) (aF j (cB cs di t c r)):=
 let⟨h1,h2,h3,h4,h5⟩:=yr ck
 RA hN hj hy (cQ.of B) hc h1 h2 h3 h4 hi ht h5 hif hr (Gn ha) hs hsw
def dU{D:Addr}{k:Nat}(h:SE X E0 Y elt d)(hk:gens[k]?=none:=by rfl):SL X Y cs D elt gens scope pos k (cC sizeLine d):=LF h hk
def uE:PyData->Option String
 |.none=>some "NoneType"
 |.bool _=>some "bool"
 |.int _=>some "int"
 |.str _=>some "str"
 |.list _=>some "list"
 |.tuple _=>some "tuple"
 |.dict _=>none
def eN (c t:String):Bool:=t==c||(c == "int" && t == "bool")
def pP (c:String):DR:=λds P=>match ds with
 |[d]=>ay (uE d) λt=>P .sh (.bool (eN c t))
 |_=>False
def tys:List String:=["NoneType","bool","int","str","list","tuple"]
def yY (K:Frag)(cs:List String):Bool:=cs.all λc=>tys.all λt=>kitOne K (.type t) (.type c)==some (eN c t)
def OF{K:Frag}{cs:List String}(h:yY K cs=true){c t:String}(hc:c∈cs)(ht:t∈tys):kitOne K (.type t) (.type c)=some (eN c t):=by have:=VL.mp (VL.mp h c hc) t ht;simpa using this
def KG(s:ah Hm H)(r:Rp K Hm v d)(h:uE d=some t):fG K H v (.type t)/\t∈tys:=by
 cases r with
 |aU=>cases h;exact⟨.aU,by decide⟩
 |bl b=>cases h;exact⟨.bl b,by decide⟩
 |int i=>cases h;exact⟨.int i,by decide⟩
 |str x=>cases h;exact⟨.str x,by decide⟩
 |lst a _=>cases h;refine⟨?_,by decide⟩;rcases a with (a|⟨o,a⟩)|⟨its,n,a,_⟩;{exact .lst (s _ _ a)};{exact .dX (s _ _ a)};exact .kl a
 |tup a _=>cases h;exact⟨.tup (s _ _ a),by decide⟩
 |dk _ _=>cases h
 |dt _ _=>cases h
 |exc _ _=>cases h
 |pd _ _ _=>cases h
def ND{css:List String}(kf:yY X.K css=true)(hc:css.contains c=true)(hm:X.mg "isinstance"=none)(hm2:X.mg x=none)(hv:bootBuiltins x=some (.type c))(hg:Gl X "isinstance")(hg2:Gl X x)(hn:x≠"__name__")(hd:(x==("__debug__":Str))=false)(ns:noStar a=true)(S:aJ X Ex Y [a] as) : SE X Ex Y (.Call (.Name "isinstance" p) [a,.Name x p2] [] pos) (aa (pP c) as):=by refine eV (r:=λvs H Q=>∃v t,vs=[v]/\fG X.K H v (.type t)/\t∈tys/\Q (.bl (eN c t)) H) S (λU H Q h=>WE.of (lA HU hg hm Yw (bg aV (bg (rj (v:=.ty c) hg2 hm2 hv rfl hn hd) dh) (aG ns)) (by decide) (by decide) (aG ns) (by rfl)) ?_) ?_;{refine λpins s I=>aM (h pins s I) λv s1 ⟨y,H1,I1,r1,w,t,e,ty,ht,q⟩=>⟨y,H1,I1,r1,?_⟩;cases e;refine⟨_,_,_,_,rfl,ty,λu hu=>?_,q⟩;cases hu;exact OF kf (by simpa using hc) ht};intro H Hm vs ds P Q s r h q;unfold pP at h;split at h;{obtain⟨v,rfl,h1⟩:=cR r;rw[<-bq]at h;obtain⟨t,e,h⟩:=h;obtain⟨ty,ht⟩:=KG s h1 e;exact⟨v,t,rfl,ty,ht,bB.sc q s h (.bl _)⟩};exact h.elim
def qe(kf:yY X.K css=true)(hm:X.mg "isinstance"=none)(hm2:X.mg x=none)(hv:bootBuiltins x=some (.type c))(S:aJ X Ex Y [a] as)(hc:css.contains c=true:=by decide)(hg:Gl X "isinstance":=by rfl)(hg2:Gl X x:=by rfl)(hn:x≠"__name__":=by decide)(hd:(x==("__debug__":Str))=false:=by decide)(ns:noStar a=true:=by rfl) : SE X Ex Y (.Call (.Name "isinstance" p) [a,.Name x p2] [] pos) (aa (pP c) as):=ND kf hc hm hm2 hv hg hg2 hn hd ns S
end
open Classical in
def Gh.iu (g:Gh)(H:Hp)(fp:A03):Gh:=⟨λa=>if a∈fp then H a else g.H0 a,λa=>if a∈fp then none else g.dZ a,g.pins⟩
section
variable{K:Frag}{g:Gh}{E:En}{U:St}{H H' Hm Hm':Hp}{F:Nat->A03}{fp:A03}
def mZ{a:Addr}(h:a∈fp):(g.iu H fp).H0 a=H a:=by unfold Gh.iu;exact if_pos h
def ir{a:Addr}(h:a∉fp):(g.iu H fp).H0 a=g.H0 a:=by unfold Gh.iu;exact if_neg h
def FL{a:Addr}(h:a∈fp):(g.iu H fp).dZ a=none:=by unfold Gh.iu;exact if_pos h
def AN{a:Addr}(h:a∉fp):(g.iu H fp).dZ a=g.dZ a:=by unfold Gh.iu;exact if_neg h
structure pT(g:Gh)(F:Nat->A03)(H Hm:Hp)(fp:A03):Prop where
 Bw:∀a∈fp,∃u,H a=some u/\pM u
 off:∀a∈fp,Hm a=none
 aD:∀a∈fp,∀i,a∉F i
 new:∀a∈fp,g.H0 a=none
def pT.aX(A:pT g F H Hm fp):∀a∈fp,H a≠none:=λa ha z=>by obtain⟨u,hu,_⟩:=A.Bw a ha;rw[z]at hu;cases hu
def pT.notM(A:pT g F H Hm fp)(R:Rl K g E U H Hm F):∀a∈fp,a∉g.M:=λa ha m=>by obtain⟨q,hq,rfl⟩:=V8.mp m;exact A.aD _ ha q.1 (by rw[R.yT hq];exact V3)
theorem Rl.iu(R:Rl K g E U H Hm F)(A:pT g F H Hm fp):Rl K (g.iu H fp) E U H Hm F where
 len:=R.len
 sub:=R.sub
 slot:=R.slot
 off:=R.off
 aX:=R.aX
 aD:=R.aD
 fr:=λp o hp ho=>by
  by_cases c:p∈fp
  .rw[mZ c]at ho;exact ho
  .rw[ir c]at ho;exact R.fr p o hp ho
 new:=λi a ha=>by
  have c:a∉fp:=λz=>A.aD a z i ha
  rw[ir c];exact R.new i a ha
 pin:=R.pin
 old:=λa ha=>by
  by_cases c:a∈fp
  .rw[FL c];exact .inl (A.off a c)
  .rw[ir c]at ha;rw[AN c];exact R.old a ha
def Rl.Ad{F':Nat->A03}(A:pT g F H Hm fp)(nM:∀a∈fp,a∉g.M)(R:Rl K (g.iu H fp) E' σ' H' Hm' F'):Rl K g E' σ' H' Hm' F'/\pT g F' H' Hm' fp/\∀a∈fp,H' a=H a:=by
 have keep:∀a∈fp,H' a=H a:=λa ha=>by
  cases e:H a with
  |none=>exact absurd e (A.aX a ha)
  |some o=>exact R.fr a o (nM a ha) (by rw[mZ ha];exact e)
 refine⟨?_,⟨λa ha=>by rw[keep a ha];exact A.Bw a ha,λa ha=>?_,λa ha i z=>?_,A.new⟩,keep⟩
 .exact {
   len:=R.len
   sub:=R.sub
   slot:=R.slot
   off:=R.off
   aX:=R.aX
   aD:=R.aD
   fr:=λp o hp ho=>by
    have c:p∉fp:=λz=>by rw[A.new p z]at ho;cases ho
    exact R.fr p o hp (by rw[ir c];exact ho)
   new:=λi a ha=>by
    rcases R.new i a ha with m|m
    .exact .inl m
    .by_cases c:a∈fp
     .exact .inr (A.new a c)
     .rw[ir c]at m;exact .inr m
   pin:=R.pin
   old:=λa ha=>by
    have c:a∉fp:=λz=>ha (A.new a z)
    have h':=R.old a (by rw[ir c];exact ha)
    rw[AN c]at h';exact h' }
 .have h':=R.old a (by rw[mZ ha];exact A.aX a ha);obtain⟨u,hu,nt⟩:=A.Bw a ha;exact h'.off (FL ha) R.sub (by rw[keep a ha];exact hu) nt
 rcases R.new i a z with m|m;{exact nM a ha m};rw[mZ ha]at m;exact A.aX a ha m
def eS.snoc{b:Addr}(e:H b=some (.lst ys))(r:av K Hm ys es)(i:eS K H Hm xs ds fp):b∉fp->eS K H Hm (xs++[.ref b]) (ds++[.list es]) (fp++[b]):=by
 induction i with
 |nil=>exact λn=>.own e r n .nil
 |lE h1 h2 t ih=>exact λn=>.lE h1 h2 (ih n)
 |own h1 h2 h3 t ih=>intro n;refine .own h1 h2 (λz=>?_) (ih λz=>n (VA _ z));rcases VS.mp z with z|z;{exact h3 z};exact n (V7.mp z▸V3)
theorem eS.get:∀{xs:List V}{ds:A00}{fp:A03}{m:Nat},eS K H Hm xs ds fp->ds[m]?=some (.list es)->∃b ys,xs[m]?=some (.ref b)/\H b=some (.lst ys)/\av K Hm ys es/\b∈fp
 |_,_,_,_,.nil,h=>by simp at h
 |_,_,_,0,.lE e _ _,h=>by simp at h;rw[h]at e;cases e
 |_,_,_,m+1,.lE _ _ t,h=>t.get (m:=m) (by simpa using h)
 |_,_,_,0,.own e r _ _,h=>by simp at h;subst h;exact⟨_,_,rfl,e,r,V3⟩
 |_,_,_,m+1,.own _ _ _ t,h=>by obtain⟨b,ys,h1,h2,h3,h4⟩:=t.get (m:=m) (by simpa using h);exact⟨b,ys,h1,h2,h3,VA _ h4⟩
theorem eS.put{b:Addr}(r:av K Hm ys new):∀{xs:List V}{ds:A00}{fp:A03}{m:Nat},eS K H Hm xs ds fp->xs[m]?=some (.ref b)->(∃es,ds[m]?=some (.list es))->eS K (upd H b (.lst ys)) Hm xs (ds.set m (.list new)) fp
 |_,_,_,_,.nil,h,_=>by simp at h
 |_,_,_,0,.lE e _ _,_,⟨es,h⟩=>by simp at h;rw[h]at e;cases e
 |_,_,_,m+1,.lE e h2 t,h,⟨es,h'⟩=>.lE e h2 (t.put (m:=m) r (by simpa using h) ⟨es,by simpa using h'⟩)
 |_,_,_,0,.own (b:=b') e r' n t,h,_=>by simp at h;subst h;exact .own aq r n (t.step (ah.refl _) λa ha=>aj λz=>n (z▸ha))
 |_,_,_,m+1,.own (b:=b') (fp:=fp) e r' n t,h,⟨es,h'⟩=>by have h:_:=h;obtain⟨b2,ys2,g1,g2,g3,g4⟩:=t.get (m:=m) (es:=es) (by simpa using h');simp at h;rw[h]at g1;cases g1;refine .own (by rw[aj (show b'≠b from λz=>n (by rw[z];exact g4))];exact e) r' n (t.put (m:=m) r h ⟨es,by simpa using h'⟩)
def Rl.IP(R:Rl K g E U H Hm F){i:Nat}{b:Addr}(e:E[i]?=some (some (k,d)))(hv:U[i]?=some (some v))(hb:b∈F i)(new:Own K (upd H b o) Hm k v d' (F i))(nt:pM o)(hp:k=.ow true->∃ds,d'=.list ds) : Rl K g (E.set i (some (k,d'))) U (upd H b o) Hm F:=by
 have na:=R.off i b hb;have up:∀c,c≠b->upd H b o c=H c:=λc hc=>aj hc;have li:=aR e;exact {
  len:=by rw[VT];exact R.len
  sub:=λc u hc=>by
   have:c≠b:=λz=>by rw[z,na]at hc;cases hc
   rw[up c this];exact R.sub c u hc
  slot:=λj k' d'' e'=>by
   by_cases c:j=i
   .subst c;rw[aC li]at e';cases e';exact⟨_,hv,new⟩
   .rw[ai (Ne.symm c)]at e';obtain⟨u,g1,g2⟩:=R.slot j k' d'' e';refine⟨u,g1,g2.step (ah.refl _) λa ha=>up a λz=>c (R.aD j i b (z▸ha) hb)⟩
  off:=R.off
  aX:=λj a ha=>by
   by_cases c:a=b
   .rw[c];exact⟨_,aq,nt⟩
   .rw[up a c];exact R.aX j a ha
  aD:=R.aD
  fr:=λq u hq ho=>by
   have:q≠b:=λz=>by
    rcases R.new i b hb with y|y
    .exact hq (z▸y)
    .rw[z,y]at ho;cases ho
   rw[up q this];exact R.fr q u hq ho
  new:=R.new
  pin:=λq hq=>by
   obtain⟨g1,ds',g2⟩:=R.pin q hq
   by_cases c:i=q.1
   .rw[<-c]at g1 g2⊢;rw[e]at g2;cases g2;obtain⟨ds,rfl⟩:=hp rfl;exact⟨g1,ds,aC li⟩
   .exact⟨g1,ds',by rw[ai c];exact g2⟩
  old:=R.old }
def Li(h:cX t d E=some E'):E'.length=E.length:=by
 have go:∀{is:A07}{ds:A00}{E E':En},bL is ds E=some E'->E'.length=E.length:=by
  intro is;induction is with
  |nil=>intro ds E E' h;cases ds with|nil=>cases h;rfl|cons _ _=>cases h
  |cons j is ih=>
   intro ds E E' h;cases ds with
   |nil=>cases h
   |cons d ds=>rw[bL]at h;by_cases o:bI E j=true;{rw[if_pos o]at h;rw[ih h,VT]};rw[if_neg o]at h;cases h
 cases t with
 |nm j=>exact go (is:=[j]) h
 |tp js=>
  cases d with
  |tuple ds=>exact go (is:=js) h
  |_=>cases h
 |nt j js=>obtain⟨a,ds,rfl,h⟩:=vH h;exact go (is:=j::js) h
end
section
variable{X:Cx}{Ex:XK}{Y cs:A07}{elt tg iter:Expr}{ifs:A05}{scope:Scope}{pos:Pos}
def Jo{vs:A09}{t:Tg}(B:cQ X scope vs NB ix)(hc:X.calm=true)(hcs:cs.length=vs.length)(hix:∀i∈ix,i<Y.length)(aD:∀c∈cs,c∉Y)(nd:(cE Y cs ix).Nodup)(hi:SI X Ex Y tg iter di)(ht:∀(C:Addr)(s:Shared)(H:Hp)(fp:A03),gI (X.block scope C NB s H fp) (cE Y cs ix) tg t)(hts:∀i∈t.slots,i∈cs)(hif:∀(C:Addr)(s:Shared)(H:Hp)(fp:A03),kR (X.block scope C NB s H fp) E0 (cE Y cs ix) ifs c)(hr:∀(C:Addr)(s:Shared)(H:Hp)(fp:A03),SE (X.block scope C NB s H fp) E0 (cE Y cs ix) elt e)(hs:∀v,foldedSetIterable iter X.env v=pure v){w:(V->Hp->Prop)->St->Hp->Prop}(hw:∀{wi:TI}{G:TG}{tt:TT}{tr:TL}{U:St}{H:Hp}{Q:VK},PI X tg iter wi->(∀(C:Addr)(s:Shared)(H:Hp)(fp:A03),PG (X.block scope C NB s H fp) tg G)->(∀(C:Addr)(s:Shared)(H:Hp)(fp:A03),wX (X.block scope C NB s H fp) ifs tt)-> (∀(C:Addr)(s:Shared)(H:Hp)(fp:A03)(D:Addr),PL (X.block scope C NB s H fp) D elt (⟨tg,iter,ifs,0⟩::[]) scope pos 1 tr)->uM wi vs.length ix G tt tr U H Q->w Q U H)(g:Gh)(x:XC)(E:En)(U:St)(H Hm:Hp)(F:Nat->A03)(P:En->Kd->PyData->Prop)(Q:VK)(hx:XL X Ex x g)(R:Rl X.K g E U H Hm F)(p:qv sizeLine cs di t c e x E P)(q:∀E' k v u H' Hm' F' fp,P E' k v->Rl X.K g E' U H' Hm' F'->ah Hm Hm'->Tm X.K g F' H' Hm' k u v fp->Q u H'):w Q (sel Y U) H:=by
 obtain⟨wi,hpi,hwi⟩:=hi;refine hw (wi:=wi) (G:=λv U H Q=>∀(C:Addr)(s:Shared)(H2:Hp)(fp:A03),WG (X.block scope C NB s H2 fp) tg v U H Q) (tt:=λU H Q=>∀(C:Addr)(s:Shared)(H2:Hp)(fp:A03),zP (X.block scope C NB s H2 fp) ifs U H Q)
  (tr:=Ku λU H Q=>∀(C:Addr)(s:Shared)(H2:Hp)(fp:A03),WE (X.block scope C NB s H2 fp) elt U H Q) hpi (λC s H2 fp pins s' U H v u Q I r h=>h C s H2 fp pins s' u I r) (λC s H2 fp pins s' U H Q I h=>h C s H2 fp pins s' I)
  (λC s H2 fp D=>Bl (λpins s' U H Q I h=>h C s H2 fp pins s' I)) ?_
 refine hwi g x E U H Hm F _ _ hx R p λE1 xs J H1 Hm1 F1 p1 R1 s1 it1=>?_;obtain⟨E0',I,hcl,i0,step,fin⟩:=p1;obtain⟨σ0,F0,R0,a0,n0⟩:=R1.bM hcl;rw[<-hcs,Be hix aD a0 λc hc=>(n0 c hc).1];refine⟨λi m ys τ H'=>m=xs.length-i/\i<=xs.length/\∃E' dys' σ' Hm' F' fp,I i dys' E'/\Rl X.K g E' σ' H' Hm' F'/\ah Hm1 Hm'/\eS X.K H' Hm' ys dys' fp/\pT g F' H' Hm' fp/\Agree cs σ0 σ'/\τ=sel (cE Y cs ix) σ',
  ⟨xs.length,by simp,W7 _,E0',[],σ0,Hm1,F0,[],i0,R0,ah.refl _,.nil,⟨(λ_ z=>by cases z),(λ_ z=>by cases z),(λ_ z=>by cases z),λ_ z=>by cases z⟩,Agree.refl _ _,rfl⟩,?_⟩
 rintro i m ys τ H2⟨rfl,hi,E2,dys2,σ2,Hm2,F2,fp,i2,R2,s2,r2,A2,a2,rfl⟩;obtain⟨go,stop⟩:=it1 i H2 Hm2 s2 R2.sub;by_cases c':i<xs.length
 .obtain⟨go,rR⟩:=go xs[i] (VP c');refine .inr ⟨go,λys τ H'=>i+1<=xs.length/\∃E' dys' σ' Hm' F' fp,I (i+1) dys' E'/\Rl X.K g E' σ' H' Hm' F'/\ah Hm1 Hm'/\eS X.K H' Hm' ys dys' fp/\pT g F' H' Hm' fp/\Agree cs σ0 σ'/\τ=sel (cE Y cs ix) σ',λys τ H' z=>⟨xs.length-(i+1),by lia,rfl,z⟩,λx H3 y C s H9 fp9=>?_⟩;obtain⟨Hm3,t1,t2,t3,old,rx⟩:=rR x H3 y;have R3:=R2.turn t1 t2 t3 old;have k3:∀a∈fp,H3 a=H2 a:=λa ha=>by
   cases e:H2 a with
   |none=>exact absurd e (A2.aX a ha)
   |some o=>exact t3 _ _ e
  have A3:pT g F2 H3 Hm3 fp:=⟨λa ha=>by rw[k3 a ha];exact A2.Bw a ha,λa ha=>by
   obtain⟨u,hu,nt⟩:=A2.Bw a ha;exact(old a (A2.aX a ha)).off (A2.off a ha) t2 (t3 _ _ hu) nt,A2.aD,A2.new⟩
  have r3:=r2.step (H':=H3) t1 k3;have nM:=A3.notM R3;obtain⟨E4,e4,p4⟩:=step i xs[i] dys2 E2 (VP c') i2;obtain⟨G,g1,g2⟩:=xW (X:=X.block scope C NB s H9 fp9) hc B.nd nd (ht C s H9 fp9);refine WG.of g1 (g2 (g:=g.iu H3 fp) e4 rx (R3.iu A3) λσ4 F4 R4 ag=>?_);have a4:Agree cs σ0 σ4:=a2.trans ⟨by rw[<-R3.len,<-R4.len,Li e4],λj hj=>ag j λz=>hj (hts j z)⟩;intro C2 s2' H92 fp92;refine(hif C2 s2' H92 fp92).ok XL.no R4 p4 λE5 b H5 Hm5 F5 p5 R5 s5=>?_;cases b with
  |true=>
   refine oN λC3 s3' H93 fp93=>?_;refine hr C3 s3' H93 fp93 (g.iu H3 fp) xF E5 σ4 H5 Hm5 F5 _ _ XL.no R5 (by rw[if_pos rfl]at p5;exact p5) λE6 k6 v6 u6 H6 Hm6 F6 fp6 p6 R6 s6 T6=>?_;obtain⟨⟨pb,rfl⟩,hl,p6⟩:=p6;obtain⟨R6',A6,k6⟩:=Rl.Ad A3 nM R6;have T1:=T6.own;have hlen:ys.length=dys2.length:=by
    have:∀{xs:List V}{ds:A00}{fp:A03}{H Hm:Hp},eS X.K H Hm xs ds fp->xs.length=ds.length:=by
     intro xs ds fp H Hm h;induction h with
     |nil=>rfl
     |lE _ _ _ ih=>rw[VI,VI,ih]
     |own _ _ _ _ ih=>rw[VI,VI,ih]
    exact this r2
   cases T1 with
   |@ow _ b zs es hb rz=>
    have nb:b∉fp:=λz=>by have:=T6.new b V3;rw[mZ z]at this;exact A3.aX b z this
    have r6:=(r3.step (H':=H6) (s5.trans s6) k6).snoc hb rz nb;refine⟨by rw[hlen];exact hl,c',E6,_,σ4,Hm6,F6,fp++[b],p6,R6',s2.trans (t1.trans (s5.trans s6)),r6,⟨λa ha=>?_,λa ha=>?_,λa ha=>?_,λa ha=>?_⟩,a4,rfl⟩;{rcases VS.mp ha with ha|ha;{exact A6.Bw a ha};rw[V7.mp ha];exact⟨_,hb,iM⟩};{rcases VS.mp ha with ha|ha;{exact A6.off a ha};rw[V7.mp ha];exact T6.off b V3};{rcases VS.mp ha with ha|ha;{exact A6.aD a ha};rw[V7.mp ha];exact T6.aD b V3};rcases VS.mp ha with ha|ha;{exact A6.new a ha};rw[V7.mp ha];have:=T6.new b V3;rw[ir nb]at this;exact this
  |false=>obtain⟨R5',A5,k5⟩:=Rl.Ad A3 nM R5;exact oq ⟨c',E5,dys2,σ4,Hm5,F5,fp,by simpa using p5,R5',s2.trans (t1.trans s5),r3.step (H':=H5) s5 k5,A5,a4,rfl⟩
 have e:i=xs.length:=by lia
 subst e;refine .inl ⟨stop (V5 _),λp hp=>?_⟩;obtain⟨E3,hcl2,p2⟩:=fin _ _ i2;obtain⟨σ3,F3,R3p,a3,n3⟩:=(R2.iu A2).bM hcl2;obtain⟨R3,A3,_⟩:=Rl.Ad A2 (A2.notM R2) R3p;have R3':=R3.agree (cs:=cs) ((a0.trans a2).trans a3).symm λc hc=>(n3 c hc).2;have s3:=aQ (o:=.lst ys) hp;have R4:=R3'.grow (H':=upd H2 p (.lst ys)) s3 (ah.refl _) (R3'.sub.trans s3) (λi a ha=>R3'.off i a ha) λ_ _=>.inl rfl;have np:p∉fp:=λz=>A2.aX p z hp;refine q _ _ _ _ _ Hm2 F3 (p::fp) p2 R4 (s1.trans s2) ⟨.dp aq np (r2.step (H':=upd H2 p (.lst ys)) (ah.refl _) λa ha=>aj λz=>np (z▸ha)),λa ha=>?_,λa ha i=>?_,λa ha=>?_⟩;{rcases VB.mp ha with rfl|ha;{exact R3'.g9 hp};exact A2.off a ha};{rcases VB.mp ha with rfl|ha;{exact R3'.fresh hp};exact A3.aD a ha i};rcases VB.mp ha with rfl|ha;{exact R3'.d7 hp};exact A2.new a ha
def TX{j:Nat}(hN:X.N.Nodup)(B:nQ X.N X.env.scope scope vs NB ix=true)(hi:SI X Ex (aK X) tg iter di)(ht:∀(C:Addr)(s:Shared)(H:Hp)(fp:A03),gI (X.block scope C NB s H fp) (cE (aK X) cs ix) tg t)(hif:∀(C:Addr)(s:Shared)(H:Hp)(fp:A03),kR (X.block scope C NB s H fp) E0 (cE (aK X) cs ix) ifs c)(hr:∀(C:Addr)(s:Shared)(H:Hp)(fp:A03),SE (X.block scope C NB s H fp) E0 (cE (aK X) cs ix) elt e)(hj:X.N[j]?=some y:=by rfl)(hy:X.env.scope.names.lookup y=some .local:=by rfl)(hsw:swapsWith (.ListComp elt [⟨tg,iter,ifs,0⟩] scope pos) (some (.Name y py)) spos.line X.env=pure true:=by rfl)(hc:X.calm=true:=by rfl)(ck:Ac (aK X) cs ix vs t.slots=true:=by rfl)(hs:∀v,foldedSetIterable iter X.env v=pure v:=by intro _;rfl):S1 X Ex (.Assign [.Name y py] (.ListComp elt [⟨tg,iter,ifs,0⟩] scope pos) spos) (aF j (qv sizeLine cs di t c e)):=by
 obtain⟨h1,h2,h3,h4,h5⟩:=yr ck;have B':cQ X scope vs NB ix:=cQ.of B;have ha:∀g∈([]:Zq),g.is_async=0:=λ_ z=>by cases z
 rw[vS];intro g D' E U H Hm F D hx R p nx rt;refine Jo B' hc h1 h2 h3 h4 hi ht h5 hif hr hs (w:=λQ τ H=>(Q=λu H1=>D.nx (τ.set j (some u)) H1)->WS X (.Assign [.Name y py] (.ListComp elt [⟨tg,iter,ifs,0⟩] scope pos) spos) D τ H)
  (λg1 g2 g3 g4 g5 e=>by
   subst e;exact WS.of (yG hN hj hy B' hc g1 g2 g3 g4 hsw ha hs) g5) g D'.xc E U H Hm F _ _ hx R p (λE' k v u H' Hm' F' fp p' R' s' T=>?_) rfl
 rw[iJ Wv (gz (aR hj)) (R'.len▸fR p'.1)];exact nx _ _ _ _ _ p'.2 (R'.put T p'.1) s'
def Js{i n:Nat}(h:dI E n=some E')(ne:i≠n):E'[i]?=E[i]?:=by unfold dI at h;split at h;{split at h;{cases h;exact ai (Ne.symm ne)};cases h};cases h
def PK{x y name:Str}{id:String}{p yp sp apos cpos:Pos}{jx:Expr}{f:DM}{r:V->List V->Hp->VK->Prop}{dj:DE}{i j n jn:Nat}(hm:vj X id r)(D:xg X.K f r)(slot:Slot "list" name id)(hty:typeOf (.builtin id)=pure (.type "method_descriptor"))(hv:PE X (.Name x p) (lQ j))(hj:Y[j]?=some i)(hy:PE X (.Name y yp) (lQ jn))(hjn:Y[jn]?=some n)(hs:nv jx)(hd:SE X Ex Y jx dj)(hline:(apos.endLine==cpos.line)=true) : SE X Ex Y (.Call (.Attribute (.Subscript (.Name x p) jx sp) name apos) [.Name y yp] [] cpos) (yI f i dj n):=by
 intro g xc E U H Hm F P Q hx R h q;obtain⟨hh,h⟩:=h;obtain⟨o,ho⟩:=l6 R hh;refine WE.of (xU YO slot hty hm (aV (e:=.Subscript (.Name x p) jx sp)) (dJ (es:=[.Name y yp]) rfl) rfl (Eo rfl (show 1<30 by decide)) hline rfl rfl) ?_;refine WE.of (oR EB hv aV hs) ⟨o,bR hj ho,?_⟩;refine hd g xc E U H Hm F _ _ hx R h λE1 k1 w u1 H1 Hm1 F1 fp1 p1 R1 s1 T1=>?_;obtain⟨a,pp,ds,m,es,k,d,E2,rfl,e1,hix,hes,en,ne,hf,p1⟩:=p1;cases T1.own.int;obtain⟨v',h1,h2⟩:=R1.slot i _ _ e1;rw[ho]at h1;cases h1;obtain⟨vn,Hm2,F2,hvn,s2,R2,rn⟩:=R1.dI en hf;have e2:E2[i]?=some (some (.dp pp,.list ds)):=(Js hf ne).trans e1;obtain⟨v2,h3,h4⟩:=R2.slot i _ _ e2;rw[ho]at h3;cases h3;generalize hfi:F2 i=fi at h4;cases h4 with
 |@dp _ a0 xs _ fq ha0 n0 it0=>
  obtain⟨b,ys,hxm,hb,ry,mb⟩:=it0.get hes;have hlen:xs.length=ds.length:=by
   have:∀{xs:List V}{ds:A00}{fp:A03}{H Hm:Hp},eS X.K H Hm xs ds fp->xs.length=ds.length:=by
    intro xs ds fp H Hm h;induction h with
    |nil=>rfl
    |lE _ _ _ ih=>rw[VI,VI,ih]
    |own _ _ _ _ ih=>rw[VI,VI,ih]
   exact this it0
  refine .inl ⟨_,xs,a,.ref b,rfl,rfl,bF.of ha0,?_,.inl ⟨rfl,_,bF.of hb⟩,?_⟩;{show(l0 xs.length a).bind (λj=>xs[j]?)=some (.ref b);rw[hlen,show l0 ds.length a=some m from hix];exact hxm};refine WE.of hy ⟨vn,bR hjn hvn,?_⟩;show r (.ref b) [vn] H1 Q;have mbF:b∈F2 i:=by rw[hfi];exact VA _ mb
  refine D H1 Hm2 b ys es [vn] [d] _ Q hb (R2.off i b mbF) R2.sub ry (.cons rn .nil) p1 λys' new u v p2 ry' ru=>?_;have nab:a0≠b:=λz=>n0 (z▸mb);have R3:=R2.IP (o:=.lst ys') (d':=.list (ds.set m (.list new))) e2 ho mbF (by
   rw[hfi];exact .dp (by rw[aj nab];exact ha0) n0 (it0.put ry' hxm ⟨es,hes⟩)) iM λz=>by cases z
  exact q _ _ _ _ _ _ _ [] p2 R3 (s1.trans s2) (Tm.sh ru)
def Td(j jn:Nat){i n:Nat}{x y name:Str}{id:String}{p yp sp apos cpos:Pos}{jx:Expr}{f:DM}{r:V->List V->Hp->VK->Prop}{dj:DE}(hm:vj X id r)(D:xg X.K f r)(slot:Slot "list" name id)(hty:typeOf (.builtin id)=pure (.type "method_descriptor"))(hd:SE X Ex Y jx dj)(hN:X.N[j]?=some x:=by rfl)(hv:gU X.env.scope x:=by nofun)(hj:Y[j]?=some i:=by rfl)(hNn:X.N[jn]?=some y:=by rfl)(hvn:gU X.env.scope y:=by nofun)(hjn:Y[jn]?=some n:=by rfl)(hs:nv jx:=by intro _ _;rfl)(hline:(apos.endLine==cpos.line)=true:=by rfl)(hb:(x==("__debug__":Str))=false:=by decide)(hcd:(x==("__classdict__":Str))=false:=by decide)(hbn:(y==("__debug__":Str))=false:=by decide)(hcn:(y==("__classdict__":Str))=false:=by decide) : SE X Ex Y (.Call (.Attribute (.Subscript (.Name x p) jx sp) name apos) [.Name y yp] [] cpos) (yI f i dj n):=PK hm D slot hty (cH hN hv hb hcd) hj (cH hNn hvn hbn hcn) hjn hs hd hline
end
section
variable{P:Program}{w:World}{K:Frag}{mg:Zr}{base:Heap}{N:A09}{qual:Str}{scope:Scope}{f:Addr}{cd:Value}{A:Around}{outer:List Env}{s0:Shared}{H0:Hp}{Ex:XK}
def Lu{j}(h:∃C,mg x=some (.ref C)/\i8 K C pB "ValueError.__new__" none=true)(hg:Gl (fF (dS P w) P w K mg base N qual scope f cd A outer s0 H0 Ex) x:=by rfl)(hdb:(x==("__debug__":Str))=false:=by decide) : S1 (fF (dS P w) P w K mg base N qual scope f cd A outer s0 H0 Ex) Ex (.Raise (some (.Call (.Name x np) [.Constant (.str y) j p] [] cpos)) none pos) (qd x):=by obtain⟨C,h⟩:=h;intro g D' E U H Hm F D hx R hp nx rt;refine WS.of (x9 h.2 hg h.1 (bg GW dh) hdb) ⟨by show 1<=sizeLine;decide,λa ha=>?_⟩;exact hx x .none C a _ h.1 hp (λp o hp ho=>aQ ha _ _ (R.fr p o hp ho)) aq (R.d7 ha)
end
end Dv
namespace Dv
open PySem L2
noncomputable def JP (most:Nat)(E:En) (i:Nat)(v:PyData)(Q:En->Prop):Prop:=match E[i]?,v with
 |some (some (.ow p,.list ds)),.list es=>ds.length+es.length<=most/\Q (E.set i (some (.ow p,.list (ds++es))))
 |_,_=>False
universe u
def aI {a b:Prop}(x:a)(y:b):a/\b:=⟨x,y⟩
theorem rr0:dC v x E Q=Q E .sh v:=rfl
theorem rr1:br i x (o::E) Q=Eh (o::E) i Q:=rfl
theorem rr2:aa r as x (o::E) Q=gH as x (o::E) λE1 os=>zQ r as E1 os Q:=rfl
theorem rr3:aN sp ms as x (o::E) Q=gH as x (o::E) λE1 os=>FW sp ms as x E1 os Q:=rfl
theorem rr4:bD d x (o::E) Q=d x (o::E) λE' _ v=>t7 v (Q E'):=rfl
theorem rr5:JT i x (o::E) Q=Ht (o::E) i Q:=rfl
theorem rr6:EL t x (o::E) Q=t x (o::E) λE' b=>Q E' (!b):=rfl
theorem rr7:jl a b x (o::E) Q=a x (o::E) λE1 _ v=>AB v λc=>dg c (b x E1 Q) (Q E1 .sh (.bool false)):=rfl
theorem rr8:mw a b x (o::E) Q=a x (o::E) λE1 _ v=>AB v λc=>dg c (Q E1 .sh (.bool true)) (b x E1 Q):=rfl
theorem rr9:lz a x (o::E) Q=a x (o::E) λE1 _ v=>t7 v λc=>Q E1 .sh (.bool !c):=rfl
theorem rr10:qc f f' a b c x (o::E) Q=a x (o::E) λE1 _ u=>rP u λi=>b x E1 λE2 _ v=>rP v λj=>dg (f i j) (c x E2 λE3 _ w=>rP w λk=>Q E3 .sh (.bool (f' j k))) (Q E2 .sh (.bool false)):=rfl
theorem rr11:xu c a b x (o::E) Q=c x (o::E) λE1 t=>dg t (a x E1 Q) (b x E1 Q):=rfl
theorem rr12:cU D E=D.nx E:=rfl
theorem rr13:ao a b D (o::E)=a { D with nx:=b D } (o::E):=rfl
theorem rr14:b8 c a b D (o::E)=c D.xc (o::E) λE1 t=>dg t (a D E1) (b D E1):=rfl
theorem rr15:aF i e D (o::E)=e D.xc (o::E) λE' k v=>bK (jd E' i) (D.nx (E'.set i (some (k,v)))):=rfl
theorem rr16:tL is e D (o::E)=e D.xc (o::E) λE' k v=>bK k.fz (JS is v E' D.nx):=rfl
theorem rr17:bU e D (o::E)=e D.xc (o::E) D.rt:=rfl
theorem rr18:fW i D (o::E)=G3 (o::E) i D.rt:=rfl
theorem rr19:iR f i es x (o::E) Q=bK (jA (o::E) i) (gH (es.map .ev) x (o::E) λE1 os=>Gb f i (es.map .ev) E1 os Q):=rfl
theorem rr20:gS i j e D (o::E)=e D.xc (o::E) λE1 k v=>bK k.fz (bK (here E1 i) (j D.xc E1 λE2 k2 w=>bK k2.fz (gS.setI E2 i w v D.nx))):=rfl
theorem rr21:id 7=7:=rfl
theorem rr22:qd c D E=D.xc c .none:=rfl
theorem rr23:b6 e D (o::E)=e D.xc (o::E) λE' _ _=>D.nx E':=rfl
theorem rr24:fT x E Q=Q E true:=rfl
theorem rr25:iE e x (o::E) Q=e x (o::E) λE' k v=>bK k.fz (JN v λxs=>Q E' xs):=rfl
theorem rr26:iX g as x (o::E) Q=gH as x (o::E) λE1 os=>ay (cg as E1 os) λds=>ay (g ds) λxs=>Q E1 xs:=rfl
theorem rr27:uP e x (o::E) Q=e x (o::E) λE' k v=>bK k.fz (wH v λds=>Q E' (jG ds)):=rfl
theorem rr28:Gm a b x (o::E) Q=a x (o::E) λE1 k v=>bK k.fz (b x E1 λE2 k2 v2=>bK k2.fz (wH v λds=>wH v2 λes=>Q E2 ((ds.zip es).map λp=>.tuple [p.1,p.2]))):=rfl
theorem rr29:cC most e x ys (o::E) Q=e x (o::E) λE1 k v=>k.fz=true/\ys.length<most/\Q (ys++[v]) E1:=rfl
theorem rr30:gH [] x E Q=Q E []:=rfl
theorem rr31:gH (.pk i::r) x (o::E) Q=bK (here (o::E) i) (gH r x (o::E) λE' os=>Q E' (none::os)):=rfl
theorem rr32:gH (.ev d::r) x (o::E) Q=d x (o::E) λE1 k v=>bK k.fz (gH r x E1 λE' os=>Q E' (some v::os)):=rfl
theorem rr33:cg [] E []=some []:=rfl
theorem rr34:∀{i:Nat}{r:List Arg}{o:Option (Kd×PyData)}{E:En}{os:List (Option PyData)},cg (.pk i::r) (o::E) (none::os)=match(o::E)[i]? with
  |some (some (k,d))=>dg k.rd ((cg r (o::E) os).map (d::·)) none
  |_=>none:=rfl
theorem rr35:∀{d:DE}{v:PyData}{r:List Arg}{E:En}{os:List (Option PyData)},cg (.ev d::r) E (some v::os)=(cg r E os).map (v::·):=rfl
theorem rr36:ay (some a) Q=Q a:=rfl
theorem rr37:ay none Q=False:=rfl
theorem rr38:here (o::E) i=match(o::E)[i]? with
  |some (some _)=>true
  |_=>false:=rfl
theorem rr39:bu (some (k,d))=!k.pin:=rfl
theorem rr40:bu none=true:=rfl
theorem rr41:jA (o::E) i=match(o::E)[i]? with
  |some (some (.ow _,.list _))=>true
  |_=>false:=rfl
theorem rr42:gm (o::E) i=match(o::E)[i]? with
  |some (some (.sh,_))=>true
  |_=>false:=rfl
theorem rr43:sI (o::E) i=match(o::E)[i]? with
  |some (some (k,d))=>dg k.fz (some ((o::E).set i (some (.sh,d)))) none
  |_=>none:=rfl
theorem rr44:ic [] E=some E:=rfl
theorem rr45:ic (i::r) E=(sI E i).bind (ic r):=rfl
theorem rr46:Eh (o::E) i Q=match(o::E)[i]? with
  |some (some (_,d))=>ay (sI (o::E) i) λE'=>Q E' .sh d
  |_=>False:=rfl
theorem rr47:G3 (o::E) i Q=match(o::E)[i]? with
  |some (some (k,d))=>bK (!k.pin) (Q ((o::E).set i none) k d)
  |_=>False:=rfl
theorem rr48:Ht (o::E) i Q=match(o::E)[i]? with
  |some (some (k,d))=>bK k.rd (t7 d (Q (o::E)))
  |_=>False:=rfl
theorem rr49:∀{r:DR}{as:List Arg}{o:Option (Kd×PyData)}{E:En}{os:List (Option PyData)}{Q:En->Kd->PyData->Prop},zQ r as (o::E) os Q=ay (cg as (o::E) os) λds=>r ds λk v=>ay (tU as (o::E) k v) λE2=>Q E2 k v:=rfl
theorem rr50:∀{sp:bz}{ms:A04}{as:List Arg}{x:XC}{o:Option (Kd×PyData)}{E:En}{os:List (Option PyData)}{Q:En->Kd->PyData->Prop},FW sp ms as x (o::E) os Q=ay (cg as (o::E) os) λds=>bK (t8 ms as (o::E)) (sp ds (λus k v=>EH ms as (o::E) us k v Q) x):=rfl
theorem rr51:∀{f:DM}{i:Nat}{as:List Arg}{o:Option (Kd×PyData)}{E:En}{os:List (Option PyData)}{Q:En->Kd->PyData->Prop},Gb f i as (o::E) os Q=ay (cg as (o::E) os) λargs=>match(o::E)[i]? with
  |some (some (.ow p,.list ds))=>f ds args λnew v=>Q ((o::E).set i (some (.ow p,.list new))) .sh v
  |_=>False:=rfl
theorem rr52:Qa f (o::E) i v Q=match(o::E)[i]? with
  |some (some (_,.int a))=>rP v λb=>Q ((o::E).set i (some (.sh,.int (f a b))))
  |_=>False:=rfl
theorem rr53:t7 (.bool b) Q=Q b:=rfl
theorem rr54:AB (.bool b) Q=Q b:=rfl
theorem rr55:rP (.int i) Q=Q i:=rfl
theorem rr56:t7 (.list ds) Q=Q (!ds.isEmpty):=rfl
theorem rr57:JN (.list ds) Q=Q ds:=rfl
theorem rr58:JN (.tuple ds) Q=Q ds:=rfl
theorem rr59:wH (.list ds) Q=Q ds:=rfl
theorem rr60:tU as (o::E) k v=dg ((cL as).all (gm (o::E))||flat k v) (some (o::E)) (ic (cL as) (o::E)):=rfl
theorem rr61:cL []=[]:=rfl
theorem rr62:cL (.pk i::r)=i::cL r:=rfl
theorem rr63:cL (.ev d::r)=cL r:=rfl
theorem rr64:Kd.fz .sh=true:=rfl
theorem rr65:Kd.fz (.ow false)=true:=rfl
theorem rr66:Kd.fz (.dp false)=true:=rfl
theorem rr67:Kd.fz (.dk false)=true:=rfl
theorem rr68:Kd.fz (.dt false)=true:=rfl
theorem rr69:Kd.rd .sh=true:=rfl
theorem rr70:Kd.rd (.ow p)=true:=rfl
theorem rr71:Kd.rd (.dp p)=true:=rfl
theorem rr72:Kd.rd (.dk p)=true:=rfl
theorem rr73:Kd.rd (.dt p)=true:=rfl
theorem rr74:Kd.pin .sh=false:=rfl
theorem rr75:Kd.pin (.ow p)=p:=rfl
theorem rr76:Kd.pin (.dp p)=p:=rfl
theorem rr77:Kd.pin (.dk p)=p:=rfl
theorem rr78:Kd.pin (.dt p)=p:=rfl
theorem rr79:flat .sh v=lf v:=rfl
theorem rr80:lf (.int i)=true:=rfl
theorem rr81:lf (.bool b)=true:=rfl
theorem rr82:lf (.str s)=true:=rfl
theorem rr83:lf .none=true:=rfl
theorem rr84:(aY ms Q x).xc=x:=rfl
theorem rr85:(aY ms Q x).nx (o::E)=ay (fH ms (o::E)) λus=>Q us .sh .none:=rfl
theorem rr86:(aY ms Q x).rt (o::E) k v=ay (fH ms (o::E)) λus=>Q us k v:=rfl
theorem rr87:fH [] E=some []:=rfl
theorem rr88:fH (true::ms) (some (.ow true,.list es)::E)=(fH ms E).map (.list es::·):=rfl
theorem rr89:fH (false::ms) (o::E)=fH ms E:=rfl
theorem rr90:ini (true::ms) (d::ds)=some (.ow true,d)::ini ms ds:=rfl
theorem rr91:ini (false::ms) (d::ds)=some (.sh,d)::ini ms ds:=rfl
theorem rr92:ini [] []=[]:=rfl
theorem rr93:List.replicate (n+1) (none:Option (Kd×PyData))=none::List.replicate n none:=rfl
theorem rr94:List.replicate 0 (none:Option (Kd×PyData))=[]:=rfl
theorem rr95:∀{α β:Type}{f:α->β}{a:α},(some a).map f=some (f a):=rfl
theorem rr96:∀{α β:Type}{f:α->Option β}{a:α},(some a).bind f=f a:=rfl
theorem rr97:∀{α:Type}{p:α->Bool},[].all p=true:=rfl
theorem rr98:∀{α:Type}{p:α->Bool}{a:α}{l:List α},(a::l).all p=(p a&&l.all p):=rfl
theorem rr99:(true&&b)=b:=rfl
theorem rr100:(false&&b)=false:=rfl
theorem rr101:(true||b)=true:=rfl
theorem rr102:(false||b)=b:=rfl
theorem rr103:((!true)=false):=rfl
theorem rr104:((!false)=true):=rfl
theorem rr105:∀{α:Type}{l:List α},([]:List α)++l=l:=rfl
theorem rr106:∀{α:Type}{a:α}{l m:List α},(a::l)++m=a::(l++m):=rfl
theorem rr107:jd (o::E) i=match(o::E)[i]? with
  |some o=>bu o
  |none=>false:=rfl
theorem rr108:bK true P=P:=rfl
theorem rr109:bK false P=False:=rfl
theorem rr110:∀{α:Sort u}{a b:α},dg true a b=a:=rfl
theorem rr111:∀{α:Sort u}{a b:α},dg false a b=b:=rfl
theorem rr112:JS is (.tuple ds) E Q=ay (stK is ds E) Q:=rfl
theorem rr113:stK [] [] E=some E:=rfl
theorem rr114:stK (i::is) (d::ds) (o::E)=dg (jd (o::E) i) (stK is ds ((o::E).set i (some (.sh,d)))) none:=rfl
theorem rr115:mF i []=false:=rfl
theorem rr116:mF i (j::l)=(i==j||mF i l):=rfl
theorem rr117:qk [] ks E=true:=rfl
theorem rr118:qk (i::r) ks E=((!mF i ks&&!mF i r&&jA E i)&&qk r ks E):=rfl
theorem rr119:∀{α:Type}{o:α}{E:List α},(o::E)[0]?=some o:=rfl
theorem rr120:∀{α:Type}{o:α}{E:List α}{n:Nat},(o::E)[n+1]?=E[n]?:=rfl
theorem rr121:∀{α:Type}{o a:α}{E:List α},(o::E).set 0 a=a::E:=rfl
theorem rr122:∀{α:Type}{o a:α}{E:List α}{n:Nat},(o::E).set (n+1) a=o::E.set n a:=rfl
def dv:=aI @rr0<|aI @rr1<|aI @rr2<|aI @rr3<|aI @rr4<|aI @rr5<|aI @rr6<|aI @rr7<|aI @rr8<|aI @rr9<|aI @rr10<|aI @rr11<|aI @rr12<|aI @rr13<|aI @rr14<|aI @rr15<|aI @rr16<|aI @rr17<|aI @rr18<|aI @rr19<|aI @rr20<|aI @rr21<|aI @rr22<|aI @rr23<|aI @rr24<|aI @rr25<|aI @rr26<|aI @rr27<|aI @rr28<|aI @rr29<|aI @rr30<|aI @rr31<|aI @rr32<|aI @rr33<|aI @rr34<|aI @rr35<|aI @rr36<|aI @rr37<|aI @rr38<|aI @rr39<|aI @rr40<|aI @rr41<|aI @rr42<|aI @rr43<|aI @rr44<|aI @rr45<|aI @rr46<|aI @rr47<|aI @rr48<|aI @rr49<|aI @rr50<|aI @rr51<|aI @rr52<|aI @rr53<|aI @rr54<|aI @rr55<|aI @rr56<|aI @rr57<|aI @rr58<|aI @rr59<|aI @rr60<|aI @rr61<|aI @rr62<|aI @rr63<|aI @rr64<|aI @rr65<|aI @rr66<|aI @rr67<|aI @rr68<|aI @rr69<|aI @rr70<|aI @rr71<|aI @rr72<|aI @rr73<|aI @rr74<|aI @rr75<|aI @rr76<|aI @rr77<|aI @rr78<|aI @rr79<|aI @rr80<|aI @rr81<|aI @rr82<|aI @rr83<|aI @rr84<|aI @rr85<|aI @rr86<|aI @rr87<|aI @rr88<|aI @rr89<|aI @rr90<|aI @rr91<|aI @rr92<|aI @rr93<|aI @rr94<|aI @rr95<|aI @rr96<|aI @rr97<|aI @rr98<|aI @rr99<|aI @rr100<|aI @rr101<|aI @rr102<|aI @rr103<|aI @rr104<|aI @rr105<|aI @rr106<|aI @rr107<|aI @rr108<|aI @rr109<|aI @rr112<|aI @rr113<|aI @rr114<|aI @rr115<|aI @rr116<|aI @rr117<|aI @rr118<|aI @rr119<|aI @rr120<|aI @rr121<|@rr122
def dw:
 (∀{o:Option (Kd×PyData)}{E:En}{i:Nat},bI (o::E) i=match(o::E)[i]? with
  |some o=>bu o
  |none=>false) /\
 (∀{P:Prop},(True/\P)=P) /\
 (∀{P:Prop},(P/\True)=P) /\
 (∀{α:Type}{a:α},(a=a)=True) /\
 (∀{b:Bool},(b||true)=true) /\
 (∀{α:Type}{a b:α},(if True then a else b)=a) /\
 (∀{α:Type}{a b:α},(if False then a else b)=b) /\
 (∀{p:Prop} [Decidable p],(decide p=true)=p) /\
 ((true=false)=False) /\
 ((false=true)=False) /\
 (∀{b:Bool},((!b)=true)=(b=false)) /\
 (∀{p:Prop} [Decidable p],(decide p=false)=¬p) /\
 (type_of%@cS) /\
 (∀{α:Type}{p:Prop} [Decidable p]{a b:α},dg (decide p) a b=if p then a else b) /\
 (∀{p:Prop} [Decidable p]{a b:Prop},dg (decide p) a b=if p then a else b) /\
 (∀{b:Bool}{p q:Prop},dg b p q=if b=true then p else q) /\
 (∀{α:Type}{b:Bool}{p q:α},dg b p q=if b=true then p else q):=
 ⟨(by intro o E i;unfold bI bu;generalize (o::E)[i]?=z;rcases z with _|_|⟨k,d⟩<;>rfl),(by intros;simp),(by intros;simp),(by intros;simp),(by intros;simp),(by intros;simp),(by intros;simp),(by intros;simp),(by intros;simp),(by intros;simp),(by intros;simp),(by intros;simp),@cS,(by intros;rw[bW];simp only[Wu]),(by intros;rw[bW];simp only[Wu]),(by intros;exact bW),(by intros;exact bW)⟩
def Vp{x:PyData}{l:A00}:dP (x::l) 0=some x:=by unfold dP l0;simp
def UQ{x y:PyData}{l:A00}:dP (x::y::l) 1=some y:=by unfold dP l0;simp;rw[if_pos (by lia)];rfl
def Vo{n:Nat}:lM (n+1) 0=some 0:=by unfold lM;simp
def SX{n:Nat}:lM (n+2) 1=some 1:=by unfold lM;simp;lia
theorem rr123:cF [.int a,.int b] P=P .sh (.int (a+b)):=rfl
theorem rr124:cF [.list a,.list b] P=(a.length+b.length<=sizeLine/\P (.ow false) (.list (a++b))):=rfl
theorem rr125:cF [.tuple a,.tuple b] P=((a≠[]/\a.length+b.length<=sizeLine)/\P .sh (.tuple (a++b))):=rfl
theorem rr126:n9 [.int a,.int b] P=P .sh (.int (a-b)):=rfl
theorem rr127:eX [.int a,.int b] P=(vI a b/\P .sh (.int (a*b))):=rfl
theorem rr128:eX [.list a,.int k] P=((-(2^63)<=k/\k<2^63/\a.length*k.toNat<=sizeLine)/\P (.ow false) (.list (List.replicate k.toNat a).flatten)):=rfl
theorem rr129:qp [.int a,.int b] P=(0<b/\P .sh (.int (a%b))):=rfl
theorem rr130:CO [.int a,.int b] P=(Cn a b/\P .sh (.int (a/b))):=rfl
theorem rr131:vF [.int a,.int b] P=(yU a b/\P .sh (.int (a^b.toNat))):=rfl
theorem rr132:kr [.int a,.int b] P=P .sh (.bool (decide (a<b))):=rfl
theorem rr133:id 7=7:=rfl
theorem rr134:uA [.int a,.int b] P=P .sh (.bool (decide (b<a))):=rfl
theorem rr135:Ng [.int a,.int b] P=P .sh (.bool (decide (b<=a))):=rfl
theorem rr136:fZ [.int a] P=P .sh (.int (-a)):=rfl
theorem rr137:iK [.int a,.int b] P=P .sh (.bool (decide (a=b))):=rfl
theorem rr138:iK [.str a,.str b] P=P .sh (.bool (decide (a=b))):=rfl
theorem rr139:jO [.int a,.int b] P=P .sh (.bool !(decide (a=b))):=rfl
theorem rr140:jO [.str a,.str b] P=P .sh (.bool !(decide (a=b))):=rfl
theorem rr141:iK [.list a,.list b] P=((dl 8 (.list a)=true/\dl 8 (.list b)=true)/\P .sh (.bool (decide (PyData.list a=.list b)))):=rfl
theorem rr142:jO [.list a,.list b] P=((dl 8 (.list a)=true/\dl 8 (.list b)=true)/\P .sh (.bool !(decide (PyData.list a=.list b)))):=rfl
theorem rr143:aB [.list xs,.int i] P=ay (atK xs i) (P .sh):=rfl
theorem rr144:aB [.tuple xs,.int i] P=ay (atK xs i) (P .sh):=rfl
theorem rr145:c9 [.list xs] P=P .sh (.int xs.length):=rfl
theorem rr146:c9 [.tuple xs] P=P .sh (.int xs.length):=rfl
theorem rr147:qS [.list xs] P=P (.ow false) (.list xs):=rfl
theorem rr148:qS [.tuple xs] P=P (.ow false) (.list xs):=rfl
theorem rr149:nk [.list xs] P=P .sh (.tuple xs):=rfl
theorem rr150:nk [.tuple xs] P=P .sh (.tuple xs):=rfl
theorem rr151:xX [.int a,.int b] P=P .sh (.int (if b<a then b else a)):=rfl
theorem rr152:id 7=7:=rfl
theorem rr153:id 7=7:=rfl
theorem rr154:kO [.int a] P=P .sh (.int a):=rfl
theorem rr155:kO [.bool b] P=P .sh (.int (if b=true then 1 else 0)):=rfl
theorem rr156:ly [.int j] P=((0<=j/\j<=1000)/\P (.ow false) (.list (kq 0 j.toNat))):=rfl
theorem rr157:bY ds P=(ds.length<=sizeLine/\P (.ow false) (.list ds)):=rfl
theorem rr158:fc ds P=(ds.length<=sizeLine/\P .sh (.tuple ds)):=rfl
theorem rr159:ku false false [.list xs] P=P (.ow false) (.list (cutD xs none none)):=rfl
theorem rr160:ku true false [.list xs,.int a] P=P (.ow false) (.list (cutD xs (some a) none)):=rfl
theorem rr161:ku false true [.list xs,.int b] P=P (.ow false) (.list (cutD xs none (some b))):=rfl
theorem rr162:ku true true [.list xs,.int a,.int b] P=P (.ow false) (.list (cutD xs (some a) (some b))):=rfl
theorem rr163:ku false true [.tuple xs,.int b] P=P .sh (.tuple (cutD xs none (some b))):=rfl
theorem rr164:jV [.int j]=@ite _ (-(2^62)<=j/\j<2^62) (Classical.propDecidable _) (some (kq 0 j.toNat)) none:=rfl
theorem rr165:FF [.int i,.int j]=@ite _ (-(2^62)<=i/\i<2^62/\-(2^62)<=j/\j<2^62) (Classical.propDecidable _) (some (kq i (j-i).toNat)) none:=rfl
theorem rr166:pP c [d] P=ay (uE d) λt=>P .sh (.bool (eN c t)):=rfl
theorem rr167:uE (.int i)=some "int":=rfl
theorem rr168:uE (.tuple i)=some "tuple":=rfl
theorem rr169:uE (.list i)=some "list":=rfl
theorem rr170:uE (.bool b)=some "bool":=rfl
theorem rr171:uE .none=some "NoneType":=rfl
theorem rr172:eN "int" "int"=true:=rfl
theorem rr173:eN "int" "tuple"=false:=rfl
theorem rr174:eN "tuple" "int"=false:=rfl
theorem rr175:eN "tuple" "tuple"=true:=rfl
theorem rr176:eN "bool" "int"=false:=rfl
theorem rr177:eN "list" "list"=true:=rfl
theorem rr178:eN "int" "NoneType"=false:=rfl
theorem rr179:eN "tuple" "NoneType"=false:=rfl
theorem rr180:cy ds [d] P=(ds.length<sizeLine/\P (ds++[d]) .none):=rfl
theorem rr181:nh ds [.list es] P=(ds.length+es.length<=sizeLine/\P (ds++es) .none):=rfl
theorem rr182:id 7=7:=rfl
theorem rr183:id 7=7:=rfl
theorem rr184:cX (.nm i) d E=bL [i] [d] E:=rfl
theorem rr185:cX (.tp is) (.tuple ds) E=bL is ds E:=rfl
theorem rr186:bL [] [] E=some E:=rfl
theorem rr187:bM [] E=some E:=rfl
theorem rr188:gS.setI (o::E) i w v Q=match(o::E)[i]?,w with
  |some (some (.ow p,.list ds)),.int a=>ay (yE ds.length a) λn=>Q ((o::E).set i (some (.ow p,.list (ds.set n v))))
  |some (some (.dk p,.dict kvs)),w=>(mj w=true/\kvs.length<16777216)/\Q ((o::E).set i (some (.dk p,.dict (putD kvs w v))))
  |some (some (.dt p,.dict (_::kvs))),.tuple ks=>(ks.all mj=true/\kvs.length<16777216)/\Q ((o::E).set i (some (.dt p,.dict ((.none,.none)::putD kvs (.tuple ks) v))))
  |_,_=>False:=rfl
theorem rr189:EH ms as (o::E) us k v Q=ay (kj ms as us (o::E)) λE2=>ay (vd ms as us E2 k v) λE3=>Q E3 k v:=rfl
theorem rr190:kj [] [] [] E=some E:=rfl
theorem rr191:kj (false::ms) (a::r) us E=kj ms r us E:=rfl
theorem rr192:kj (true::ms) (.pk i::r) (u::us) (o::E)=match(o::E)[i]? with
  |some (some (.ow p,.list _))=>dg (Bx u) (kj ms r us ((o::E).set i (some (.ow p,u)))) none
  |_=>none:=rfl
theorem rr193:Bx (.list l)=true:=rfl
theorem rr194:vd ms as us (o::E) k v=dg ((kept ms as).all (gm (o::E))||(flat k v&&us.all (flat (.ow false)))) (some (o::E)) (ic (kept ms as) (o::E)):=rfl
theorem rr195:kept [] []=[]:=rfl
theorem rr196:kept (false::ms) (.pk i::r)=i::kept ms r:=rfl
theorem rr197:kept (false::ms) (.ev d::r)=kept ms r:=rfl
theorem rr198:kept (true::ms) (a::r)=kept ms r:=rfl
theorem rr199:t8 ms as (o::E)=(shape ms as&&qk (lent ms as) (kept ms as) (o::E)):=rfl
theorem rr200:lent [] []=[]:=rfl
theorem rr201:lent (true::ms) (.pk i::r)=i::lent ms r:=rfl
theorem rr202:lent (false::ms) (a::r)=lent ms r:=rfl
theorem rr203:shape [] []=true:=rfl
theorem rr204:shape (true::ms) (.pk i::r)=shape ms r:=rfl
theorem rr205:shape (false::ms) (a::r)=shape ms r:=rfl
theorem rr206:∀{α:Type},([]:List α).length=0:=rfl
theorem rr207:∀{α:Type}{a:α}{l:List α},(a::l).length=l.length+1:=rfl
theorem rr208:sizeLine=16777216:=rfl
theorem rr209:∀{f:DE->Arg},List.map f []=[]:=rfl
theorem rr210:∀{f:DE->Arg}{a:DE}{l:List DE},List.map f (a::l)=f a::List.map f l:=rfl
theorem rr211:atK (x::l) 0=some x:=rfl
theorem rr212:atK (x::y::l) 1=some y:=rfl
theorem rr213:yE (n+1) 0=some 0:=rfl
theorem rr214:yE (n+2) 1=some 1:=rfl
theorem rr215:yE (n+1+1) 1=some 1:=rfl
def P7:(∀{x:PyData}{l:A00},dP (x::l) 0=some x)/\(∀{x y:PyData}{l:A00},dP (x::y::l) 1=some y)/\(∀{n:Nat},lM (n+1) 0=some 0)/\(∀{n:Nat},lM (n+2) 1=some 1)/\(∀{n:Nat},lM (n+1+1) 1=some 1)/\(∀{P:Kd->PyData->Prop},fm false [.none,.none] P=P .sh (.bool true))/\(∀{P:Kd->PyData->Prop},fm true [.none,.none] P=P .sh (.bool false))/\(∀{i:Int}{P:Kd->PyData->Prop},fm false [.int i,.none] P=P .sh (.bool false))/\(∀{i:Int}{P:Kd->PyData->Prop},fm true [.int i,.none] P=P .sh (.bool true))/\(∀{i:A00}{P:Kd->PyData->Prop},fm false [.tuple i,.none] P=P .sh (.bool false))/\(∀{i:A00}{P:Kd->PyData->Prop},fm true [.tuple i,.none] P=P .sh (.bool true))/\(∀{d:PyData}{xs:A00}{P:Kd->PyData->Prop},oM false [d,.list xs] P=((xs.all (dl 8)=true/\dl 8 d=true)/\P .sh (.bool (decide (d∈xs)))))/\(∀{d:PyData}{xs:A00}{P:Kd->PyData->Prop},oM true [d,.list xs] P=((xs.all (dl 8)=true/\dl 8 d=true)/\P .sh (.bool !(decide (d∈xs)))))/\(∀{d:PyData}{xs:A00}{P:Kd->PyData->Prop},oM false [d,.tuple xs] P=((xs.all (dl 8)=true/\dl 8 d=true)/\P .sh (.bool (decide (d∈xs)))))/\(∀{d:PyData}{xs:A00}{P:Kd->PyData->Prop},oM true [d,.tuple xs] P=((xs.all (dl 8)=true/\dl 8 d=true)/\P .sh (.bool !(decide (d∈xs)))))/\(∀{i:Nat}{is:A07}{d:PyData}{ds:A00}{o:Option (Kd×PyData)}{E:En},bL (i::is) (d::ds) (o::E)=if bI (o::E) i then bL is ds ((o::E).set i (some (.sh,d)))else none)/\(∀{i:Nat}{r:A07}{o:Option (Kd×PyData)}{E:En},bM (i::r) (o::E)=if bI (o::E) i then bM r ((o::E).set i none)else none)/\(∀{i:Nat},List.contains [] i=false)/\(∀{i j:Nat}{l:A07},List.contains (j::l) i=(i==j||List.contains l i))/\(∀{α:Type},(([]:List α).Nodup)=True)/\(∀{i:Nat},([i]:A07).Nodup=True)/\type_of%@uz/\type_of%@yy:=
 ⟨Vp,UQ,Vo,SX,SX,(by simp[fm]),(by simp[fm]),(by simp[fm]),(by simp[fm]),(by simp[fm]),(by simp[fm]),(by intro d xs P;cases d<;>rfl),(by intro d xs P;cases d<;>rfl),(by intro d xs P;cases d<;>rfl),(by intro d xs P;cases d<;>rfl),rfl,rfl,(by intros;simp),(by intros;rw[ZE]),(by intros;simp),(by intros;simp),@uz,@yy⟩
def dx:=aI @rr123<|aI @rr124<|aI @rr125<|aI @rr126<|aI @rr127<|aI @rr128<|aI @rr129<|aI @rr130<|aI @rr131<|aI @rr132<|aI @rr133<|aI @rr134<|aI @rr135<|aI @rr136<|aI @rr137<|aI @rr138<|aI @rr139<|aI @rr140<|aI @rr141<|aI @rr142<|aI @rr143<|aI @rr144<|aI @rr145<|aI @rr146<|aI @rr147<|aI @rr148<|aI @rr149<|aI @rr150<|aI @rr151<|aI @rr152<|aI @rr153<|aI @rr154<|aI @rr155<|aI @rr156<|aI @rr157<|aI @rr158<|aI @rr159<|aI @rr160<|aI @rr161<|aI @rr162<|aI @rr163<|aI @rr164<|aI @rr165<|aI @rr166<|aI @rr167<|aI @rr168<|aI @rr169<|aI @rr170<|aI @rr171<|aI @rr172<|aI @rr173<|aI @rr174<|aI @rr175<|aI @rr176<|aI @rr177<|aI @rr178<|aI @rr179<|aI @rr180<|aI @rr181<|aI @rr182<|aI @rr183<|aI @rr184<|aI @rr185<|aI @rr186<|aI @rr187<|aI @rr188<|aI @rr189<|aI @rr190<|aI @rr191<|aI @rr192<|aI @rr193<|aI @rr194<|aI @rr195<|aI @rr196<|aI @rr197<|aI @rr198<|aI @rr199<|aI @rr200<|aI @rr201<|aI @rr202<|aI @rr203<|aI @rr204<|aI @rr205<|aI @rr206<|aI @rr207<|aI @rr208<|aI @rr209<|aI @rr210<|aI @rr211<|aI @rr212<|aI @rr213<|aI @rr214<|aI @rr215<|@P7
end Dv
namespace L2
open PySem PySem.Spec PyProof.Rows
def GU{K:Zx}{mb:Zr}{CX:mq}{k:Nat}{fa a:Addr}{sp:Sp}{s₁:Shared}{vs:A02}{ns:A08}(KX:K.In s₁.heap)(hns:s₁.heap.Ns mainGlobals mg)(hb:s₁.heap.Ns builtinsNs mb)(hbb:∀x:Str,x≠"__name__"->mb x=bootBuiltins x)(hlim:s₁.heap.NoLimit)(hg:s₁.gens=#[])(ha:s₁.heap.get? a=some { cls:=.type "list",data:=.seq vs.toArray })(hi:IntsAre vs ns)(hl:ns.length<=sizeLine)(hr:cW k callerA)(F:∀base:Heap,K.In base->base.Ns mainGlobals mg->gu P w K mg base CX k fa fd [x] sp)(hbind:∀(s:Shared)(u:Value),BindsTo s fd ⟨[u],[]⟩ [(x,u)])(hsp:∀H:Hp,Ja H->Dv.bX K H a (ns.map V.int)->sp [.ref a] H (λv _=>v=.bl true) λ_ _ _=>False)(hCX:∀H e s',CX [] H s₁ (λ_ _ _=>False) e s'->False) : codeAny (model P w) callerA (.call (.ref fa) ⟨[.ref a],[]⟩) (λr s'=>r=.ok (.ret (.bool true))/\OldK s₁.heap s'.heap/\s'.os=s₁.os/\AllBare s'.gens) s₁:=by
 have rv:=wG hi;have zu:=hi.length
 -- from an abstract heap in which nothing but the script may be tracked
 have core:∀H:Hp,Ja H->Dv.bX K H a (ns.map V.int)->dH P w H s₁.heap->(∀b,H b≠none->b=a)->(H a≠none->K.lookup a=none)->
   codeAny (model P w) callerA (.call (.ref fa) ⟨[.ref a],[]⟩) (λr s'=>r=.ok (.ret (.bool true))/\OldK s₁.heap s'.heap/\s'.os=s₁.os/\AllBare s'.gens) s₁:=by
  intro H hO hS hok hA hK;have base_of:∀{b:Addr}{o:Obj},s₁.heap.get? b=some o->H b=none->(oS s₁.heap H).get? b=some o:=λe n=>IB e n
  have noA:∀{b:Addr}{o:Obj}{es:Zt}{ep:Nat},s₁.heap.get? b=some o->o.data=.dict es ep->H b=none:=λ{b o es ep} e d=>by
   cases q:H b with
   |none=>rfl
   |some u=>
    have e':b=a:=hA b (by rw[q];simp)
    subst e';rw[ha]at e;cases e;have d':Data.seq vs.toArray _=Data.dict es ep:=d;cases d'
  have nsK:∀{b:Addr}{m:Zr},s₁.heap.Ns b m->(oS s₁.heap H).Ns b m:=λ{b m} ⟨o,es,ep,e,d,r⟩=>⟨o,es,ep,base_of e (noA e d),d,r⟩
  have hKb:K.In (oS s₁.heap H):=λb o e=>base_of (KX b o e) (by
   cases q:H b with
   |none=>rfl
   |some u=>
    have e':b=a:=hA b (by rw[q];simp)
    subst e';rw[hK (by rw[q];simp)]at e;cases e)
  have hM:Mod K mg (oS s₁.heap H):=⟨hKb,nsK hns,⟨mb,nsK hb,hbb⟩,let⟨mc,h1,h2⟩:=hlim;⟨mc,nsK h1,h2⟩⟩
  have e0:CA P w K mg (oS s₁.heap H) callerA [] s₁ H:=⟨rfl,hM,λb o e=>LJ e,YF (GZ _ _),trivial,λb hb=>absurd (show b∈([]:A03)from hb) (by simp),hok,.of_eq hg⟩
  refine Y9 ((F _ hKb (nsK hns)).run callerA [] s₁ H ⟨[.ref a],[]⟩ [.ref a] [.ref a] _ _ hr e0 (hbind s₁ (.ref a)) (.cons rfl .nil) (hsp H hO hS)) λr s' h=>?_
  cases r with
  |error e=>exact(hCX H e s' h).elim
  |ok fl=>
   cases fl with
   |next=>exact False.elim h
   |brk=>exact False.elim h
   |cont=>exact False.elim h
   |ret u=>
    obtain⟨v,H',os,bare,un,hok',r',q⟩:=h;have q':v=.bl true:=q;subst q';obtain rfl:u=Value.bool true:=r';refine⟨rfl,OldK.of_keep λb o e=>?_,os,bare⟩
    cases q:H b with
    |none=>exact un.keep b o e q (by intro z;exact absurd (show b∈([]:A03)from z) (by simp)) (by simp)
    |some u=>
     rcases hO b with z|⟨ob,xs,z⟩
     .rw[q]at z;cases z
     .have z2:=un.ju b ob _ z;obtain⟨e1,_⟩:=hok b _ z;obtain⟨e2,_⟩:=hok' b _ z2;rw[e]at e1;cases e1;exact e2
 cases hk:K.lookup a with
 |some o=>
  -- the script is one of the module's own objects
  have e:=KX a o hk;rw[ha]at e;cases e;refine core (λ_=>none) (λ_=>.inl rfl) (.inr ⟨vs,_,hk,by rw[zu];exact hl,rv⟩) (λb u z=>by have z':(none:Option HO)=some u:=z;cases z') (λb z=>absurd rfl z) λz=>absurd rfl z
 |none=>
  refine core (λb=>if b=a then some (.dX { cls:=.type "list",data:=.seq vs.toArray } (.lst (ns.map V.int)))else none) (λb=>?_) (.inl (.inr ⟨{ cls:=.type "list",data:=.seq vs.toArray },if_pos rfl⟩)) (λb u z=>?_) (λb z=>?_) λ_=>hk
  .by_cases hb:b=a
   .exact .inr ⟨_,_,if_pos hb⟩
   .exact .inl (if_neg hb)
  .by_cases hb:b=a
   .have z':=(if_pos hb).symm.trans z;cases z';subst hb;exact⟨ha,by rw[V4];exact hl,vs,_,rv,ha⟩
   .have z':=(if_neg hb).symm.trans z;cases z'
  .by_cases hb:b=a
   .exact hb
   .exact absurd (if_neg hb) z
def P9{l:PySem.W.OpenLaw}{n k:Nat}{YP:World->Heap->Prop}{d:DefRec}{K:Params->Zx}{CX:World->mq}{sp:World->Sp}(hn:l.most=some n)(hn2:n<=sizeLine)(hdf:d.params.defaults=[])(hr:cW k callerA)(hY:∀(w:World)(h:Heap),YP w h->(K w.params).In h)(F:∀(w:World)(mg:Zr)(fa:Addr)(h:Heap),(K w.params).In h->h.Ns mainGlobals mg->mg d.name=some (.ref fa)-> ∃fd:FuncData,(∀(s:Shared)(u:Value),BindsTo s fd ⟨[u],[]⟩ [(x,u)]) /\ ∀base:Heap,(K w.params).In base->base.Ns mainGlobals mg->gu l.prog w (K w.params) mg base (CX w) k fa fd [x] (sp w))(hsp:∀(w:World)(H:Hp)(a:Addr)(ns:A08),ns.length<=n->Ja H->Dv.bX (K w.params) H a (ns.map V.int)->sp w [.ref a] H (λv _=>v=.bl true) λ_ _ _=>False)(hCX:∀(w:World)(H:Hp)(s:Shared)(e:Value)(s':Shared),CX w [] H s (λ_ _ _=>False) e s'->False) : PySem.W.WalkO q loose XP YP l.row.toRowW d [] (λf vs=>PySem.call f vs):=by refine Sz.Aq hn hdf λw s₀ s₁ mg mb fa o pm cd doc a vs ns G AAB ho hd hcd hmg hobj hints hlen hg=>?_;have KX:=hY w _ AAB;obtain⟨fd,hb,hF⟩:=F w mg fa _ KX G.T.g hmg;exact GU KX G.T.g G.T.b G.T.builtins G.T.nolimit hg hobj hints (Vx hlen hn2) hr hF hb (λH hO hS=>hsp w H a ns hlen hO hS) λH e s'=>hCX w H s₁ e s'
end L2
namespace Dv
open PySem L2 PySem.W
inductive BO(K:Frag)(vs:List V)(H:Hp)(Q:VK):Prop
 |mk:∀(a:Addr)(ns:A08),(vs=[.ref a])->(bX K H a (ns.map V.int))->(ns.length<=63)->(∀H',Q (.bl true) H')->BO K vs H Q
def GR (K:Frag):Sp:=λvs H Q _E3=>BO K vs H Q
def vD:bz:=λds Q x=>∃ns:A08,ds=[.list (ns.map .int)]/\ns.length<=63/\Q [] .sh (.bool true)
def Mv(h:GR K vs H Q E):bS mg K [false] vD vs H Q E:=by
 obtain⟨a,ns,rfl,r,hl,q⟩:=h;refine⟨[.list (ns.map .int)],[],H,λ_ _ r=>r=.bool true,xF,ah.refl _,.sh (.lst r (sF ns)) .nil,⟨ns,rfl,hl,rfl⟩,λus k r u H' Hm' fp e _ _ _ _ _ o _=>?_,λ_ _ _ _ _ _ z=>z.elim⟩;cases e;cases o with
 |sh h=>cases h;exact q H'
def GC{l:OpenLaw}{YP:World->Heap->Prop}{d:DefRec}{K:Params->Frag}{k:Nat}(hn:l.most=some 63)(hdf:d.params.defaults=[])(hr:cW k callerA)(hY:∀(w:World)(h:Heap),YP w h->(K w.params).In h)(F:∀(w:World)(mg:Zr)(fa:Addr)(h:Heap),(K w.params).In h->h.Ns mainGlobals mg->mg d.name=some (.ref fa)-> ∃fd:FuncData,(∀(s:Shared)(u:Value),BindsTo s fd ⟨[u],[]⟩ [(pn,u)])/\∀base:Heap,(K w.params).In base->base.Ns mainGlobals mg->gu l.prog w (K w.params) mg base (dS l.prog w) k fa fd [pn] (bS mg (K w.params) [false] vD)) : WalkO q loose XP YP l.row.toRowW d [] (λf vs=>PySem.call f vs):=
 L2.P9 (n:=63) (k:=k) (x:=pn) (CX:=λw=>dS l.prog w) (sp:=λw=>GR (K w.params)) hn (by decide) hdf hr hY (λw mg fa h h1 h2 h3=>by
  obtain⟨fd,hb,hF⟩:=F w mg fa h h1 h2 h3;exact⟨fd,hb,λbase g1 g2=>(hF base g1 g2).imp λvs H Q E z=>Mv z⟩) (λ_ _ a ns hl _ hS=>⟨a,ns,rfl,hS,hl,λ_=>rfl⟩) λw H s e s' z=>by
  obtain⟨_,_,_,_,_,_,_,_,_,_,_,_,_,_,_,z⟩:=z;exact z.elim
def uB:DR:=λds P=>∃ps:Zw,ds=[.list (ps.map pD)]/\ps.length<=1000/\∀qs:Zw,qs.Perm ps->P (.ow false) (.list (qs.map pD))
def IM:∀{zs ys:List V},zs.Perm ys->∀{ps:Zw},av K H ys (ps.map pD)->∃qs:Zw,qs.Perm ps/\av K H zs (qs.map pD):=by
 intro zs ys h;induction h with
 |nil=>intro ps r;exact⟨ps,.refl _,r⟩
 |cons x _ ih=>
  intro ps r;cases ps with
  |nil=>cases r
  |cons p ps=>
   cases r with
   |cons h t=>obtain⟨qs,pq,r'⟩:=ih t;exact⟨p::qs,pq.cons _,.cons h r'⟩
 |swap x y l=>
  intro ps r
  match ps,r with
  |p::p2::ps,.cons h (.cons h2 t)=>exact⟨p2::p::ps,List.Perm.swap _ _ _,.cons h2 (.cons h t)⟩
 |trans _ _ ih1 ih2=>intro ps r;obtain⟨q1,p1,r1⟩:=ih2 r;obtain⟨q2,p2,r2⟩:=ih1 r1;exact⟨q2,p2.trans p1,r2⟩
def Ed:cT K uB (GP K):=by
 rintro H Hm vs ds P Q s r⟨ps,rfl,hn,h⟩q;obtain⟨x,rfl,h1⟩:=cR r;obtain⟨a,xs,rfl,ha,r1⟩:=fN h1;have l1:xs.length=ps.length:=by rw[r1.len,V4]
 refine⟨a,xs,rfl,(bX.mono s ha).sq,λy hy=>?_,by rw[l1];exact hn,λzs p pm hp=>?_⟩
 .obtain⟨i,hi⟩:=Wz hy;obtain⟨d,e,r'⟩:=r1.Ub hi;rw[VE]at e;obtain⟨p,_,rfl⟩:=XX.mp e;cases r' with
  |tup b r2=>obtain⟨x,y,rfl,h2,h3⟩:=fV r2;cases h2;cases h3;exact⟨_,_,_,rfl,bO.of (s _ _ b)⟩
 obtain⟨qs,pq,r'⟩:=IM pm r1;exact bB.nl q s (h qs pq) hp r'
section
variable{X:Cx}{Ex:XK}{Y:A07}{a:Expr}{p pos:Pos}{as:List Arg}
def O6(hm:X.mg "sorted"=none)(S:aJ X Ex Y [a] as)(hg:Gl X "sorted":=by rfl)(ns:noStar a=true:=by rfl):SE X Ex Y (.Call (.Name "sorted" p) [a] [] pos) (aa uB as):=fJ yQ Ed hg hm PyProof.Rows.boot_sorted (by decide) (by decide) (by rw[VJ,ns];rfl) S
end
end Dv
namespace Dv
open PySem L2 PySem.W PyProof.Rows
def xQ{M:Model}{A:Around}{E:Zp}{s:Shared}{a b:Value}{T id:String}{Q:Zp}(ha:s.TypeIs a T)(hb:s.TypeIs b T)(hl:typeLookup (.type T) (dunderI "add")=pure (some (.builtin id)))(hi:isSeqSlotId id=true)(hfill:fillsNumberSlot (.type T) "add"=pure false)(hc:wpAny M A (call (.builtin id) [a,b]) Q E s):wpAny M A (inplaceOp .Add a b) Q E s:=by
 unfold inplaceOp;refine Wb ?_;have hfi:fillsInplaceSlot (.type T) "add" (Operator.Add == .Add)=pure false:=by unfold fillsInplaceSlot;show(typeLookup (.type T) (dunderI "add")>>=λfi=>pure (fi.isSome&&!isSeqSlot fi))=pure false;rw[hl];show(pure ((some (Value.builtin id)).isSome&&!isSeqSlotId id):Sem Bool)=pure false;rw[hi];rfl
 have hsi:seqSlot? (.type T) (dunderI "add")=pure (some (.builtin id)):=PySem.seqSlot_of hl hi;refine V0 (YC ha (V0 (wpAny_of_eq hfi ?_)));show wpAny M A (if false=true then _ else _) Q E s;rw[if_neg VV];refine V0 (binaryOp1_none (nm:="add") ha hb hfill ?_);refine V0 (wpAny_of_eq hsi ?_);exact V0 (Wl hc)
def U5 (K:Frag):KR:=λx y H Q=>∃l b xs zs,x=.ref l/\y=.ref b/\H l=some (.lst xs)/\bX K H b zs/\xs.length+zs.length<=sizeLine/\Q (.ref l) (upd H l (.lst (xs++zs)))
section
variable{X:Cx}{Ex:XK}
def K6:SG X .Add (U5 X.K):=by
 intro pins s U H x y v u Q I rx ry h;obtain⟨l,b,xs,zs,rfl,rfl,hH,hB,hz,q⟩:=h;cases rx;cases ry;obtain⟨z,its,n,r,hl,e⟩:=I.vM hH;obtain⟨z2,its2,n2,r2,e2⟩:=hB.get I;have hl2:=r2.length;have hsz:its.toArray.size+its2.toArray.size<=sizeLine:=by rw[VM,VM];lia
 have hlong:¬(!its.toArray.isEmpty&&Builtin.List.listTooLong (its.toArray.size+its2.toArray.size))=true:=by rw[nX hsz,XY];exact VV
 refine xQ (T:="list") ⟨_,e,rfl⟩ ⟨_,e2,rfl⟩ F.slot_list_iadd.lookup (by decide+kernel) noFill_list_add ?_;refine XD F.slot_list_iadd ⟨_,e,rfl⟩ F.entry_list_iadd (F.args_list_iadd_2 _ _)
  (AutoSeq1.list___iadd___list_list_0 l its.toArray n b its2.toArray n2 hlong (by rw[VM];lia) (by lia)) ⟨e,e2,?_⟩
 refine⟨.ref l,_,I.vW (its':=its++its2) hH e (by simp) (r.append r2) ?_,rfl,q⟩;rw[VH];lia
def Sm{i:Nat}(hN:X.N.Nodup)(hi:X.N[i]?=some x)(hl:Loc X.env.scope x)(hf:X.fn x=true\/X.env.scope.names.lookup x=some .local)(h:SE X Ex (aK X) e d):S1 X Ex (.AugAssign (.Name x pos') .Add e pos) (yW sizeLine i d):=by
 intro g D' E U H Hm F D hx R p nx rt;obtain⟨hh,p⟩:=p;have hh':here E i=true:=by unfold jA at hh;unfold here;split at hh;{rename_i q;rw[q]};cases hh
 obtain⟨v0,hv0⟩:=l6 R hh';refine WS.of (NO hN hi hl aV K6 hf) ⟨v0,bR (gz (aR hi)) hv0,h g D'.xc E U H Hm F _ _ hx R p λE' k v u H' Hm' F' fp p' R' s' T=>?_⟩;obtain⟨fz,pp,ds,es,e1,rfl,hlen,p'⟩:=p';obtain⟨Hm2,up,R2,rp⟩:=T.dX R' fz;obtain⟨b,zs,rfl,hb,rz⟩:=fN rp;obtain⟨v1,h1,h2⟩:=R2.slot i _ _ e1;rw[hv0]at h1;cases h1;generalize hfi:F' i=fi at h2;cases h2 with
 |@ow _ a xs _ ha rx=>
  obtain⟨a',xs',g1,g2,g3,g4,R3⟩:=R2.chg (es:=ds++es) e1 (rx.app rz);rw[hv0]at g1;cases g1;rw[ha]at g2;cases g2;refine⟨a,b,xs,zs,rfl,rfl,ha,bX.mono R2.sub hb,by rw[rx.len,rz.len];exact hlen,?_⟩;show D.nx ((sel (aK X) U).set i (some (.ref a))) _;have hsel:(sel (aK X) U).set i (some (.ref a))=sel (aK X) U:=by refine WA λj=>?_;rw[Wa];by_cases c:i=j;{subst c;have:=bR (gz (aR hi)) hv0;rw[if_pos rfl,this,if_pos];rcases WM i (sel (aK X) U).length with z|z;{exact z};rw[VY z]at this;cases this};rw[if_neg c]
  rw[hsel];exact nx _ _ _ _ _ p' R3 (s'.trans up)
def UG(i:Nat)(hN:X.N.Nodup)(h:SE X Ex (aK X) e d)(hi:X.N[i]?=some x:=by rfl)(hl:Loc X.env.scope x:=by first|exact Or.inl rfl|exact Or.inr rfl)(hf:X.fn x=true\/X.env.scope.names.lookup x=some .local:=by first|exact Or.inl rfl|exact Or.inr rfl):S1 X Ex (.AugAssign (.Name x pos') .Add e pos) (yW sizeLine i d):=Sm hN hi hl hf h
end
end Dv
namespace Dv
open PySem L2 PySem.W
section
variable{K:Frag}{g:Gh}{E:En}{U:St}{H H' Hm Hm':Hp}{F:Nat->A03}
def Rl.RD(R:Rl K g E U H Hm F){p:Addr}(A:pT g F H Hm [p]):Rl K g E U (upd H p o) Hm F where
 len:=R.len
 sub:=λb u e=>by
  have:b≠p:=λz=>by rw[z,A.off p V3]at e;cases e
  rw[aj this];exact R.sub _ _ e
 slot:=λi k d e=>by
  obtain⟨v,h1,h2⟩:=R.slot i k d e;exact⟨v,h1,h2.step (ah.refl _) λa ha=>aj λz=>A.aD p V3 i (z▸ha)⟩
 off:=R.off
 aX:=λi a ha=>by
  obtain⟨u,hu,n⟩:=R.aX i a ha;have ne:a≠p:=λz=>A.aD p V3 i (z▸ha)
  exact⟨u,by rw[aj ne];exact hu,n⟩
 aD:=R.aD
 fr:=λq o hq ho=>by
  have:q≠p:=λz=>by rw[z,A.new p V3]at ho;cases ho
  rw[aj this];exact R.fr q o hq ho
 new:=R.new
 pin:=R.pin
 old:=R.old
end
end Dv
namespace SM
open PySem
section
variable{prog:Program}{w:World}{K:Type} [DecidableEq K]{knd:HeapKind prog w K}{A:Around}{E:Zp}{s:Shared}{d a:Addr}{k:K}{xs:List (K×Addr×Value)}
def Gi(hu:knd.room A)(hkey:knd.is s.heap k a)(hm:s.heap.DictOfH knd d xs)(hsz:xs.length<=sizeLine)(old:∀p,atKey xs k=some p->Q p.2 { s with toks:=s.toks+knd.draws k })(new:atKey xs k=none->∀h',h'.DictOfH knd d (storedH xs k a dv)->Heap.SameBut d s.heap h'->Q dv { s with heap:=h',toks:=s.toks+knd.draws k }):wpAny (model prog w) A (dictSetDefault d (.ref a) dv) Q E s:=by
 obtain⟨o,es,ep,ho,hc,hd,he,his,hn⟩:=hm;unfold dictSetDefault;try with_reducible refine Wb ?_
 refine V0 (knd.pyHash hu hkey (?_:_));refine V0 (wpAny_dictFind_heap (s:={ s with toks:=s.toks+knd.draws k }) hu hkey ho hd he his hn (λhno=>?_) λj p hj=>?_)
 .have hnot:k∉xs.map (·.1):=not_mem_keys_of_get hno;have hat:=atKey_none_of_get hno;refine V0 (Wl (V0 (wpAny_updateDictKeys (hz:=by have e:=size_of_entries he;lia) (s:={ s with toks:=s.toks+knd.draws k }) ho hd (V6 (new hat _ ⟨_,_,ep+1,XU _ ho (Obj.isFreed_of_dict (Obj.data_mapDictKeys hd _)),hc.mapDictKeys _,Obj.data_mapDictKeys hd _,?_,?_,?_⟩ (YT ..))))));{rw[storedH_new hat];simp[he,entryOfKey]}
  .rw[storedH_new hat];intro x hx;rcases VS.mp hx with hx|hx;{exact knd.keeps (his x hx) ho hd (YT ..)};have e:x=(k,a,dv):=by simpa using hx
   subst e;exact knd.keeps hkey ho hd (YT ..)
  rw[storedH_new hat,VR,YU];refine⟨hn,by simp,λx hx y hy e=>?_⟩;have e2:y=k:=by simpa using hy
  exact hnot (by rw[<-e2,<-e];exact hx)
 have hat:=atKey_of_get hn hj;refine V0 (Yx (s:={ s with toks:=s.toks+knd.draws k }) ho hd (?_:_));rw[entry_at he j,hj];exact V0 (Wl (V6 (old p hat)))
def ve(hu:knd.room A.in1)(hkey:knd.is s.heap k a)(hd0:(d==sysModules)=false)(hm:s.heap.DictOfH knd d xs)(hsz:xs.length<=sizeLine)(old:∀p,atKey xs k=some p->Q p.2 { s with toks:=s.toks+knd.draws k })(new:atKey xs k=none->∀h',h'.DictOfH knd d (storedH xs k a dv)->Heap.SameBut d s.heap h'->Q dv { s with heap:=h',toks:=s.toks+knd.draws k }):wpAny (model prog w) A (call (.builtin "dict.setdefault") [.ref d,.ref a,dv]) Q E s:=by refine X8 F.slot_dict_setdefault hm.typeIs F.entry_dict_setdefault (?_:_) (F.args_dict_setdefault_3 _ _ _);unfold Builtin.«dict.setdefault»;refine V0 (?_:_);unfold Builtin.Dict.keyAndDefault;refine V0 (wpAny_notOrdered_dict hm.typeIs (?_:_));refine id (?_:wpAny _ _ (pure (d,Value.ref a,some dv)) _ _ s);refine V6 (?_:_);refine id (?_:wpAny _ _ (if(d==sysModules)=true then _ else(dictSetDefault d (.ref a) dv>>=_)) _ _ s);rw[if_neg (by rw[hd0];exact VV)];exact V0 (Gi hu hkey hm hsz (λp hp=>V6 ⟨p.2,rfl,old p hp⟩) λhn h' hm' hs'=>V6 ⟨dv,rfl,new hn h' hm' hs'⟩)
end
end SM
namespace L2
open PySem PySem.Spec PyProof.Rows
section
variable{X:Cx}
noncomputable def Ru:V->List V->Hp->VK->Prop:=λx vs H Q=>∃(a b:Addr)(kvs:List (List Key×V))(k:List Key) (v:V),x=.ref a/\vs=[.ref b,v]/\H a=some (.dT kvs)/\H b=some (.tup (k.map kV))/\kvs.length<sizeLine /\
 match cP kvs k with
 |some u=>Q u H
 |none=>Q v (upd H a (.dT (kvs++[(k,v)])))
def LO(hu:X.A.units+8<cLine):OZ X "dict.setdefault" Ru:=by
 intro pins s U H x vs v us Q I rx rv h;obtain⟨a,b,kvs,k,y,rfl,rfl,ha,hb,hl,q⟩:=h;cases rx;obtain⟨u1,u2,rfl,ru1,ru2⟩:=rv.two;cases ru1;obtain⟨z,hd,xs,rel,dd⟩:=JW I.hok ha;have hz:xs.length<=sizeLine:=by rw[<-Paired.length rel];exact z
 have rv2:=rel.val k;refine SM.ve (YD (by lia)) (nL I.hok hb) hd dd hz (λp hp=>?_) λhn h' dd' hs=>?_
 .rw[hp]at rv2;cases e:cP kvs k with
  |none=>rw[e]at rv2;exact absurd rv2.gr (by simp)
  |some u=>rw[e]at rv2 q;obtain⟨w',hw,rw'⟩:=jq.some_of (v:=u) (o:=some p.2) rv2;cases hw;exact⟨u,H,I.tok _,rw',q⟩
 rw[hn]at rv2;cases e:cP kvs k with
 |some u=>rw[e]at rv2;exact absurd rv2.gr (by simp)
 |none=>
  rw[e]at q;have ep:putK kvs k y=kvs++[(k,y)]:=by unfold putK;rw[if_neg];rw[sQ,e];decide
  have rp:=rel.put k hb ru2;rw[ep]at rp;obtain⟨qo,es,ep',hq,h2,h3,h4,_,h5⟩:=dd';refine⟨y,_,v9 I (ob:=.dT (kvs++[(k,y)])) (by rw[ha];exact Wn) hs ⟨qo,hq⟩ ⟨by rw[VH];exact hl,hd,_,rp.keeps λc ys ec=>?_,qo,es,ep',hq,h2,h3,h4,h5⟩,ru2,q⟩;rw[aj (JU ec ha (λz=>nomatch z))];exact ec
end
end L2
namespace SM
open PySem
def qF (h:Heap)(d:Addr)(es:Zt) (ep:Nat):Prop:=∃o,h.get? d=some o/\o.ExactDict/\o.data=.dict es ep
section
variable{prog:Program}{w:World}{A:Around}{E:Zp}{s:Shared}{es:Zt}{ep:Nat}{v d it:Addr}{i:Nat}
def qF.ty(h:qF s.heap d es ep):s.TypeIs (.ref d) "dict":=by obtain⟨o,ho,hc,_⟩:=h;exact⟨o,ho,hc.1⟩
def Mc(hd:(d==sysModules)=false)(hm:qF s.heap d es ep)(q:Q (.ref s.heap.objs.size) { s with heap:=s.heap.push { cls:=.type "dict_values",data:=.fields #[.ref d] } }) : wpAny (model prog w) A (call (.builtin "dict.values") [.ref d]) Q E s:=by refine X8 F.slot_dict_values hm.ty F.entry_dict_values (?_:_) (F.args_dict_values_1 _);unfold Builtin.«dict.values»;refine V0 (?_:_);unfold Builtin.Dict.noArgs;refine V0 (wpAny_notOrdered_dict hm.ty (?_:_));refine id (?_:wpAny _ _ (pure d) _ _ s);refine V6 (?_:_);refine id (?_:wpAny _ _ (Builtin.Dict.showsAll d>>=_) _ _ s);unfold Builtin.Dict.showsAll;rw[if_neg (by rw[hd];exact VV)];refine V0 (V6 (?_:_));exact V0 (Wt (V6 ⟨_,rfl,q⟩))
def HH(hv:s.heap.IsValuesView v d)(hm:qF s.heap d es ep)(q:Q (.ref s.heap.objs.size) { s with heap:=s.heap.push { cls:=.type "dict_valueiterator",data:=.fields #[.ref d,.int 0 0,.int es.size 0,.int ep 0] } }):wpAny (model prog w) A (pyIter (.ref v)) Q E s:=by
 obtain⟨ov,v1,v2,v3⟩:=id hv;obtain⟨o,m1,m2,m3⟩:=id hm;refine wpAny_pyIter_slot hv.typeIs F.slot_dict_values_iter (X8 F.slot_dict_values_iter hv.typeIs F.entry_dict_values_iter (?_:_) (F.args_dict_values_iter_1 _));unfold Builtin.«dict_values.__iter__»;refine V0 (V6 (?_:_));refine V0 (?_:_);unfold Builtin.Dict_items.dictOf;refine V0 (Ws v1 v3 (x:=.ref d) rfl (V6 (?_:_)));refine V0 (?_:_);unfold Builtin.Dict_items.newIterator;refine V0 (Yx m1 m3 (?_:_));refine V0 (wpAny_dictEpoch m1 m3 (?_:_));have own0:Builtin.Dict_items.ownsTuple "dict_valueiterator"=false:=by decide
 simp only[own0,YK,Ww];refine Wt (V6 ⟨_,rfl,"dict_valueiterator",_,⟨_,W8 _ rfl,rfl⟩,Yy.lookup,(?_:_)⟩);simpa[rawInt]using q
def HR(ht:s.heap.IsValIter it d i es.size ep)(hm:qF s.heap d es ep)(hx:es[i]?=some e)(q:∀h',h'.IsValIter it d (i+1) es.size ep->Heap.SameBut it s.heap h'->Q (some e.val) { s with heap:=h' }):wpAny (model prog w) A (pyNext (.ref it)) Q E s:=by
 obtain⟨o,t1,t2,t3⟩:=id ht;obtain⟨od,m1,m2,m3⟩:=id hm;unfold pyNext;refine V0 (YE (Ym (name:=Str.ofString "__next__") ht.typeIs Yy
  (X8 Yy ht.typeIs Zk (?_:_) (Zl _))))
 refine V0 (V6 (?_:_));refine V0 (?_:_);refine V0 (?_:_);first|refine V0 (Yz ht.typeIs (V6 (?_:_)))|refine V0 (Z0 ht.typeIs (V6 (?_:_)))
 refine V0 (wpAny_fieldsOf t1 t3 (?_:_));have own0:Builtin.Dict_items.ownsTuple "dict_valueiterator"=false:=by decide
 simp only[own0,YK,Ww];refine id (?_:wpAny _ _ (if(Value.ref d==Value.none)=true then _ else _) _ _ s);have nn:¬((Value.ref d==Value.none)=true):=λz=>VV z;rw[if_neg nn];refine V0 (V6 (?_:_));refine V0 (Yx m1 m3 (?_:_));rw[if_neg (by simp)];refine V0 (V6 (?_:_));refine V0 (wpAny_dictEpoch m1 m3 (?_:_));rw[if_neg (by simp)];refine V6 (?_:_);have lt:i<es.size:=(Xr.mp hx).1;have ev:es[i]=e:=(Xr.mp hx).2;simp only[show ¬((i:Int)<0)from XN.mpr (Yh i),Ww,Yl,YH lt];refine V0 (?_:_);first|refine V0 (Yz ht.typeIs (V6 (?_:_)))|refine V0 (Z0 ht.typeIs (V6 (?_:_)))
 refine V0 (ZX ht.typeIs (?_:_));refine id (?_:wpAny _ _ (setField (.ref it) 1 (rawInt ((i:Int)+1))>>=_) _ _ s);refine V0 (Xq t1 t3 (by simp) (?_:_));have ht':(s.heap.update it (Obj.mapFields (·.setIfInBounds 1 (rawInt ((i:Int)+1))))).IsValIter it d (i+1) es.size ep:=
  ⟨_,XU _ t1 (Yp (YG t3 _)),(Obj.cls_mapFields ..).trans t2,by rw[YG t3];simp[rawInt]⟩
 generalize hU:s.heap.update it (Obj.mapFields (·.setIfInBounds 1 (rawInt ((i:Int)+1))))=AAA at ht'⊢;refine V0 (Wb (?_:_));refine V0 (ZX (s:={ s with heap:=AAA }) ht'.typeIs (?_:_));refine V0 (ZX (s:={ s with heap:=AAA }) ht'.typeIs (?_:_));refine id (?_:wpAny _ _ (pure es[i].val) _ _ _);refine V6 (V6 ⟨_,rfl,V6 (?_:_)⟩);rw[ev];exact q AAA ht' (hU▸YT ..)
def Ao(hh:A.handled=none)(ht:s.heap.IsValIter it d i es.size ep)(hm:qF s.heap d es ep)(hx:es.size<=i)(q:∀h',Heap.ExtBut it s.heap h'->Q none { s with heap:=h' }):wpAny (model prog w) A (pyNext (.ref it)) Q E s:=by
 obtain⟨o,t1,t2,t3⟩:=id ht;obtain⟨od,m1,m2,m3⟩:=id hm;unfold pyNext;refine V0 (YE (Ym (name:=Str.ofString "__next__") ht.typeIs Yy
  (X8 Yy ht.typeIs Zk (?_:_) (Zl _))))
 refine V0 (V6 (?_:_));refine V0 (?_:_);refine V0 (?_:_);first|refine V0 (Yz ht.typeIs (V6 (?_:_)))|refine V0 (Z0 ht.typeIs (V6 (?_:_)))
 refine V0 (wpAny_fieldsOf t1 t3 (?_:_));have own0:Builtin.Dict_items.ownsTuple "dict_valueiterator"=false:=by decide
 simp only[own0,YK,Ww];refine id (?_:wpAny _ _ (if(Value.ref d==Value.none)=true then _ else _) _ _ s);have nn:¬((Value.ref d==Value.none)=true):=λz=>VV z;rw[if_neg nn];refine V0 (V6 (?_:_));refine V0 (Yx m1 m3 (?_:_));rw[if_neg (by simp)];refine V0 (V6 (?_:_));refine V0 (wpAny_dictEpoch m1 m3 (?_:_));rw[if_neg (by simp)];refine V6 (?_:_);simp only[show ¬((i:Int)<0)from XN.mpr (Yh i),Ww,Yl,Array.getElem?_eq_none hx];refine V0 (?_:_);first|refine V0 (Yz ht.typeIs (V6 (?_:_)))|refine V0 (Z0 ht.typeIs (V6 (?_:_)))
 refine id (?_:wpAny _ _ (setField (.ref it) 0 .none>>=_) _ _ s);refine V0 (Xq t1 t3 (by simp) (?_:_));refine id (?_:wpAny _ _ (newExc (.type "StopIteration") []>>=_) _ _ _);refine V0 (?_:_);simp only[newTuple,newExc];refine V0 (Wt (?_:_) (by size_fits));refine V0 (m:=firstArgMember _ _) (wpAny_of_eq (a:=Value.none) (by first|rfl|(simp only[firstArgMember];rfl)) (?_:_));refine Wt (?_:_) (by size_fits);simp only[raiseNew];refine V0 (wpAny_handled (?_:_));rw[show A.in1.handled=none from hh];refine V0 (V6 (wpAny_throw (?_:_)));refine V0 (wpAny_isInstance (T:="StopIteration") (b:=true) ⟨_,W8 _ rfl,rfl⟩ isSubtype_stop (?_:_));exact V6 (q _ (((YT ..).extBut.push _).push _))
end
end SM
namespace L2
open PySem PySem.Spec PyProof.Rows
theorem wM{α β:Type}{F:α->β->Prop}:∀{l:List α}{m:List β},Paired F l m->∀{i:Nat}{x:α},l[i]?=some x->∃y,m[i]?=some y/\F x y
 |_,_,.nil,_,_,h=>nomatch h
 |_,_,.cons r _,0,_,h=>by cases h;exact⟨_,rfl,r⟩
 |_,_,.cons _ t,i+1,_,h=>wM t (i:=i) h
end L2
namespace Dv
open PySem L2 PySem.W
section
variable{X:Cx}{Ex:XK}{Y:A07}{pos:Pos}{tg:Expr}
def set_same{U:St}{i:Nat}(h:U[i]?=some (some v)):U.set i (some v)=U:=by refine WA λj=>?_;rw[Wa];by_cases c:i=j;{subst c;rw[if_pos rfl,h,if_pos (aR h)]};rw[if_neg c]
end
def Rec (K:Frag) (x:Str)(st:Stmt):Prop:=∃(f:Addr)(fd:FuncData),nsIn K mainGlobals x=some (some (.ref f))/\uo K x x st f fd
def N7{K:Frag}{x:Str}{st:Stmt}{f:Addr}{oc:Value}{od an:A01}{osl:Zo}{kV doc pm cdv ct:Value}(n:nsIn K mainGlobals x=some (some (.ref f)))(l:K.lookup f=some ⟨oc,od,.func (fnOf x x (jD st) (gA st) (au st) .none kV doc pm an cdv ct),osl⟩)(c:codeIn K cdv x=true)(k:keepIn K (.ref f)=true):Rec K x st:=⟨f,_,n,Pp l c k⟩
def Jh (K:Frag) (x:Str):Prop:=∃C,nsIn K mainGlobals x=some (some (.ref C))/\i8 K C pB "ValueError.__new__" none=true
def K5{K:Frag}{x:Str}{C:Addr}(h1:nsIn K mainGlobals x=some (some (.ref C)))(h2:i8 K C pB "ValueError.__new__" none=true):Jh K x:=⟨C,h1,h2⟩
def aW{P:Program}{w:World}{K:Frag}{base:Heap}{mg:Zr}{k:Nat}{x:Str}{ps:A09}{sp:Sp}{st:Stmt}(N:∃h:Heap,K.In h/\h.Ns mainGlobals mg)(r:Rec K x st)(b:∀(kV doc pm:Value)(an:A01)(cdv ct:Value)(us:A02),us.length=ps.length->bindArgs (fnOf x x (jD st) (gA st) (au st) .none kV doc pm an cdv ct) ⟨us,[]⟩=pure (ps.zip us))(ok:∀{f:Addr}{fd:FuncData},uo K x x st f fd->gu P w K mg base (dS P w) k f fd ps sp):bG P w K mg base k x ps sp:=by obtain⟨f,fd,n,F⟩:=r;obtain⟨h,X,G⟩:=N;exact⟨f,fd,mg_of X G n,F.kp,F.binds b,ok F⟩
def AE(s:ah H H2){a:Addr}(h:H2 a=none):H a=none:=by
 cases e:H a with
 |none=>rfl
 |some o=>rw[s _ _ e]at h;cases h
def bB.up(q:bB K H Hm P Q)(s:ah H H2):bB K H2 Hm P Q:=λk v u H' Hm' fp pp s1 s2 s3 od o fr=>
 q k v u H' Hm' fp pp (s.trans s1) s2 s3 (λa ha=>od a λz=>ha (AE s z)) o λa ha=>⟨AE s (fr a ha).1,(fr a ha).2⟩
def MQ (c:Str):PyData:=.dict [(.none,.str c)]
def jh (c b:Str):Bool:=decide (b=c)||(decide (b="HailError")||decide (b="ValueError"))
abbrev XH:=En->Str->Prop
abbrev DB:=XH->fX->En->Prop
def Hz (o:Option Nat)(E:En)(k:Kd)(v:PyData)(Q:En->Prop):Prop:=match o with
 |none=>Q E
 |some i=>bK (jd E i) (Q (E.set i (some (k,v))))
def Fp (sp:bz)(as:List Arg)(o:Option Nat):DB:=λh D E=>gH as xF E λE1 os=>ay (cg as E1 os) λds=>bK ((cL as).all (gm E1)) (sp ds (λ_ k v=>Hz o E1 k v D.nx) (λc _=>h E1 c))
def U8 (t:DT)(a b:DB):DB:=λh D E=>t xF E λE1 c=>dg c (a h D E1) (b h D E1)
noncomputable def CD (cs:A09) (B:Str)(b:DB) (i:Nat)(t:DS):DS:=λD E=>b (λE1 c=>bK (cs.contains c&&jh c B) (bK (jd E1 i) (t { nx:=λE2=>bK (jd E2 i) (D.nx (E2.set i none)),rt:=D.rt,xc:=xF } (E1.set i (some (.sh,MQ c)))))) D E
def RU (cs:A09) (B:Str)(b:DB)(t:DS):DS:=λD E=>b (λE1 c=>bK (cs.contains c&&jh c B) (t { D with xc:=xF } E1)) D E
noncomputable def SB (X:Cx)(st:A06)(d:DB):Prop:=∀(pins:Zs)(Hd:HD)(g:Gh)(h:XH)(D':fX)(E:En)(U:St)(H Hm:Hp)(F:Nat->A03)(D:Ends),Rl X.K g E U H Hm F->d h D' E->
  (∀E' σ' H' Hm' F',D'.nx E'->Rl X.K g E' σ' H' Hm' F'->ah Hm Hm'->D.nx (sel (aK X) σ') H')->
  (∀E' c C a H' Hm' F',h E' c->X.mg c=some (.ref C)->Rl X.K g E' U H' Hm' F'->ah Hm Hm'->Hm' a=some (.ext (eZ a C none))->Hd (sel (aK X) U) C a H')->pQ (gK X pins Hd) st D (sel (aK X) U) H
section
variable{X:Cx}{Ex:XK}
def RJ:∀{ms:A04}{vs:List V}{ds:A00},av K Hm vs ds->ms.length=ds.length->ms.all (!·)=true->Ag K H Hm ms vs ds []:=by
 intro ms;induction ms with
 |nil=>intro vs ds h e _;cases h with|nil=>exact .nil|cons _ _=>cases e
 |cons b ms ih=>
  intro vs ds h e n;rw[VJ,V9]at n;cases h with
  |nil=>cases e
  |cons r t=>
   cases b with
   |true=>cases n.1
   |false=>exact .sh r (ih t (Nat.succ.inj e) n.2)
theorem sE:∀{as:List Arg}{E:En}{os:List (Option PyData)}{ds:A00},fill as E os=some ds->ds.length=as.length
 |[],_,[],_,h=>by cases h;rfl
 |[],_,_::_,_,h=>by cases h
 |.pk i::r,E,none::os,ds,h=>by
  rw[fill]at h;split at h
  .split at h
   .cases e:fill r E os with
    |none=>rw[e]at h;cases h
    |some es=>rw[e]at h;cases h;exact congrArg (·+1) (sE e)
   cases h
  cases h
 |.ev _::r,E,some v::os,ds,h=>by
  rw[fill]at h;cases e:fill r E os with
  |none=>rw[e]at h;cases h
  |some es=>rw[e]at h;cases h;exact congrArg (·+1) (sE e)
 |.pk _::_,_,[],_,h=>by cases h
 |.pk _::_,_,some _::_,_,h=>by cases h
 |.ev _::_,_,[],_,h=>by cases h
 |.ev _::_,_,none::_,_,h=>by cases h
def K7{k:Nat}(hex:X.ex=[])(Fn:bG X.prog X.w X.K X.mg X.base k x ps (bS X.mg X.K ms sp))(hr:cW k X.A)(hg:Gl X x)(hd:(x==("__debug__":Str))=false)(ns:(e::es).all noStar=true)(hms:ms.all (!·)=true)(hl:ms.length=as.length)(S:aJ (gK X pins Hd) E0 (aK X) (e::es) as){F:Nat->A03}(R:Rl X.K g E U H Hm F)(q:Fp sp as o h D' E)(nx:∀E1 F1 k v u H' Hm' fp,Hz o E1 k v D'.nx->Rl X.K g E1 U H' Hm' F1->ah Hm Hm'->Tm X.K g F1 H' Hm' k u v fp->Q u H')(xh:∀E' c C a H' Hm' F',h E' c->X.mg c=some (.ref C)->Rl X.K g E' U H' Hm' F'->ah Hm Hm'->Hm' a=some (.ext (eZ a C none))->Hd (sel (aK X) U) C a H') : WE (gK X pins Hd) (.Call (.Name x p) (e::es) [] pos) (sel (aK X) U) H Q:=by
 refine WE.of (Ln hex Fn hr hg (dJ ns) hd (aG (by rw[VJ,V9]at ns;exact ns.1)) (fE (by rw[VJ,V9]at ns;exact ns.2))) ?_;refine iS (X:=gK X pins Hd) (Ex:=E0) XL.no S R q λE1 os vs H1 Hm1 F1 p R1 s1 G=>?_;rw[<-bq,dR]at p;obtain⟨ds,hf,p⟩:=p;rw[cS]at p;obtain⟨hsh,p⟩:=p;have hF:∀i∈cL as,∀a∈F1 i,Hm1 a=H1 a:=λi hi a ha=>by have:=VL.mp hsh i hi;unfold gm at this;split at this;{rename_i d e;obtain⟨v,_,o⟩:=R1.slot i _ _ e;generalize F1 i=fi at o ha;cases o;cases ha};cases this
 have rs:=kM R1 (ah.refl Hm1) G hf hF;show bS X.mg X.K ms sp (vs++[]) H1 Q _;rw[W9];refine⟨ds,[],Hm1,_,_,R1.sub,RJ rs (by rw[hl,sE hf]) hms,p,λus k r u H' Hm' fp p sM sS fr old bk o new=>?_,λc d C a H' hC hxc fr ha hn=>?_⟩
 .have sH:ah H1 H':=λb u e=>fr b u W0 e;have off:∀i a,a∈F1 i->Hm' a=none:=λi a ha=>by obtain⟨u,hu,nt⟩:=R1.aX i a ha;rcases old a W0 (by rw[hu];simp)with z|⟨_,xs,z⟩;{rw[z];exact R1.off i a ha};have:=sS _ _ z;rw[sH _ _ hu]at this;cases this;exact absurd rfl (nt xs)
  refine nx E1 F1 k r u H' Hm' fp p (R1.grow sH sM sS off λa ha=>?_) (s1.trans sM) ⟨o,λa ha=>(new a ha).2,λa ha i z=>R1.fresh (new a ha).1 z,λa ha=>R1.d7 (new a ha).1⟩;exact old a W0 (R1.l5 ha)
 have sH:ah H1 H':=λb u e=>fr b u W0 e;have hm1:=R1.g9 hn;refine⟨C,a,rfl,rfl,xh E1 c C a H' (upd Hm1 a (.ext (eZ a C none))) F1 hxc hC (R1.grow sH (aQ hm1) (λb u e=>?_) (λi b hb=>?_) λb hb=>.inl ?_) (s1.trans (aQ hm1)) aq⟩;{by_cases z:b=a;{subst z;rw[aq]at e;cases e;exact ha};rw[aj z]at e;exact sH _ _ (R1.sub _ _ e)};{rw[aj (show b≠a from λz=>R1.fresh hn (z▸hb))];exact R1.off i b hb};rw[aj (show b≠a from λz=>hb (by rw[z];exact R1.d7 hn))]
def Bv{k k':Nat}(Fn:bG X.prog X.w X.K X.mg X.base k x ps (bS X.mg X.K ms sp))(hr:cW k' X.A)(S:∀pins Hd,aJ (gK X pins Hd) E0 (aK X) (e::es) as)(hk:k<=k':=by decide)(hex:X.ex=[]:=by rfl)(hg:Gl X x:=by rfl)(hd:(x==("__debug__":Str))=false:=by decide)(ns:(e::es).all noStar=true:=by rfl)(hms:ms.all (!·)=true:=by rfl)(hl:ms.length=as.length:=by rfl)(hs:swapsWith (.Call (.Name x p) (e::es) [] pos) none pos2.line X.env=pure false:=by rfl):SB X [.Expr (.Call (.Name x p) (e::es) [] pos) pos2] (Fp sp as none):=by intro pins Hd g h D' E U H Hm F D R q nx xh;refine pQ.of (Bc (AL (X:=gK X pins Hd) aV hs)) ?_;exact K7 hex Fn (hr.mono hk) hg hd ns hms hl (S pins Hd) R q (λE1 F1 k v u H' Hm' fp p R' s' T=>nx E1 U H' Hm' F1 p R' s') xh
def Rl.unset{F:Nat->A03}(R:Rl K g E U H Hm F){i:Nat}(o:bI E i=true):Rl K g (E.set i none) (U.set i none) H Hm (λj=>if j=i then []else F j):=by
 have nin:∀{j:Nat}{a:Addr},a∈(if j=i then []else F j)->j≠i/\a∈F j:=λ{j a} h=>by by_cases c:j=i;{rw[if_pos c]at h;cases h};rw[if_neg c]at h;exact⟨c,h⟩
 exact {
  len:=by rw[VT,VT];exact R.len
  sub:=R.sub
  slot:=λj k d e=>by
   by_cases c:i=j
   .subst c;rw[Wa,if_pos rfl]at e;split at e<;>cases e
   .rw[ai c]at e;obtain⟨v,h1,h2⟩:=R.slot j k d e;refine⟨v,by rw[ai c];exact h1,?_⟩
    rw[if_neg (Ne.symm c)];exact h2
  off:=λj a h=>R.off j a (nin h).2
  aX:=λj a h=>R.aX j a (nin h).2
  aD:=λj k a h1 h2=>R.aD j k a (nin h1).2 (nin h2).2
  fr:=R.fr
  new:=λj a h=>R.new j a (nin h).2
  pin:=λq hq=>by
   obtain⟨h1,ds,h2⟩:=R.pin q hq;have c:i≠q.1:=λz=>by
    subst z;unfold bI at o;rw[h2]at o;cases o
   exact⟨by rw[ai c];exact h1,ds,by rw[ai c];exact h2⟩
  old:=R.old }
noncomputable def yL (K:Frag)(cs:A09) (B:Str):Bool:=match nsIn K mainGlobals B with
 |some (some (.ref B'))=>cs.all λc=>match nsIn K mainGlobals c with
  |some (some (.ref C))=>exmOne K (.ref C) (.ref B')==some (jh c B)
  |_=>false
 |_=>false
def QY(h:yL K cs B=true):∃B',nsIn K mainGlobals B=some (some (.ref B'))/\∀c∈cs,∃C,nsIn K mainGlobals c=some (some (.ref C))/\exmOne K (.ref C) (.ref B')=some (jh c B):=by unfold yL at h;split at h;{rename_i B' e;refine⟨B',e,λc hc=>?_⟩;have z:=VL.mp h c hc;split at z;{rename_i C e2;exact⟨C,e2,by simpa using z⟩};cases z};cases h
def KW{i:Nat}(N:∃h:Heap,X.K.In h/\h.Ns mainGlobals X.mg)(kx:yL X.K cs x=true)(hN:X.N.Nodup)(hb:SB X body b)(hh:∀a,SS (BE X a) E0 (b₀::suite) t)(hex:X.ex=[]:=by rfl)(hst:X.stack=X.env::X.outer:=by rfl)(hfr:X.env.frame=some X.env.locals:=by rfl)(hg:Gl X x:=by rfl)(hi:X.N[i]?=some n:=by rfl)(hk:X.env.scope.names.lookup n=some .local:=by rfl)(hdb:(x==("__debug__":Str))=false:=by decide) : S1 X Ex (.Try body [.ExceptHandler (some (.Name x np)) (some n) (b₀::suite) hpos] [] [] pos) (CD cs x b i t):=by obtain⟨B',nB,hc⟩:=QY kx;obtain⟨h0,KX,G⟩:=N;intro g D' E U H Hm F D hx R p nx rt;refine WS.of (Of hex hst hfr hg (mg_of KX G nB) hN hi hk (λpins Hd=>gE) (λa=>gE) hdb) λpins=>?_;refine hb pins _ g _ D' E U H Hm F D R p nx λE1 c C a H1 Hm1 F1 q hC R1 s1 ha=>?_;rw[cS,V9,YV]at q;obtain⟨⟨q1,q2⟩,q⟩:=q;rw[cS,rK]at q;obtain⟨op,q⟩:=q;obtain⟨C',e1,e2⟩:=hc c q1;have e3:=(mg_of KX G e1).symm.trans hC;cases e3;refine⟨by rw[e2,q2],?_⟩;rw[iJ Wv (gz (aR hi)) (R1.len▸fR op)];refine hh a g _ _ (U.set i (some (.ref a))) H1 Hm1 _ (gone i D) XL.no (R1.put (Tm.sh (.exc ha e1)) op) q (λE2 σ2 H2 Hm2 F2 p2 R2 s2=>?_) rt;replace p2:bK (jd E2 i) _:=p2;rw[cS,rK]at p2;show D.nx ((sel (aK X) σ2).set i none) H2;rw[iJ Wv (gz (aR hi)) (R2.len▸fR p2.1)];exact nx _ _ _ _ _ p2.2 (R2.unset p2.1) (s1.trans s2)
end
def mP (cs Bs:A09):DR:=λds P=>match ds with
 |[.dict [(.none,.str c)]]=>bK (cs.contains c) (P .sh (.bool (Bs.any (jh c))))
 |_=>False
noncomputable def IF (K:Frag)(C:Addr):Bool:=(P8 K C&&findIn K (.ref C) "__setattr__" == some (some (.builtin "object.__setattr__")))&&(findIn K (.ref C) "__getattribute__" == some (some (.builtin "BaseException.__getattribute__"))&&findIn K (.ref C) "__getattr__" == some none) &&
 (findIn K (.ref C) "__class__" == some (some (.builtin "object.__class__"))&&(specialIn K (.builtin "object.__class__") "__get__" == some (some (.builtin "getset_descriptor.__get__"))&&takesIn K (.builtin "object.__class__")==some true))
def OC{C:Addr}(h:IF K C=true):Br K C:=by unfold IF at h;simp only[V9,beq_iff_eq]at h;obtain⟨⟨⟨a,b⟩,c,d⟩,e,f,g⟩:=h;exact⟨⟨a,b,c,d⟩,e,f,g⟩
def Ft (K:Frag) (B:Str):Zy:=match nsIn K mainGlobals B with
 |some (some v)=>some v
 |some none=>bootBuiltins B
 |none=>none
noncomputable def AI (K:Frag)(cs Bs:A09):Bool:=cs.all λc=>match nsIn K mainGlobals c with
 |some (some (.ref C))=>IF K C&&Bs.all λB=>match Ft K B with
  |some v=>kitOne K (.ref C) v==some (jh c B)
  |none=>false
 |_=>false
def JG(h:AI K cs Bs=true)(hc:c∈cs):∃C,nsIn K mainGlobals c=some (some (.ref C))/\Br K C/\∀B∈Bs,∃v,Ft K B=some v/\kitOne K (.ref C) v=some (jh c B):=by have z:=VL.mp h c hc;split at z;{rename_i C e;rw[V9]at z;refine⟨C,e,OC z.1,λB hB=>?_⟩;have y:=VL.mp z.2 B hB;split at y;{rename_i v e2;exact⟨v,e2,by simpa using y⟩};cases y};cases z
def gV:Value->Option V
 |.ref a=>some (.ref a)
 |.type t=>some (.ty t)
 |_=>none
def GD(h:gV u=some v):RelV v u:=by unfold gV at h;split at h;{cases h;rfl};{cases h;rfl};cases h
def BG(h:gV u=some v)(r:RelV v u2):u2=u:=by unfold gV at h;split at h;{cases h;exact r};{cases h;exact r};cases h
noncomputable def yo (K:Frag)(Bs:A09):Bool:=Bs.all λB=>(!(B==("__debug__":Str)) && !(B==("__name__":Str)))&&match nsIn K mainGlobals B with
 |some (some u)=>(gV u).isSome
 |some none=>match bootBuiltins B with
  |some u=>(gV u).isSome
  |none=>false
 |none=>false
section
variable{X:Cx}{Ex:XK}{Y:A07}
def Kf(N:∃h:Heap,X.K.In h/\h.Ns mainGlobals X.mg)(h:yo X.K Bs=true)(hB:B∈Bs)(hg:Gl X B):∃u v,Ft X.K B=some u/\gV u=some v/\∀p,PE X (.Name B p) (tC v):=by obtain⟨h0,KX,G⟩:=N;have z:=VL.mp h B hB;rw[V9,V9,YN,YN]at z;obtain⟨⟨z1,z2⟩,z⟩:=z;unfold Ft;split at z;{rename_i u e;obtain⟨v,hv⟩:=ZK.mp z;exact⟨u,v,rfl,hv,λp=>vz hg (mg_of KX G e) (GD hv) z1⟩};{rename_i e;split at z;{rename_i u e2;obtain⟨v,hv⟩:=ZK.mp z;exact⟨u,v,e2,hv,λp=>rj hg (WJ KX G e) e2 (GD hv) (λq=>by rw[q]at z2;exact absurd z2 (by decide)) z1⟩};cases z};cases z
def Nr(N:∃h:Heap,X.K.In h/\h.Ns mainGlobals X.mg)(kx:AI X.K cs Bs=true)(kc:yo X.K Bs=true)(hm:X.mg "isinstance"=none)(S:aJ X Ex Y [a] as)(hB:Bs.contains B=true)(hg:Gl X "isinstance")(hg2:Gl X B)(ns:noStar a=true) : SE X Ex Y (.Call (.Name "isinstance" p) [a,.Name B p2] [] pos) (aa (mP cs [B]) as):=by
 have hB:=YV.mp hB;obtain⟨u,w,e1,ru,pe⟩:=Kf N kc hB hg2;refine eV (r:=λvs H Q=>∃a C c,vs=[.ref a]/\H a=some (.ext (eZ a C none))/\c∈cs/\nsIn X.K mainGlobals c=some (some (.ref C))/\Q (.bl (jh c B)) H) S (λU H Q h=>WE.of (lA HZ hg hm Yw (bg aV (bg (pe p2) dh) (aG ns)) (by decide) (by decide) (aG ns) (by rfl)) ?_) ?_;{refine λpins s I=>aM (h pins s I) λv s1 ⟨y,H1,I1,r1,b,C,c,e,hb,hc,n,q⟩=>⟨y,H1,I1,r1,?_⟩;cases e;obtain⟨C',n',xi,k⟩:=JG kx hc;rw[n]at n';cases n';obtain⟨u',e2,k⟩:=k B hB;rw[e1]at e2;cases e2;exact⟨_,C,w,_,rfl,.inl hb,xi,λu2 hu=>by rw[BG ru hu];exact k,q⟩};intro H Hm vs ds P Q s r h q;unfold mP at h;split at h
 .rename_i c;obtain⟨v,rfl,h1⟩:=cR r;rw[cS,YV]at h;generalize e:PyData.dict [(.none,.str c)]=d at h1;cases h1 with
  |pd _ _ _=>injection e with e;injection e with e _;injection e with _ e;cases e
  |exc ha n=>cases e;refine⟨_,_,c,rfl,s _ _ ha,h.1,n,bB.sc q s ?_ (.bl _)⟩;have:=h.2;rw[Wy,List.any_nil,Bool.or_false]at this;exact this
  |dk _ k=>
   cases e;generalize e:[(PyData.none,PyData.str c)]=l at k;cases k with
   |nil=>cases e
   |@cons k _ _ _ _ _ _=>cases k<;>cases e
  |_=>cases e
 exact h.elim
def NP(N:∃h:Heap,X.K.In h/\h.Ns mainGlobals X.mg)(kx:AI X.K cs Bs=true)(kc:yo X.K Bs=true)(hm:X.mg "isinstance"=none)(S:aJ X Ex Y [a] as)(hB:Bs.contains B=true:=by decide)(hg:Gl X "isinstance":=by rfl)(hg2:Gl X B:=by rfl)(ns:noStar a=true:=by rfl) : SE X Ex Y (.Call (.Name "isinstance" p) [a,.Name B p2] [] pos) (aa (mP cs [B]) as):=Nr N kx kc hm S hB hg hg2 ns
inductive Fj(X:Cx)(Bs:A09):A05->A09->Prop
 |nil:Fj X Bs [] []
 |cons {B:Str}{p:Pos}{es:A05}{bs:A09}:Bs.contains B=true->Gl X B->Fj X Bs es bs->Fj X Bs (.Name B p::es) (B::bs)
def UY(N:∃h:Heap,X.K.In h/\h.Ns mainGlobals X.mg)(kc:yo X.K Bs=true)(h:Fj X Bs es bs):∃(us:A02)(ws:List V)(t:TA),PA X es t/\(∀U H Q,Q ws H->t U H Q)/\ws.length=bs.length/\(∀zA,Vals ws zA->zA=us) /\ ∀C c,(∀B∈Bs,∃v,Ft X.K B=some v/\kitOne X.K (.ref C) v=some (jh c B))->kitAny X.K (.ref C) us=some (bs.any (jh c)):=by
 induction h with
 |nil=>exact⟨[],[],_,dh,λ_ _ _ q=>q,rfl,λzA h=>by cases h;rfl,λ_ _ _=>rfl⟩
 |@cons B p es bs hB hg h ih=>
  obtain⟨us,ws,t,h1,h2,h3,h4,h5⟩:=ih;have hB:=YV.mp hB;obtain⟨u,w,e1,ru,pe⟩:=Kf N kc hB hg;refine⟨u::us,w::ws,_,bg (pe p) h1,λU H Q q=>h2 _ _ _ q,congrArg (·+1) h3,λzA h=>?_,λC c k=>?_⟩
  .cases h with
   |cons r t=>rw[BG ru r,h4 _ t]
  obtain⟨v,e2,k2⟩:=k B hB;rw[e1]at e2;cases e2;rw[kitAny,k2,Wy];cases jh c B with
  |true=>rfl
  |false=>exact h5 C c k
def Sd{k:Nat}(N:∃h:Heap,X.K.In h/\h.Ns mainGlobals X.mg)(kx:AI X.K cs Bs=true)(kc:yo X.K Bs=true)(hm:X.mg "isinstance"=none)(S:aJ X Ex Y [a] as)(hb:Fj X Bs es bs)(hl:bs.length<=sizeLine:=by decide)(hg:Gl X "isinstance":=by rfl)(ns:noStar a=true:=by rfl) : SE X Ex Y (.Call (.Name "isinstance" p) [a,.Tuple es k tp] [] pos) (aa (mP cs bs) as):=by
 obtain⟨us,ws,t,h1,h2,h3,h4,h5⟩:=UY N kc hb;refine eV (r:=λvs H Q=>∃a C c,vs=[.ref a]/\H a=some (.ext (eZ a C none))/\c∈cs/\nsIn X.K mainGlobals c=some (some (.ref C))/\∀t,H t=none->Q (.bl (bs.any (jh c))) (upd H t (.tup ws))) S (λU H Q h=>WE.of (lA E8 hg hm Yw (bg aV (bg (qD h1) dh) (aG ns)) (by decide) (by decide) (aG ns) (by rfl)) ?_) ?_;{refine λpins s I=>aM (h pins s I) λv s1 ⟨y,H1,I1,r1,b,C,c,e,hb,hc,n,q⟩=>⟨y,H1,I1,r1,?_⟩;cases e;obtain⟨C',n',xi,k⟩:=JG kx hc;rw[n]at n';cases n';refine h2 _ _ _ ⟨by rw[h3];exact hl,λt ht=>?_⟩;exact⟨_,C,t,ws,_,rfl,.inl (aQ ht _ _ hb),xi,aq,λzA hu=>by rw[h4 _ hu];exact h5 C c k,q t ht⟩};intro H Hm vs ds P Q s r h q;unfold mP at h;split at h
 .rename_i c;obtain⟨v,rfl,h1⟩:=cR r;rw[cS,YV]at h;generalize e:PyData.dict [(.none,.str c)]=d at h1;cases h1 with
  |pd _ _ _=>injection e with e;injection e with e _;injection e with _ e;cases e
  |exc ha n=>cases e;refine⟨_,_,c,rfl,s _ _ ha,h.1,n,λt ht=>?_⟩;have st:=aQ (o:=.tup ws) ht;exact bB.sc (bB.up q st) (s.trans st) h.2 (.bl _)
  |dk _ k=>
   cases e;generalize e:[(PyData.none,PyData.str c)]=l at k;cases k with
   |nil=>cases e
   |@cons k _ _ _ _ _ _=>cases k<;>cases e
  |_=>cases e
 exact h.elim
end
end Dv
namespace Dv
open PySem L2
theorem rr216:CD cs B b i t D (o::E)=b (λE1 c=>bK (cs.contains c&&jh c B) (bK (jd E1 i) (t { nx:=λE2=>bK (jd E2 i) (D.nx (E2.set i none)),rt:=D.rt,xc:=xF } (E1.set i (some (.sh,MQ c)))))) D (o::E):=rfl
theorem rr217:id 7=7:=rfl
theorem rr218:Fp sp as w h D (o::E)=gH as xF (o::E) λE1 os=>ay (cg as E1 os) λds=>bK ((cL as).all (gm E1)) (sp ds (λ_ k v=>Hz w E1 k v D.nx) λc _=>h E1 c):=rfl
theorem rr219:id 7=7:=rfl
theorem rr220:Hz none (o::E) k v Q=Q (o::E):=rfl
theorem rr221:Hz (some i) (o::E) k v Q=bK (jd (o::E) i) (Q ((o::E).set i (some (k,v)))):=rfl
theorem rr222:mP cs Bs [.dict [(.none,.str c)]] P=bK (cs.contains c) (P .sh (.bool (Bs.any (jh c)))):=rfl
theorem rr223:mP cs Bs [MQ c] P=bK (cs.contains c) (P .sh (.bool (Bs.any (jh c)))):=rfl
end Dv
namespace L2
open PySem PySem.Spec PyProof.Rows
section
variable{prog:Program}{w:World}{A:Around}{E:Zp}{s:Shared}{l:Addr}{xs:Array (Int×Tok)}
def rQ(hl:s.heap.IsTuple l (intItems xs))(h:∀s₂:Shared,s₂={ s with heap:=s.heap.push { cls:=.type "tuple_iterator",data:=.fields #[.ref l,.int 0 0] } }-> (s₂.heap.IsTupleIter s.heap.objs.size l 0/\s₂.heap.IsTuple l (intItems xs))->(∀b∈[s.heap.objs.size,l],b<s₂.heap.objs.size)->l≠s.heap.objs.size->Q (.ref s.heap.objs.size) s₂) : wpAny (model prog w) A (pyIter (.ref l)) Q E s:=by
 have hlt:l<s.heap.objs.size:=by obtain⟨_,e,_⟩:=hl;exact VC e
 refine wpAny_pyIter_tuple hl (h _ rfl ⟨⟨_,W8 _ rfl,rfl,rfl⟩,hl.push _⟩ (λb hb=>?_) (VQ hlt));show b<(s.heap.push _).objs.size;rw[Heap.size_push];rcases VB.mp hb with rfl|hb;{exact YM _};rcases VB.mp hb with rfl|hb;{exact YL hlt};cases hb
def wC{h':Heap}(hk:∀b o,b∉[s.heap.objs.size]->(s.heap.push o1).get? b=some o->h'.get? b=some o) : ∀b o,s.heap.get? b=some o->h'.get? b=some o:=λb o e=>by refine hk b o (λhm=>?_) (VW _ e);rcases VB.mp hm with e1|hm;{exact absurd (e1▸VC e) (WB _)};cases hm
def Ct(hh:A.handled=none)(hl:s.heap.IsTuple l (intItems xs))(hne:0<xs.size)(h:∀v h' tk,(intItems xs)[argBest (λi j=>decide (numAt xs i>numAt xs j)) (xs.size-1)]?=some v->(∀b o,s.heap.get? b=some o->h'.get? b=some o)->Q v { s with heap:=h',toks:=tk }) : wpAny (model prog w) A (call (.builtin "max") [.ref l]) Q E s:=by refine call_max_walk (rQ hl λs₂ e st hfp hlI=>?_);subst e;refine⟨_,_,_,_,_,_,_,rfl,Walks.tuple (A:=A.in1) hh _ l hlI (intItems xs),st,hfp,by simpa[intItems]using hne,CmpOf.ints_gt (numAt xs) (λ_ _=>Xv),λv h' tk hP hk=>?_⟩;exact h v h' tk (by simpa[intItems]using hP) (wC hk)
def DN(hh:A.handled=none)(hl:s.heap.IsTuple l (intItems xs))(hne:0<xs.size)(h:∀v h' tk,(intItems xs)[argBest (λi j=>decide (numAt xs i<numAt xs j)) (xs.size-1)]?=some v->(∀b o,s.heap.get? b=some o->h'.get? b=some o)->Q v { s with heap:=h',toks:=tk }) : wpAny (model prog w) A (call (.builtin "min") [.ref l]) Q E s:=by refine call_min_walk (rQ hl λs₂ e st hfp hlI=>?_);subst e;refine⟨_,_,_,_,_,_,_,rfl,Walks.tuple (A:=A.in1) hh _ l hlI (intItems xs),st,hfp,by simpa[intItems]using hne,CmpOf.ints_lt (numAt xs) (λ_ _=>Xv),λv h' tk hP hk=>?_⟩;exact h v h' tk (by simpa[intItems]using hP) (wC hk)
end
section
variable{X:Cx}
inductive EK(K:Zx)(xs:List V)(H:Hp)(Q:VK):Prop
 |mk:∀(a:Addr)(ns:A08),(xs=[.ref a])->(bO K H a (ns.map V.int))->(ns≠[])->(∀M,M∈ns->(∀n∈ns,M<=n)->Q (.int M) H)->EK K xs H Q
def J9 (K:Zx):List V->Hp->VK->Prop:=λxs H Q=>EK K xs H Q
inductive Hj(K:Zx)(xs:List V)(H:Hp)(Q:VK):Prop
 |mk:∀(a:Addr)(ns:A08),(xs=[.ref a])->(bO K H a (ns.map V.int))->(ns≠[])->(∀M,M∈ns->(∀n∈ns,n<=M)->Q (.int M) H)->Hj K xs H Q
def K1 (K:Zx):List V->Hp->VK->Prop:=λxs H Q=>Hj K xs H Q
def FH(hc:X.calm=true):b5 X (.builtin "min") (J9 X.K):=by
 intro pins s U H xs us Q I r h;obtain⟨a,ns,rfl,hq,ne,q⟩:=h;obtain⟨u,rfl,ru⟩:=vals1 r;cases ru;obtain⟨its,rv,p,_⟩:=I.tuple hq;obtain⟨ps,rfl,rfl⟩:=nN rv;have hl:s.heap.IsTuple a (intItems ps.toArray):=by have:s.heap.IsTuple a (ps.map (λp=>Value.int p.1 p.2)).toArray:=p;simpa[intItems]using this
 refine DN (I.ok.hd hc) hl (by simpa using XG.mpr (λe=>ne (by rw[e];rfl))) λv h' tk hv hk=>?_;obtain⟨t,rfl⟩:=Xv hv;obtain⟨g1,g2⟩:=argBest_lt (numAt ps.toArray) (ps.toArray.size-1);have pos:0<ps.length:=XG.mpr λe=>ne (by rw[e];rfl);refine⟨.int _,H,I.kept (t':=tk) hk,⟨_,rfl⟩,q _ ?_ λn hn=>?_⟩;{rw[XI];exact getD_mem (by simp at g1⊢;lia)};obtain⟨j,hj,rfl⟩:=mem_getD hn;rw[V4]at hj;have e:(ps.map (·.1)).getD j 0=numAt ps.toArray j:=by rw[XI]
 rw[e];exact g2 j (by simp;lia)
def Gq(hc:X.calm=true):b5 X (.builtin "max") (K1 X.K):=by
 intro pins s U H xs us Q I r h;obtain⟨a,ns,rfl,hq,ne,q⟩:=h;obtain⟨u,rfl,ru⟩:=vals1 r;cases ru;obtain⟨its,rv,p,_⟩:=I.tuple hq;obtain⟨ps,rfl,rfl⟩:=nN rv;have hl:s.heap.IsTuple a (intItems ps.toArray):=by have:s.heap.IsTuple a (ps.map (λp=>Value.int p.1 p.2)).toArray:=p;simpa[intItems]using this
 refine Ct (I.ok.hd hc) hl (by simpa using XG.mpr (λe=>ne (by rw[e];rfl))) λv h' tk hv hk=>?_;obtain⟨t,rfl⟩:=Xv hv;obtain⟨g1,g2⟩:=argBest_gt (numAt ps.toArray) (ps.toArray.size-1);have pos:0<ps.length:=XG.mpr λe=>ne (by rw[e];rfl);refine⟨.int _,H,I.kept (t':=tk) hk,⟨_,rfl⟩,q _ ?_ λn hn=>?_⟩;{rw[XI];exact getD_mem (by simp at g1⊢;lia)};obtain⟨j,hj,rfl⟩:=mem_getD hn;rw[V4]at hj;have e:(ps.map (·.1)).getD j 0=numAt ps.toArray j:=by rw[XI]
 rw[e];exact g2 j (by simp;lia)
def uQ (i j:Int):Prop:=i.natAbs<2^128/\j.natAbs<2^128
def DP (i j:Int):Prop:=0<=j/\j<=1000/\i.natAbs<2^128
def uQ.ok{i j:Int}(h:uQ i j):IntMulOk i j:=
 .of_bits (Vx (intBits_le h.1) (by decide)) (Vx (intBits_le h.2) (by decide))
def Le:bN X (binaryOp .Mult) (rI uQ λi j=>.int (i*j)):=Cc λ_ _ _ _ _ _ _ hc q=>mul_int q hc.ok
def ML:bN X (binaryOp .Pow) (rI DP λi j=>.int (i^j.toNat)):=Cc λi j _ _ _ _ _ hc q=>by have h1:=hc.1;have h2:=hc.2.1;have h3:=intBits_le hc.2.2;refine pow_int h1 ?_ q;have:(Builtin.Int.intBits i:Int)*j<=128*1000:=Int.mul_le_mul (by lia) h2 h1 (by lia);exact Xe this (by decide)
end
end L2
namespace Dv
open PySem L2 PySem.W
def Di:DR:=rB uQ λi j=>.int (i*j)
def Cg:DR:=rB DP λi j=>.int (i^j.toNat)
def kJ{a b:Int}:Di [.int a,.int b] P=(uQ a b/\P .sh (.int (a*b))):=rfl
def kI{a b:Int}:Cg [.int a,.int b] P=(DP a b/\P .sh (.int (a^b.toNat))):=rfl
section
variable{X:Cx}{Ex:XK}{Y:A07}{a b:Expr}{as:List Arg}{pos:Pos}
def Sa(S:aJ X Ex Y [a,b] as):SE X Ex Y (.BinOp a .Mult b pos) (aa Di as):=jS Le (mU λ_ _ _=>.int _) S
def Rj(S:aJ X Ex Y [a,b] as):SE X Ex Y (.BinOp a .Pow b pos) (aa Cg as):=jS ML (mU λ_ _ _=>.int _) S
end
def qV:DR:=λds P=>match ds with
 |[.tuple [.int a,.int b]]=>P .sh (.int (if b<a then b else a))
 |_=>False
def rD:DR:=λds P=>match ds with
 |[.tuple [.int a,.int b]]=>P .sh (.int (if b>a then b else a))
 |_=>False
def mX{a b:Int}:qV [.tuple [.int a,.int b]] P=P .sh (.int (if b<a then b else a)):=rfl
def m9{a b:Int}:rD [.tuple [.int a,.int b]] P=P .sh (.int (if b>a then b else a)):=rfl
def HX:cT K qV (J9 K):=by
 intro H Hm vs ds P Q s r h q;unfold qV at h;split at h
 .obtain⟨x,rfl,h1⟩:=cR r;cases h1 with
  |@tup a xs _ a1 r1=>
   obtain⟨y,z,rfl,h2,h3⟩:=fV r1;cases h2;cases h3;rename_i i j;refine⟨a,[i,j],rfl,bO.of (s _ _ a1),YW _ _,λM m1 m2=>?_⟩;have e:M=if j<i then j else i:=by have e1:=m2 i (by simp);have e2:=m2 j (by simp);simp only[VB,W0,Wo]at m1;split<;>lia
   rw[e];exact bB.sc q s h (.int _)
 exact h.elim
def Jf:cT K rD (K1 K):=by
 intro H Hm vs ds P Q s r h q;unfold rD at h;split at h
 .obtain⟨x,rfl,h1⟩:=cR r;cases h1 with
  |@tup a xs _ a1 r1=>
   obtain⟨y,z,rfl,h2,h3⟩:=fV r1;cases h2;cases h3;rename_i i j;refine⟨a,[i,j],rfl,bO.of (s _ _ a1),YW _ _,λM m1 m2=>?_⟩;have e:M=if j>i then j else i:=by have e1:=m2 i (by simp);have e2:=m2 j (by simp);simp only[VB,W0,Wo]at m1;split<;>lia
   rw[e];exact bB.sc q s h (.int _)
 exact h.elim
section
variable{X:Cx}{Ex:XK}{Y:A07}{a b:Expr}{as:List Arg}{pos p:Pos}
def Rg(hm:X.mg "min"=none)(S:aJ X Ex Y [a] as)(hc:X.calm=true:=by rfl)(hg:Gl X "min":=by rfl)(ns:noStar a=true:=by rfl):SE X Ex Y (.Call (.Name "min" p) [a] [] pos) (aa qV as):=fJ (FH hc) HX hg hm ZW (by decide) (by decide) (by rw[VJ,ns];rfl) S
def RG(hm:X.mg "max"=none)(S:aJ X Ex Y [a] as)(hc:X.calm=true:=by rfl)(hg:Gl X "max":=by rfl)(ns:noStar a=true:=by rfl):SE X Ex Y (.Call (.Name "max" p) [a] [] pos) (aa rD as):=fJ (Gq hc) Jf hg hm PyProof.Rows.boot_max (by decide) (by decide) (by rw[VJ,ns];rfl) S
end
end Dv
namespace L2
open PySem PySem.Spec PyProof.Rows
def yR(l:Addr)(items:Zz) (n:Nat)(b:Addr)(items2:Zz) (n2:Nat)(dd2:A01)(sl2:Zo)(hs0:¬(!items.isEmpty&&Builtin.List.listTooLong (items.size+items2.size))=true)(hs1:items.size<=sizeLine)(hs2:items.size+items2.size<=sizeLine+1) : Meets (Builtin.«list.extend» ⟨[.ref l,.ref b],[]⟩) (λ_ R s=>s.heap.get? l=some { cls:=.type "list",dict:=none,data:=.seq items n,slots:=#[] }/\s.heap.get? b=some { cls:=.type "tuple",dict:=dd2,data:=.seq items2 n2,slots:=sl2 }/\R (.ok (.ret Value.none)) { s with heap:=s.heap.update l (Obj.mapSeq λx=>x++items2),toks:=s.toks }):=
 .of_wp λprog w A R s h=>by
  obtain⟨hp,g,d,tk,os⟩:=s;obtain⟨hl,hb,h⟩:=h;have f1:=AutoSeq1.idx_int;have f2:=AutoSeq1.sub_tuple_tuple;have f3:=AutoSeq1.sub_list_list;have f4:=AutoSeq1.sub_tuple_list;have f5:=AutoSeq1.sub_list_tuple;have hz':(items++items2).size<=sizeLine+1:=by rw[Array.size_append];exact hs2
  wp_walk using(wpAny_updateSeq hl rfl (hz:=hs1) (_hz':=hz')),AutoSeq1.wpAny_loadPart' hl,AutoSeq1.wpAny_loadPart' hb;exact⟨_,rfl,h⟩
section
variable{X:Cx}
inductive wK(K:Zx) (x:V)(vs:List V)(H:Hp)(Q:VK):Prop
 |mk:∀l b xs zs,(x=.ref l)->(vs=[.ref b])->(H l=some (.lst xs))->(bO K H b zs)->(xs.length+zs.length<=sizeLine)->(Q .aU (upd H l (.lst (xs++zs))))->wK K x vs H Q
def zH (K:Zx):V->List V->Hp->VK->Prop:=λx vs H Q=>wK K x vs H Q
def D6:vj X "list.extend" (zH X.K):=by
 intro pins s U H x vs v us Q I rx rv h;obtain⟨l,b,xs,zs,rfl,rfl,hH,hB,hz,q⟩:=h;cases rx;obtain⟨u,rfl,ru⟩:=rv.one;cases ru;obtain⟨z,its,n,r,hl,e⟩:=I.vM hH;obtain⟨its2,r2,p2,_⟩:=I.tuple hB;obtain⟨⟨cls2,dd2,data2,sl2⟩,e2,hc2,n2,hd2⟩:=id p2;simp only at hc2 hd2;subst hc2 hd2;have hl2:=r2.length;have hsz:its.toArray.size+its2.toArray.size<=sizeLine:=by rw[VM,VM];lia
 have hlong:¬(!its.toArray.isEmpty&&Builtin.List.listTooLong (its.toArray.size+its2.toArray.size))=true:=by rw[nX hsz,XY];exact VV
 refine XD F.slot_list_extend ⟨_,e,rfl⟩ F.entry_list_extend (F.args_list_extend_2 _ _)
  (yR l its.toArray n b its2.toArray n2 dd2 sl2 hlong (by rw[VM];lia) (by lia)) ⟨e,e2,?_⟩
 refine⟨.aU,_,I.vW (its':=its++its2) hH e (by simp) (r.append r2) ?_,rfl,q⟩;rw[VH];lia
end
end L2
namespace Dv
open PySem L2 PySem.W
def Dm:DM:=λds args P=>match args with
 |[.tuple es]=>ds.length+es.length<=sizeLine/\P (ds++es) .none
 |_=>False
def Jx:xg K Dm (zH K):=by
 intro H Hm a xs ds vs args P Q ha _ s r ra h q;unfold Dm at h;split at h
 .obtain⟨x,rfl,h1⟩:=cR ra;cases h1 with
  |@tup b zs _ b1 r2=>exact⟨a,b,xs,zs,rfl,rfl,ha,bO.of (s _ _ b1),by rw[r.len,r2.len];exact h.1,q _ _ _ _ h.2 (r.app r2) .aU⟩
 exact h.elim
def HG (k:Kd)(v:PyData)(Q:A00->Prop):Prop:=match k,v with
 |.ow _,.list es=>Q es
 |_,_=>False
def zN (as:List Arg)(us:A00)(E:En)(k:Kd)(v:PyData):Option En:=dg ((cL as).all (gm E)||(flat k v&&us.all (flat (.ow false)))) (some E) (ic (cL as) E)
noncomputable def qb (sp:bz)(as1:List Arg)(d0:DE)(as2 as:List Arg):DE:=λx E Q=>gH as1 x E λE1 os1=>d0 x E1 λE2 k v=>HG k v λes=>gH as2 x E2 λE3 os2=>ay (cg as1 E3 os1) λds1=>ay (cg as2 E3 os2) λds2=>sp (ds1++.list es::ds2) (λus k v=>ay (zN as us E3 k v) λE4=>Q E4 k v) x
def Jw:qb sp as1 d0 as2 as x (o::E) Q=gH as1 x (o::E) λE1 os1=>d0 x E1 λE2 k v=>HG k v λes=>gH as2 x E2 λE3 os2=>ay (cg as1 E3 os1) λds1=>ay (cg as2 E3 os2) λds2=>sp (ds1++.list es::ds2) (λus k v=>ay (zN as us E3 k v) λE4=>Q E4 k v) x:=rfl
def Rh{p:Bool}:HG (.ow p) (.list es) Q=Q es:=rfl
def Pw:zN as us (o::E) k v=dg ((cL as).all (gm (o::E))||(flat k v&&us.all (flat (.ow false)))) (some (o::E)) (ic (cL as) (o::E)):=rfl
def Rw(h:HG k v Q):∃p es,k=.ow p/\v=.list es/\Q es:=by unfold HG at h;split at h;{exact⟨_,_,rfl,rfl,h⟩};exact h.elim
section
variable{K:Frag}
theorem Got.mono{U:St}{Hm Hm':Hp}{as:List Arg}{os:List (Option PyData)}{vs:List V}(s:ah Hm Hm')(G:Got K U Hm as os vs):Got K U Hm' as os vs:=by
 induction G with
 |nil=>exact .nil
 |pk h _ ih=>exact .pk h ih
 |ev r _ ih=>exact .ev (r.mono s) ih
def GL(h:Ag K H Hm ms vs2 ds2 as):av K Hm vs1 ds1->Ag K H Hm (List.replicate vs1.length false++ms) (vs1++vs2) (ds1++ds2) as:=by
 induction ds1 generalizing vs1 with
 |nil=>intro r;cases r;exact h
 |cons d ds ih=>intro r;cases r with|cons a b=>exact .sh a (ih b)
def Ob(r:av K Hm vs ds):Ag K H Hm (List.replicate vs.length false) vs ds []:=by have h:=GL (Ag.nil (K:=K) (H:=H) (Hm:=Hm)) r;rwa[W9,W9,W9]at h
def BS{U:St}{Hm:Hp}{as:List Arg}{os:List (Option PyData)}{vs:List V}(G:Got K U Hm as os vs):vs.length=as.length:=by
 induction G with
 |nil=>rfl
 |pk _ _ ih=>exact congrArg (·+1) ih
 |ev _ _ ih=>exact congrArg (·+1) ih
def Gh.put (g:Gh)(a:Addr)(o:HO):Gh:={ H0:=upd g.H0 a o,dZ:=λb=>if b=a then none else g.dZ b,pins:=g.pins }
def Rl.beside{F:Nat->A03}{a:Addr}(R:Rl K g E U H Hm F)(ha:H a=some o)(hm:Hm a=none)(nf:∀i,a∉F i)(h0:g.H0 a=none):Rl K (g.put a o) E U H Hm F where
 len:=R.len
 sub:=R.sub
 slot:=R.slot
 off:=R.off
 aX:=R.aX
 aD:=R.aD
 fr:=λp u hp hu=>by
  by_cases c:p=a
  .subst c
   replace hu:upd g.H0 p o p=some u:=hu
   rw[aq]at hu;cases hu;exact ha
  .replace hu:upd g.H0 a o p=some u:=hu
   rw[aj c]at hu;exact R.fr p u hp hu
 new:=λi b hb=>by
  rcases R.new i b hb with z|z
  .exact .inl z
  .exact .inr ((aj λy=>nf i (by rw[<-y];exact hb)).trans z)
 pin:=R.pin
 old:=λb hb=>by
  show OE (Hm b) (if b=a then none else g.dZ b)
  by_cases c:b=a
  .rw[if_pos c,c,hm];exact .rfl'
  .rw[if_neg c];exact R.old b (by replace hb:upd g.H0 a o b≠none:=hb;rwa[aj c]at hb)
def Rl.LK{F:Nat->A03}{a:Addr}(R:Rl K (g.put a (.lst xs)) E U H Hm F)(nM:a∉g.M)(h0:g.H0 a=none) : H a=some (.lst xs)/\Hm a=none/\(∀i,a∉F i)/\Rl K g E U (λb=>if b=a then none else H b) Hm F:=by
 have ha:H a=some (.lst xs):=R.fr a _ nM aq;have hm:Hm a=none:=by have h:=R.old a (by show upd g.H0 a (.lst xs) a≠none;rw[aq];exact λz=>nomatch z);refine h.off ?_ R.sub ha iM;show(if a=a then none else g.dZ a)=none;exact if_pos rfl
 have nf:∀i,a∉F i:=λi z=>by rcases R.new i a z with y|y;{exact nM y};replace y:upd g.H0 a (.lst xs) a=none:=y;rw[aq]at y;cases y
 have nF:∀{i b},b∈F i->b≠a:=λh z=>nf _ (z▸h);refine⟨ha,hm,nf,{ len:=R.len,sub:=λb o e=>?_,slot:=λi k d e=>?_,off:=R.off,aX:=λi b hb=>?_,aD:=R.aD,fr:=λp u hp hu=>?_,new:=λi b hb=>?_,pin:=R.pin,old:=λb hb=>?_ }⟩;{show(if b=a then none else H b)=some o;rw[if_neg λz=>by rw[z,hm]at e;cases e];exact R.sub b o e};{obtain⟨v,h1,h2⟩:=R.slot i k d e;exact⟨v,h1,h2.step (ah.refl _) λb hb=>if_neg (nF hb)⟩};{obtain⟨u,hu,nt⟩:=R.aX i b hb;exact⟨u,(if_neg (nF hb)).trans hu,nt⟩}
 .have c:p≠a:=λz=>by rw[z,h0]at hu;cases hu
  exact(if_neg c).trans (R.fr p u hp ((aj c).trans hu))
 .rcases R.new i b hb with z|z;{exact .inl z};exact .inr ((aj (nF hb)).symm.trans z)
 have c:b≠a:=λz=>hb (by rw[z,h0]);have h:=R.old b (by show upd g.H0 a (.lst xs) b≠none;rwa[aj c]);have e:(g.put a (.lst xs)).dZ b=g.dZ b:=if_neg c;rwa[e]at h
end
section
variable{X:Cx}{Ex:XK}{Y:A07}
def Lb(h:pV X es1 U H λvs1 H1=>pV X es2 U H1 λvs2 H2=>Q (vs1++vs2) H2):pV X (es1++es2) U H Q:=by
 induction es1 generalizing H Q with
 |nil=>exact h
 |cons e es ih=>exact λpins s I=>aM (h pins s I) λv s1 ⟨y,H1,I1,r1,w⟩=>⟨y,H1,I1,r1,ih w⟩
def IE{x:Str}{k:Nat}{ps:A09}{sp:bz}{p pos:Pos}{e0:Expr}{es1 es2:A05}{d0:DE}{as1 as2:List Arg}(F:bG X.prog X.w X.K X.mg X.base k x ps (bS X.mg X.K (List.replicate es1.length false++true::List.replicate es2.length false) sp))(hp:Passes (dS X.prog X.w) X Ex)(hr:cW k X.A)(hg:Gl X x)(hd:(x==("__debug__":Str))=false){e:Expr}{es:A05}(hes:e::es=es1++e0::es2)(ns:(e::es).all noStar=true)(S1:aJ X Ex Y es1 as1)(S0:SE X Ex Y e0 d0)(S2:aJ X Ex Y es2 as2):SE X Ex Y (.Call (.Name x p) (e::es) [] pos) (qb sp as1 d0 as2 (as1++as2)):=by
 intro g xc E U H Hm Fo P Q hx R h q;obtain⟨f,fd,h1,h2,h3,h4⟩:=F;refine WE.of (AR (E:=Ex) h4 hr hg h1 h2 h3 .nil hp (dJ ns) hd (aG (by rw[VJ,V9]at ns;exact ns.1)) (fE (by rw[VJ,V9]at ns;exact ns.2))) ?_;rw[hes];refine Lb ?_;refine iS hx S1 R h λE1 os1 vs1 H1 Hm1 F1 p1 R1 s1 G1=>?_;refine S0 g xc E1 U H1 Hm1 F1 _ _ hx R1 p1 λE2 k v u H2 Hm2 F2 fp p2 R2 s2 T=>?_;obtain⟨b,es',rfl,rfl,p2⟩:=Rw p2;obtain⟨own,toff,tdis,tnew⟩:=T;cases own with
 |@ow _ a xs _ ha hxs=>
 have hm:=toff a V3;have nf:=tdis a V3;have h0:=tnew a V3;have nM:a∉g.M:=λz=>by obtain⟨y,hy,rfl⟩:=V8.mp z;exact nf y.1 (by rw[R2.yT hy];exact V3)
 have hx':XL X Ex xc (g.put a (.lst xs)):=λc d C b H' hC hxc fr hb hn=>by
  replace hn:upd g.H0 a (.lst xs) b=none:=hn;have nb:b≠a:=λz=>by rw[z,aq]at hn;cases hn
  exact hx c d C b H' hC hxc (λp o hp ho=>fr p o hp (by
   show upd g.H0 a (.lst xs) p=some o;rw[aj λz=>by rw[z,h0]at ho;cases ho];exact ho)) hb (by rwa[aj nb]at hn)
 refine iS hx' S2 (R2.beside ha hm nf h0) p2 λE3 os2 vs2 H3 Hm3 F3 p3 R3 s3 G2=>?_;obtain⟨ha3,hm3,nf3,R4⟩:=R3.LK nM h0;rw[<-bq,dR]at p3;obtain⟨ds1,f1,p3⟩:=p3;rw[<-bq,dR]at p3;obtain⟨ds2,f2,p3⟩:=p3;have off:∀c∈(cL (as1++as2)).flatMap F3,Hm3 c=none:=λc hc=>by obtain⟨i,_,h⟩:=W2.mp hc;exact R4.off i c h
 have up:=fP (Hm:=Hm3) (H:=λb=>if b=a then none else H3 b) off;have pin:∀(as:List Arg),(∀i∈cL as,i∈cL (as1++as2))->∀i∈cL as,∀c∈F3 i,lend Hm3 (λb=>if b=a then none else H3 b) ((cL (as1++as2)).flatMap F3) c=(if c=a then none else H3 c):=λas hs i hi c hc=>cV (W2.mpr ⟨i,hs i hi,hc⟩);have pk1:∀{as bs:List Arg}{i:Nat},i∈cL as->i∈cL (as++bs):=by
  intro as bs i;induction as with
  |nil=>intro h;cases h
  |cons y as ih=>
   cases y with
   |pk j=>intro h;rcases VB.mp h with rfl|h;{exact V3};exact VA _ (ih h)
   |ev d=>exact ih
 have pk2:∀{as bs:List Arg}{i:Nat},i∈cL bs->i∈cL (as++bs):=by
  intro as bs i;induction as with
  |nil=>exact id
  |cons y as ih=>
   cases y with
   |pk j=>exact λh=>VA _ (ih h)
   |ev d=>exact ih
 have r1:=kM R4 up (G1.mono (s2.trans s3)) f1 (pin _ λ_=>pk1);have r2:=kM R4 up G2 f2 (pin _ λ_=>pk2);have lo:lend Hm3 (λb=>if b=a then none else H3 b) ((cL (as1++as2)).flatMap F3) a=none:=by
  rw[bV λz=>by
   obtain⟨i,_,h⟩:=W2.mp z;exact nf3 i h]
  exact hm3
 have sb:ah (lend Hm3 (λb=>if b=a then none else H3 b) ((cL (as1++as2)).flatMap F3)) H3:=λc o e=>by have e2:=gn R4.sub c o e;replace e2:(if c=a then none else H3 c)=some o:=e2;split at e2;{cases e2};exact e2
 have l1:vs1.length=es1.length:=by
  have:∀{es:A05}{as:List Arg},aJ X Ex Y es as->es.length=as.length:=λS=>by
   induction S with
   |nil=>rfl
   |pk _ _ _ ih=>exact congrArg (·+1) ih
   |ev _ _ ih=>exact congrArg (·+1) ih
  rw[BS G1,this S1]
 have l2:vs2.length=es2.length:=by
  have:∀{es:A05}{as:List Arg},aJ X Ex Y es as->es.length=as.length:=λS=>by
   induction S with
   |nil=>rfl
   |pk _ _ _ ih=>exact congrArg (·+1) ih
   |ev _ _ ih=>exact congrArg (·+1) ih
  rw[BS G2,this S2]
 have ag:Ag X.K H3 (lend Hm3 (λb=>if b=a then none else H3 b) ((cL (as1++as2)).flatMap F3)) (List.replicate vs1.length false++true::List.replicate vs2.length false) (vs1++.ref a::vs2) (ds1++.list es'::ds2) [a]:=GL (.mu ha3 (((hxs.mono s3).mono up)) lo (by simp) (Ob r2)) r1;rw[l1,l2]at ag;show bS X.mg X.K _ sp ((vs1++.ref a::vs2)++[]) H3 Q Ex;rw[W9];refine⟨_,_,_,_,xc,sb,ag,p3,λus k r u H' Hm' fp p4 sM sS fr old bk o new=>?_,λc d C b H' hC hxc fr hb hn=>?_⟩
 .replace p4:ay (zN (as1++as2) us E3 k r) λE4=>P E4 k r:=p4;rw[<-bq]at p4;obtain⟨E4,hE,p4⟩:=p4;unfold zN at hE;rw[bW,om]at hE;have hn:∀{c},(if c=a then none else H3 c)≠none->c≠a/\H3 c≠none:=λ{c} h=>by by_cases z:c=a;{rw[if_pos z]at h;exact absurd rfl h};rw[if_neg z]at h;exact⟨z,h⟩
  obtain⟨Hm'',F'',R'',s'',T⟩:=uR R4 (E2:=E3) (E3:=E4) (is:=cL (as1++as2)) (ix:=[]) (us:=us) (λ_ z=>nomatch z) (λ_ z=>nomatch z) rfl (λ_ _=>rfl) (λ_ z=>nomatch z) (t9 hE) sM sS
   (λp w hp hw=>fr p w (λz=>by rw[V7.mp z,if_pos rfl]at hw;cases hw) (by
    by_cases z:p=a
    .rw[if_pos z]at hw;cases hw
    .rw[if_neg z]at hw;exact hw)) (λc _ hc=>old c (λz=>(hn hc).1 (V7.mp z)) (hn hc).2) o (λc hc=>by
     obtain⟨n1,n2⟩:=new c hc;exact⟨by show(if c=a then none else H3 c)=none;rw[n1];split<;>rfl,n2⟩)
  exact q _ _ _ _ _ _ _ _ p4 R'' (s1.trans (s2.trans (s3.trans s''))) T
 refine hx c d C b H' hC hxc (λp o hp ho=>fr p o (λz=>?_) (R3.fr p o hp ?_)) hb ?_;{rw[V7.mp z,h0]at ho;cases ho};{show upd g.H0 a (.lst xs) p=some o;rw[aj λz=>by rw[z,h0]at ho;cases ho];exact ho};have n:=R3.d7 hn;replace n:upd g.H0 a (.lst xs) b=none:=n;rwa[aj λz=>by rw[z,ha3]at hn;cases hn]at n
def Fg{k k':Nat}{x:Str}{ps:A09}{sp:bz}{p pos:Pos}{e0 e:Expr}{es es1 es2:A05}{d0:DE}{as1 as2:List Arg}{ms:A04}(F:bG X.prog X.w X.K X.mg X.base k x ps (bS X.mg X.K ms sp))(hp:Passes (dS X.prog X.w) X Ex)(hr:cW k' X.A)(S1:aJ X Ex Y es1 as1)(S0:SE X Ex Y e0 d0)(S2:aJ X Ex Y es2 as2)(hes:e::es=es1++e0::es2:=by rfl)(hms:ms=List.replicate es1.length false++true::List.replicate es2.length false:=by rfl){as:List Arg}(ha:as=as1++as2:=by rfl)(hk:k<=k':=by decide)(hg:Gl X x:=by rfl)(hd:(x==("__debug__":Str))=false:=by decide)(ns:(e::es).all noStar=true:=by rfl) : SE X Ex Y (.Call (.Name x p) (e::es) [] pos) (qb sp as1 d0 as2 as):=by subst hms ha;exact IE F hp (hr.mono hk) hg hd hes ns S1 S0 S2
end
end Dv
namespace SM
open PySem PySem.W PyProof.Rows
section
variable{prog:Program}{w:World}{A:Around}{E:Zp}{s:Shared}{es:Zt}{ep:Nat}{v d:Addr}
def qF.at(D:qF h d es ep)(k:∀o,h.get? d=some o->h'.get? d=some o):qF h' d es ep:=by obtain⟨o,ho,r⟩:=D;exact⟨o,k o ho,r⟩
def FQ(hh:A.handled=none)(I d:Addr)(ne:d≠I)(es:Zt) (ep:Nat) : Walks prog w A I [I,d] [I] es.size (λi v=>∃e,es[i]?=some e/\v=e.val) (λi h=>h.IsValIter I d i es.size ep/\qF h d es ep) where
 sub:=λb hb=>by
  simp at hb;simp[hb]
 frame:=λi h h' st hk=>⟨st.1.at λo e=>hk I (by simp) o e,st.2.at λo e=>hk d (by simp) o e⟩
 item:=λi s Q E hi st hQ=>by
  refine HR st.1 st.2 (YH hi) λh' hit' sb=>?_
  exact hQ _ h' s.toks ⟨_,YH hi,rfl⟩ ⟨hit',st.2.at λo e=>by rw[sb.2 d ne];exact e⟩ λb o hb e=>by rw[sb.2 b (λz=>hb (by simp[z]))];exact e
 done:=λs Q E st hQ=>Ao hh st.1 st.2 (V5 _) λh' eb=>hQ h' s.toks λb o hb e=>eb b o (λz=>hb (by simp[z])) e
 self:=λi s Q E st hQ=>wpAny_pyIter_valiter st.1 hQ
def Ih(v d:Addr)(es:Zt) (ep:Nat):KdlSrc prog w "dict_values" v d es.size (λi x=>∃e,es[i]?=some e/\x=e.val) (λh=>h.IsValuesView v d/\qF h d es ep) where
 type:=λs D=>D.1.typeIs
 there:=λh D=>by
  obtain⟨⟨o,ho,_⟩,o2,ho2,_⟩:=D;exact⟨VC ho,VC ho2⟩
 keep:=λh h' D hk=>by
  obtain⟨⟨o,ho,r⟩,D2⟩:=D;exact⟨⟨o,hk v (.inl rfl) o ho,r⟩,D2.at λo e=>hk d (.inr rfl) o e⟩
 notList:=by decide
 notTuple:=by decide
 hint:=λA E s Q D q=>kdl_hint_values D.1.typeIs q
 iter:=λA s hh D=>by
  refine⟨_,_,λE Q q=>HH D.1 D.2 q,FQ hh _ d ?_ es ep,⟨⟨_,W8 _ rfl,rfl,rfl⟩,D.2.at λo e=>VW _ e⟩⟩
  obtain⟨o,ho,_⟩:=D.2;exact VQ (VC ho)
end
end SM
namespace L2
open PySem PySem.Spec PyProof.Rows
section
variable{X:Cx}
theorem wR{α β:Type}{F:α->β->Prop}:∀{l:List α}{m:List β},l.length=m.length->(∀(j:Nat) x y,l[j]?=some x->m[j]?=some y->F x y)->Paired F l m
 |[],[],_,_=>.nil
 |[],_::_,h,_=>nomatch h
 |_::_,[],h,_=>nomatch h
 |x::l,y::m,h,k=>.cons (k 0 x y rfl rfl) (wR (Nat.succ.inj h) λj a b e1 e2=>k (j+1) a b e1 e2)
inductive OY(Q:VK) (x:V)(H1:Hp):Prop
 |mk:∀a kvs,(x=.ref a)->(H1 a=some (.dT kvs))->(∀l,H1 l=none->Q (.ref l) (upd H1 l (.lst (kvs.map (·.2)))))->OY Q x H1
def Vm (tl:TE):TE:=λU H Q=>tl U H λx H1=>OY Q x H1
def Jm{apos cpos:Pos}(hc:X.calm=true)(hg:Gl X "list")(hm:X.mg "list"=none)(hl:PE X l tl)(hbase:attributeBase l "values" X.env (eval l X.env)=eval l X.env:=by rfl)(hline:(apos.endLine==cpos.line)=true:=by rfl) : PE X (.Call (.Name "list" p) [.Call (.Attribute l "values" apos) [] [] cpos] [] pos) (Vm tl):=by
 intro pins s U H Q I h;refine Call_ (jP I hg hm XM (Xm ?_ rfl rfl));show wpAny _ _ (spliced ((false,eval (.Call (.Attribute l "values" apos) [] [] cpos) X.env)::backTo pos [])) _ _ s;refine Calls.spliced_cons ?_;refine wpAny_Call_method0_late hbase hline (aM (hl pins s U H _ I h) λv s1 ⟨x,H1,I1,r1,q1⟩=>?_);obtain⟨a,kvs,e,ha,q⟩:=q1;subst e;cases r1;obtain⟨z,hd,xs,rel,o,es,ep,h1,h2,h3,h4,h5⟩:=(show bE X.prog X.w H1 s1.heap a (.dT kvs)from I1.hok a _ ha);refine⟨"dict","dict.values",F.plainAttrs_dict,F.slot_dict_values,F.type_dict_values,⟨o,h1,h2.1⟩,λb e=>?_,ZM rfl (PySem.evalArgs_none (SM.Mc hd ⟨o,h1,h2,h3⟩ ?_))⟩;{cases e;exact⟨o,h1,h2.2.1⟩};refine Calls.spliced_nil ?_;have el:es.size=kvs.length:=by rw[<-X6,h4,V4,Paired.length rel]
 have kp1:∀b u,s1.heap.get? b=some u->(s1.heap.push { cls:=.type "dict_values",data:=.fields #[.ref a] }).get? b=some u:=λb u e=>VW _ e;refine PySem.W.kdl_call (s:={ s1 with heap:=s1.heap.push { cls:=.type "dict_values",data:=.fields #[.ref a] } }) (SM.Ih s1.heap.objs.size a es ep) (I1.ok.hd hc) ⟨⟨_,W8 _ rfl,rfl,rfl⟩,⟨o,kp1 _ _ h1,h2,h3⟩⟩ (by lia) λh' tk acc c kp hS its=>?_;obtain⟨z1,z2⟩:=its;have rv:Vals (kvs.map (·.2)) acc.toList:=by refine wR (by rw[V4];show kvs.length=acc.size;lia) λj x y hx hy=>?_;rw[Xc]at hy;obtain⟨en,e1,rfl⟩:=z2 j y hy;rw[<-Xc,h4,VE]at e1;rw[VE]at hx;obtain⟨kv,e3,rfl⟩:=XX.mp hx;obtain⟨k,e4,r⟩:=wM rel e3;rw[e4]at e1;cases e1;exact r.2.2
 have I2:Inv X pins U H1 { s1 with heap:=s1.heap.push { cls:=.type "dict_values",data:=.fields #[.ref a] } }:=I1.kept (t':=s1.toks) kp1;exact⟨.ref _,_,I2.laid (t':=tk) kp (V5 _) (o:=.lst (kvs.map (·.2))) ⟨by rw[V4];exact z,acc.toList,c,rv,by simpa using hS⟩,rfl,q _ (I2.hok.fresh (V5 _))⟩
end
end L2
namespace Dv
open PySem L2 PySem.W
def NW (E:En) (i:Nat):Bool:=match E[i]? with
 |some (some (.dt _,.dict ((.none,.none)::_)))=>true
 |_=>false
def F9 (kvs:Zn)(k v:PyData):Zn:=match cN kvs k with
 |some _=>kvs
 |none=>kvs++[(k,v)]
noncomputable def C9 (i jc:Nat)(e:DE):DE:=λx E Q=>NW E i=true/\∃kc ks,E[jc]?=some (some (kc,.list ks))/\kc.rd=true/\ks.all mj=true/\e x E λE2 k v=>k.fz=true/\∃kvs,E2[i]?=some (some (.dt false,.dict ((.none,.none)::kvs)))/\kvs.length<sizeLine/\Q (E2.set i (some (.dt false,.dict ((.none,.none)::F9 kvs (.tuple ks) v)))) .sh ((cN kvs (.tuple ks)).getD v)
def M1 (i:Nat):DE:=λ_ E Q=>∃p kvs,E[i]?=some (some (.dt p,.dict ((.none,.none)::kvs)))/\Q E (.ow false) (.list (kvs.map (·.2)))
section
variable{K:Frag}
theorem eK.vals:∀{kvs:List (List Key×V)}{ds:Zn},eK K H kvs ds->av K H (kvs.map (·.2)) (ds.map (·.2))
 |_,_,.nil=>.nil
 |_,_,.cons r t=>.cons r t.vals
end
section
variable{X:Cx}{Ex:XK}{Y:A07}
def Fw{tp:Addr}{F:Nat->A03}(R:Rl K g E U H Hm F)(htp:H tp=none):Rl K g E U (upd H tp (.tup xs)) (upd Hm tp (.tup xs)) F/\ah Hm (upd Hm tp (.tup xs)):=by
 have n:=gW R.sub htp;have s2:=aQ (o:=.tup xs) n;refine⟨R.grow (aQ htp) s2 (λb o e=>?_) (λi a ha=>?_) λa ha=>.inl (aj λz=>R.l5 ha (z▸htp)),s2⟩;{by_cases c:b=tp;{rw[c,aq]at e⊢;exact e};rw[aj c]at e⊢;exact R.sub _ _ e};rw[aj λz=>by
  obtain⟨u,hu,_⟩:=R.aX i a ha;rw[z,htp]at hu;cases hu]
 exact R.off i a ha
def Qw{i j jc jj:Nat}(hu:X.A.units+64<cLine)(hg:Gl X "tuple")(hm:X.mg "tuple"=none)(hv:PE X (.Name x p) (lQ j))(hj:Y[j]?=some i)(hc:PE X (.Name c cp) (lQ jj))(hjc:Y[jj]?=some jc)(h0:SE X Ex Y e d)(ns:noStar e=true)(l1:(ap.endLine==cpos.line)=true):SE X Ex Y (.Call (.Attribute (.Name x p) "setdefault" ap) [.Call (.Name "tuple" tp) [.Name c cp] [] cpos1,e] [] cpos) (C9 i jc d):=by
 intro g xc E U H Hm F P Q hx R h q;obtain⟨hd,kc,ks,ec,hkc,hks,pq⟩:=h;obtain⟨p0,kv0,ei⟩:∃p kvs,E[i]?=some (some (.dt p,.dict ((.none,.none)::kvs))):=by unfold NW at hd;split at hd;{rename_i p kvs e;exact⟨p,kvs,e⟩};cases hd
 obtain⟨v0,hv0,o0⟩:=R.slot i _ _ ei;obtain⟨a,kvs0,rfl,ha0⟩:∃a kvs,v0=.ref a/\H a=some (.dT kvs):=by
  generalize F i=fi at o0;cases o0 with
  |dt ha _=>exact⟨_,_,rfl,ha⟩
 obtain⟨vc,hvc,oc⟩:=R.slot jc _ _ ec;have rc:Rp X.K H vc (.list ks):=oc.rp hkc R.sub λ_ _=>rfl;obtain⟨k,rfl⟩:=jM hks;cases rc with
 |@lst ca xs _ hca rxs=>
 have exs:=tX rxs;subst exs;refine WE.of (xU PySem.F.plainAttrs_dict PySem.F.slot_dict_setdefault PySem.F.type_dict_setdefault (LO (by lia)) hv (bg (iI pC hg hm YS (bg hc dh)) (bg aV dh (aG ns))) rfl (by rw[aG (by rfl),aG ns];rfl) l1 (aG (by rfl)) ?_) ?_;{exact fE (by rw[VJ,ns];rfl)};refine⟨_,bR hj hv0,.inr (.inr (.inl ⟨rfl,.inr ⟨_,ha0⟩⟩)),_,bR hjc hvc,ca,_,rfl,.inl ⟨hca.sq,λtp htp=>?_⟩⟩;obtain⟨R1,sm1⟩:=Fw (xs:=k.map kV) R htp;refine h0 g xc E U _ _ F _ _ hx R1 pq λE2 kd v u H2 Hm2 F2 fp p2 R2 s2 T=>?_;obtain⟨hk,kvd,e2,hl,pq⟩:=p2;obtain⟨Hm3,s3,R3,rv⟩:=T.dX R2 hk;have htp3:H2 tp=some (.tup (k.map kV)):=R3.sub _ _ (s3 _ _ (s2 _ _ aq));obtain⟨v',F3,hv3,R4,T4⟩:=R3.move e2 rfl;rw[hv0]at hv3;cases hv3;generalize hfi:F2 i=fi at T4;obtain⟨own,toff,tdis,tnew⟩:=T4;have li:=aR e2;have op:bI (E2.set i none) i=true:=by unfold bI;rw[aC li]
 cases own with
 |@dt _ _ kvs _ ha tvs=>
 refine⟨a,tp,kvs,k,u,rfl,rfl,ha,htp3,by rw[tvs.len];exact hl,?_⟩;have sm:=sm1.trans (s2.trans s3);rcases tvs.val (k:=k)with⟨z1,z2⟩|⟨w,d',z1,z2,rw'⟩;{rw[z2];have A1:pT g F3 H2 Hm3 [a]:=⟨λb hb=>by rw[V7.mp hb];exact⟨_,ha,uS⟩,toff,tdis,tnew⟩;have R5:=R4.RD (o:=.dT (kvs++[(k,u)])) A1;have T6:Tm X.K g F3 (upd H2 a (.dT (kvs++[(k,u)]))) Hm3 (.dt false) (.ref a) (.dict ((.none,.none)::(kvd++[(.tuple (k.map bJ),v)]))) [a]:=⟨.dt aq (tvs.app k rv),toff,tdis,tnew⟩;have R7:=R5.put T6 op;rw[YX,set_same hv0]at R7;unfold F9 at pq;rw[z1]at pq;exact q _ _ _ _ _ _ _ [] pq R7 sm (Tm.sh rv)};rw[z1];unfold F9 at pq;rw[z2]at pq;have T6:Tm X.K g F3 H2 Hm3 (.dt false) (.ref a) (.dict ((.none,.none)::kvd)) [a]:=⟨.dt ha tvs,toff,tdis,tnew⟩;have R7:=R4.put T6 op;rw[YX,set_same hv0]at R7;exact q _ _ _ _ _ _ _ [] pq R7 sm (Tm.sh rw')
def UE(j jj:Nat){i jc:Nat}(hu:X.A.units+64<cLine)(hm:X.mg "tuple"=none)(h0:SE X Ex Y e d)(hg:Gl X "tuple":=by rfl)(hN:X.N[j]?=some x:=by rfl)(hv:gU X.env.scope x:=by nofun)(hj:Y[j]?=some i:=by rfl)(hNc:X.N[jj]?=some c:=by rfl)(hvc:gU X.env.scope c:=by nofun)(hjc:Y[jj]?=some jc:=by rfl)(ns:noStar e=true:=by rfl)(l1:(ap.endLine==cpos.line)=true:=by rfl)(b1:(x==("__debug__":Str))=false:=by decide)(b2:(x==("__classdict__":Str))=false:=by decide)(b3:(c==("__debug__":Str))=false:=by decide)(b4:(c==("__classdict__":Str))=false:=by decide) : SE X Ex Y (.Call (.Attribute (.Name x p) "setdefault" ap) [.Call (.Name "tuple" tp) [.Name c cp] [] cpos1,e] [] cpos) (C9 i jc d):=Qw hu hg hm (cH hN hv b1 b2) hj (cH hNc hvc b3 b4) hjc h0 ns l1
def Vd(j:Nat){i:Nat}(hm:X.mg "list"=none)(hc:X.calm=true:=by rfl)(hg:Gl X "list":=by rfl)(hN:X.N[j]?=some x:=by rfl)(hv:gU X.env.scope x:=by nofun)(hj:Y[j]?=some i:=by rfl)(hline:(apos.endLine==cpos.line)=true:=by rfl)(b1:(x==("__debug__":Str))=false:=by decide)(b2:(x==("__classdict__":Str))=false:=by decide) : SE X Ex Y (.Call (.Name "list" lp) [.Call (.Attribute (.Name x p) "values" apos) [] [] cpos] [] pos) (M1 i):=by
 intro g xc E U H Hm F P Q hx R h q;obtain⟨p0,kvd,ei,pq⟩:=h;obtain⟨v0,hv0,o0⟩:=R.slot i _ _ ei;refine WE.of (Jm hc hg hm (cH hN hv b1 b2) rfl hline) ?_;generalize F i=fi at o0;cases o0 with
 |@dt _ a kvs _ ha tvs=>
 refine⟨_,bR hj hv0,a,kvs,rfl,ha,λl hl=>?_⟩;have s2:=aQ (o:=.lst (kvs.map (·.2))) hl;have R2:=R.grow (H':=upd H l (.lst (kvs.map (·.2)))) s2 (ah.refl _) (R.sub.trans s2) R.off λ_ _=>.inl rfl;refine q _ _ _ _ _ Hm F [l] pq R2 (ah.refl _) ⟨.ow aq tvs.vals,λb hb=>?_,λb hb i=>?_,λb hb=>?_⟩;{rw[V7.mp hb];exact R.g9 hl};{rw[V7.mp hb];exact R.fresh hl};rw[V7.mp hb];exact R.d7 hl
end
def rE:DS:=λ_ _=>False
def vm:S1 X Ex st rE:=λ_ _ _ _ _ _ _ _ _ _ p=>p.elim
end Dv
namespace Dv
open PySem L2 PySem.W SM
abbrev Ky:=SM.Ty×SM.Ty
def Qj (kvs:List (Ky×PyData))(k:Ky):Option PyData:=(kvs.find? λx=>decide (x.1=k)).map (·.2)
end Dv
namespace L2
open PySem PySem.Spec PyProof.Rows PySem.W
section
variable{X:Cx}
def G9:b5 X (.builtin "isinstance") (λxs H Q=>∃x t ty ys b,xs=[x,.ref t]/\fG X.K H x (.type ty)/\ty∈["int","list","tuple"]/\H t=some (.tup ys)/\(∀us,Vals ys us->kitAny X.K (.type ty) us=some b)/\Q (.bl b) H):=by
 intro pins s U H xs us Q I r h;obtain⟨x,t,ty,ys,b,rfl,tx,hty,ht,k,q⟩:=h;obtain⟨u1,u2,rfl,ru1,ru2⟩:=r.two;cases ru2;obtain⟨its,rv,p,_⟩:=I.tuple (.inl (.inl ht));obtain⟨o,ho,hc,n,hd⟩:=p;obtain⟨oc,od,odt,osl⟩:=o;dsimp only at hc hd;subst hc hd;have k:=k _ rv;generalize e:Value.type ty=T at tx k;cases tx with
 |int i=>obtain⟨tk,rfl⟩:=ru1;exact kia_tup kitx_int I.dG Wn ho k (λz=>nomatch z) λtk=>⟨.bl b,H,I.tok tk,rfl,q⟩
 |@lst a xs ea=>cases ru1;obtain⟨_,_,n,_,h1⟩:=(show bE X.prog X.w H s.heap a (.lst xs)from I.hok a _ ea);exact kia_tup kitx_list I.dG ⟨_,h1,rfl⟩ ho k (λz=>nomatch z) λtk=>⟨.bl b,H,I.tok tk,rfl,q⟩
 |@dX a ob xs ea=>cases ru1;obtain⟨_,_,_,n,_,h1⟩:=(show bE X.prog X.w H s.heap a (.dX ob (.lst xs))from I.hok a _ ea);exact kia_tup kitx_list I.dG ⟨_,h1,rfl⟩ ho k (λz=>nomatch z) λtk=>⟨.bl b,H,I.tok tk,rfl,q⟩
 |@kl a its n ea=>cases ru1;exact kia_tup kitx_list I.dG ⟨_,I.dG a _ ea,rfl⟩ ho k (λz=>nomatch z) λtk=>⟨.bl b,H,I.tok tk,rfl,q⟩
 |@tup a xs ea=>cases ru1;obtain⟨_,_,_,p⟩:=(show bE X.prog X.w H s.heap a (.tup xs)from I.hok a _ ea);obtain⟨o,h1,h2,_⟩:=p;exact kia_tup kitx_tuple I.dG ⟨o,h1,h2⟩ ho k (λz=>nomatch z) λtk=>⟨.bl b,H,I.tok tk,rfl,q⟩
 |_=>first|(cases e;done)|(cases e;exact absurd hty (by decide))
end
end L2
namespace Dv
open PySem L2 PySem.W
def qZ:DR:=λds P=>match ds with
 |[.int _]=>P .sh (.bool false)
 |[.list _]=>P .sh (.bool true)
 |[.tuple _]=>P .sh (.bool true)
 |_=>False
def MN{i:Int}:qZ [.int i] P=P .sh (.bool false):=rfl
def L3:qZ [.list l] P=P .sh (.bool true):=rfl
def Mq:qZ [.tuple l] P=P .sh (.bool true):=rfl
def Dd (K:Frag):Bool:=["int","list","tuple"].all λt=>kitAny K (.type t) [.type "list",.type "tuple"]==some (eN "list" t||eN "tuple" t)
section
variable{X:Cx}{Ex:XK}{Y:A07}
def RE{k:Nat}(kl:Dd X.K=true)(hm:X.mg "isinstance"=none)(hm2:X.mg "list"=none)(hm3:X.mg "tuple"=none)(S:aJ X Ex Y [a] as)(hg:Gl X "isinstance":=by rfl)(hg2:Gl X "list":=by rfl)(hg3:Gl X "tuple":=by rfl)(ns:noStar a=true:=by rfl):SE X Ex Y (.Call (.Name "isinstance" p) [a,.Tuple [.Name "list" p2,.Name "tuple" p3] k tp] [] pos) (aa qZ as):=by
 refine eV (r:=λvs H Q=>∃v ty b,vs=[v]/\ty∈["int","list","tuple"]/\b=(eN "list" ty||eN "tuple" ty)/\∀t,H t=none->fG X.K (upd H t (.tup [.ty "list",.ty "tuple"])) v (.type ty)/\Q (.bl b) (upd H t (.tup [.ty "list",.ty "tuple"]))) S (λU H Q h=>WE.of (lA G9 hg hm Yw (bg aV (bg (qD (bg (rj (v:=.ty "list") hg2 hm2 XM rfl (by decide) (by decide)) (bg (rj (v:=.ty "tuple") hg3 hm3 YS rfl (by decide) (by decide)) dh))) dh) (aG ns)) (by decide) (by decide) (aG ns) (by rfl)) ?_) ?_;{refine λpins s I=>aM (h pins s I) λv s1 ⟨y,H1,I1,r1,w,ty,b,e,mt,eb,q⟩=>⟨y,H1,I1,r1,?_⟩;cases e;refine⟨by show 2<=sizeLine;decide,λt ht=>?_⟩;refine⟨_,t,ty,_,b,rfl,(q t ht).1,mt,aq,λus hu=>?_,(q t ht).2⟩;obtain⟨u1,u2,rfl,e1,e2⟩:=hu.two;cases e1;cases e2;rw[eb];exact XA (VL.mp kl ty mt)};intro H Hm vs ds P Q s r h q;have go:∀{v:V}{d:PyData}{t:String}{b:Bool},Rp X.K Hm v d->uE d=some t->t∈["int","list","tuple"]->b=(eN "list" t||eN "tuple" t)->P .sh (.bool b)->vs=[v]->∃v ty b,vs=[v]/\ty∈["int","list","tuple"]/\b=(eN "list" ty||eN "tuple" ty)/\∀t,H t=none->fG X.K (upd H t (.tup [.ty "list",.ty "tuple"])) v (.type ty)/\Q (.bl b) (upd H t (.tup [.ty "list",.ty "tuple"])):=λr1 e mt eb h e2=>by refine⟨_,_,_,e2,mt,eb,λt ht=>?_⟩;have st:=aQ (o:=.tup [.ty "list",.ty "tuple"]) ht;refine⟨(KG (s.trans st) r1 e).1,?_⟩;exact bB.sc (bB.up q st) (s.trans st) h (.bl _)
 unfold qZ at h;split at h;{obtain⟨v,rfl,h1⟩:=cR r;exact go h1 rfl (by decide) (by decide) h rfl};{obtain⟨v,rfl,h1⟩:=cR r;exact go h1 rfl (by decide) (by decide) h rfl};{obtain⟨v,rfl,h1⟩:=cR r;exact go h1 rfl (by decide) (by decide) h rfl};exact h.elim
end
section
variable{P:Program}{w:World}{K:Frag}{mg:Zr}{base:Heap}{N:A09}{qual:Str}{scope:Scope}{f:Addr}{cd:Value}{A:Around}{outer:List Env}{s0:Shared}{H0:Hp}{Ex:XK}
def LZ{i:Int}{j1 j3:Nat}(h:∃C,mg x=some (.ref C)/\i8 K C pB "ValueError.__new__" none=true)(hy:∃t,mg y=some (.int i t))(hz:(decide ((Str.empty++a).length<=sizeLine)&&decide (i.natAbs.log2<1920)&&decide ((Str.empty++a++toString i).length<=sizeLine)&&decide ((Str.empty++a++toString i++b).length<=sizeLine))=true:=by decide+kernel)(hg:Gl (fF (dS P w) P w K mg base N qual scope f cd A outer s0 H0 Ex) x:=by rfl)(hg2:Gl (fF (dS P w) P w K mg base N qual scope f cd A outer s0 H0 Ex) y:=by rfl)(hdb:(x==("__debug__":Str))=false:=by decide)(hdb2:(y==("__debug__":Str))=false:=by decide) : S1 (fF (dS P w) P w K mg base N qual scope f cd A outer s0 H0 Ex) Ex (.Raise (some (.Call (.Name x np) [.JoinedStr [.Constant (.str a) j1 p1,.FormattedValue (.Name y yp) (-1) none p2,.Constant (.str b) j3 p3] jp] [] cpos)) none pos) (qd x):=by obtain⟨C,h⟩:=h;obtain⟨t,ht⟩:=hy;simp only[V9,Xx]at hz;obtain⟨⟨⟨z1,z2⟩,z3⟩,z4⟩:=hz;intro g D' E U H Hm F D hx R hp nx rt;refine WS.of (x9 h.2 hg h.1 (bg (Mi (Fv (N2 (vz (v:=.int i) hg2 ht ⟨t,rfl⟩ hdb2) (Fv Np)))) dh) hdb) ⟨z1,i,rfl,z2,z3,z4,z4,by show 1<=sizeLine;decide,λa ha=>?_⟩;exact hx x .none C a _ h.1 hp (λp o hp ho=>aQ ha _ _ (R.fr p o hp ho)) aq (R.d7 ha)
end
def qQ{p:Bool}(o:Own K H Hm (.st p) v (jK d ds es) fp):∃t a b u xs ys,v=.ref t/\fp=[a,b]/\Hm t=some (.tup [u,.ref a,.ref b])/\Rp K Hm u d/\H a=some (.lst xs)/\av K Hm xs ds/\H b=some (.lst ys)/\av K Hm ys es/\a≠b:=by
 unfold jK at o;generalize e:PyData.dict [(PyData.none,PyData.int 7),(d,.none),(.list ds,.none),(.list es,.none)]=D at o;cases o with
 |st _ _ _=>injection e with e;injection e with e _;injection e with _ e;cases e
 |is _=>injection e with e;injection e with e _;injection e with _ e;cases e
 |ps _ _=>injection e with e;injection e with e _;injection e with _ e;cases e
 |@tl _ t a b v d' xs ys ds' es' et r ea r1 eb r2 n=>unfold jK at e;injection e with e;injection e with _ e;injection e with e0 e;injection e with e1 e;injection e with e2 _;injection e0 with e0 _;injection e1 with e1 _;injection e2 with e2 _;injection e1 with e1;injection e2 with e2;subst e0 e1 e2;exact⟨t,a,b,v,xs,ys,rfl,rfl,et,r,ea,r1,eb,r2,n⟩
def Gj:Option (Kd×PyData)->Bool
 |none=>true
 |some (.sh,_)=>true
 |some (k,d)=>flat k d
def M3:Nat->En->Bool
 |0,_::E=>E.all Gj
 |i+1,o::E=>Gj o&&M3 i E
 |_,[]=>true
theorem Bf:∀{i:Nat}{E:En}{j:Nat}{o:Option (Kd×PyData)},M3 i E=true->j≠i->E[j]?=some o->Gj o=true
 |0,_::E,0,o,_,n,_=>absurd rfl n
 |0,_::E,j+1,o,h,_,e=>VL.mp h o (VZ (show E[j]?=some o from e))
 |i+1,p::E,0,o,h,_,e=>by have e:some p=some o:=e;cases e;exact(Bool.and_eq_true_iff.mp h).1
 |i+1,p::E,j+1,o,h,n,e=>Bf (Bool.and_eq_true_iff.mp h).2 (λz=>n (by rw[z])) (show E[j]?=some o from e)
section
variable{K:Frag}{g:Gh}{E E2:En}{U:St}{H H' Hm Hm':Hp}{F:Nat->A03}
def Rl.less(R:Rl K g E U H Hm F){S:Nat->Prop} [DecidablePred S](hl:E2.length=E.length)(h1:∀l,¬S l->E2[l]?=E[l]?)(h2:∀l k d,S l->E2[l]?≠some (some (k,d)))(h3:∀q∈g.pins,¬S q.1):Rl K g E2 U H Hm (λl=>if S l then []else F l) where
 len:=hl.trans R.len
 sub:=R.sub
 slot:=λj k' d' e'=>by
  by_cases c:S j
  .exact absurd e' (h2 j _ _ c)
  .rw[h1 j c]at e';rw[if_neg c];exact R.slot j k' d' e'
 off:=λj a ha=>by
  by_cases c:S j
  .rw[if_pos c]at ha;cases ha
  .rw[if_neg c]at ha;exact R.off j a ha
 aX:=λj a ha=>by
  by_cases c:S j
  .rw[if_pos c]at ha;cases ha
  .rw[if_neg c]at ha;exact R.aX j a ha
 aD:=λj l a g1 g2=>by
  by_cases c:S j
  .rw[if_pos c]at g1;cases g1
  .rw[if_neg c]at g1
   by_cases c':S l
   .rw[if_pos c']at g2;cases g2
   .rw[if_neg c']at g2;exact R.aD j l a g1 g2
 fr:=R.fr
 new:=λj a ha=>by
  by_cases c:S j
  .rw[if_pos c]at ha;cases ha
  .rw[if_neg c]at ha;exact R.new j a ha
 pin:=λq hq=>by
  obtain⟨g1,ds',g2⟩:=R.pin q hq;exact⟨g1,ds',by rw[h1 _ (h3 q hq)];exact g2⟩
 old:=R.old
def JJ{t a b:Addr}(up:ah Hm (lend Hm H [a,b]))(et:Hm t=some (.tup [u,.ref a,.ref b]))(ru:Rp K Hm u d)(ea:H a=some (.lst xs))(rx:av K Hm xs ds)(eb:H b=some (.lst ys))(ry:av K Hm ys es):Rp K (lend Hm H [a,b]) (.ref t) (.tuple [d,.list ds,.list es]):=
 .tup (up _ _ et) (.cons (ru.mono up) (.cons (.lst (.inl (.inl ((cV V3).trans ea))) (rx.mono up)) (.cons (.lst (.inl (.inl ((cV (VA _ V3)).trans eb))) (ry.mono up)) .nil)))
end
noncomputable def zG (i:Nat)(c:DT):DT:=λx E Q=>∃p d ds es,E[i]?=some (some (.st p,jK d ds es))/\p=false/\M3 i E=true/\c x (E.set i (some (.sh,.tuple [d,.list ds,.list es]))) λE' b=>E'=E.set i (some (.sh,.tuple [d,.list ds,.list es]))/\Q E b
def Qo (e:DE):DE:=λx E Q=>e x E λE' k v=>∃p d ds es,k=.st p/\v=jK d ds es/\Q E' .sh (.tuple [d,.list ds,.list es])
noncomputable def KD (i j k:Nat):DE:=λ_ E Q=>∃d ds es,E[i]?=some (some (.sh,d))/\E[j]?=some (some (.ow false,.list ds))/\E[k]?=some (some (.ow false,.list es))/\j≠k/\Q ((E.set j none).set k none) (.st false) (jK d ds es)
def Kr (i:Nat):DE:=λ_ E Q=>∃p d ds es,E[i]?=some (some (.st p,jK d ds es))/\Q E .sh (.tuple [d,.list ds,.list es])
def Py (i:Nat) (n:Int):DE:=λ_ E Q=>∃d ds es,E[i]?=some (some (.st false,jK d ds es))/\ds.length<sizeLine/\Q (E.set i (some (.st false,jK d (ds++[.int n]) es))) .sh .none
def P5 (i:Nat):DE:=λ_ E Q=>∃d ds es,E[i]?=some (some (.st false,jK d ds es))/\Q (E.set i (some (.st false,jK d ds []))) .sh .none
section
variable{X:Cx}{Ex:XK}{Y:A07}
def DZ{i:Nat}(h:ST X Ex Y e c):ST X Ex Y e (zG i c):=by
 intro g x E U H Hm F P Q hx R hd q;obtain⟨p,d,ds,es,e1,rfl,ok,hc⟩:=hd;obtain⟨v,F1,h1,R1,T⟩:=R.move e1 rfl;obtain⟨t,a,b,u,xs,ys,rfl,hf,et,ru,ea,rx,eb,ry,nab⟩:=qQ T.own;rw[hf]at T;have li:=aR e1;have up:=fP (Hm:=Hm) (H:=H) T.off;have R2:=R1.more up (gn R.sub) (λj c hc=>by rw[bV λz=>T.aD c z j hc];exact R1.off j c hc) λc hc=>.inl (bV λz=>hc (T.new c z));have rp:=JJ up et ru ea rx eb ry;have R3:=R2.put (Tm.sh rp) (i:=i) (by unfold bI;rw[aC li]);rw[YX,set_same h1]at R3;refine h g x _ U H _ _ _ Q hx R3 hc λE' b' H' Hm' F' ⟨eE,pq⟩ R' s'=>?_;subst eE;have ma:Hm' a=some (.lst xs):=s' _ _ ((cV V3).trans ea);have mb:Hm' b=some (.lst ys):=s' _ _ ((cV (VA _ V3)).trans eb);have sB:ah Hm (back Hm' [a,b]):=λc o e=>by rw[b9 λz=>by rw[T.off c z]at e;cases e];exact s' _ _ (up _ _ e)
 have sT:kC Hm' (back Hm' [a,b]):=λc zs e=>by rw[b9 λz=>?_];{exact e};rcases VB.mp z with rfl|z;{rw[ma]at e;cases e};rw[V7.mp z,mb]at e;cases e
 have nF:∀c∈[a,b],∀j,c∉F' j:=λc hc j z=>by have:=R'.off j c z;rcases VB.mp hc with rfl|hc;{rw[ma]at this;cases this};rw[V7.mp hc,mb]at this;cases this
 refine q E b' H' (back Hm' [a,b]) (λj=>if j=i then [a,b]else F' j) pq ?_ sB;exact {
  len:=R.len
  sub:=tQ R'.sub
  slot:=λj k' d' e'=>by
   by_cases c:j=i
   .subst c;rw[e1]at e';cases e';refine⟨_,h1,?_⟩;rw[if_pos rfl];exact .tl (sB _ _ et) (ru.mono sB) (R'.sub _ _ ma) (rx.mono sB) (R'.sub _ _ mb) (ry.mono sB) nab
   .have o1:=Bf ok c e';have e2:(E.set i (some (.sh,.tuple [d,.list ds,.list es])))[j]?=some (some (k',d')):=by rw[ai (Ne.symm c)];exact e'
    obtain⟨w,g1,o2⟩:=R'.slot j k' d' e2;refine⟨w,g1,?_⟩;rw[if_neg c]
    by_cases ck:k'=.sh
    .subst ck;obtain⟨w2,g2,o3⟩:=R.slot j _ d' e';rw[g1]at g2;cases g2;generalize F j=fj at o3;generalize F' j=fj' at o2;cases o3 with
     |sh r=>
      cases o2 with
      |sh _=>exact .sh (r.mono sB)
    .refine o2.flat sT ?_;cases k'<;>first|exact absurd rfl ck|exact o1
  off:=λj c hc=>by
   by_cases z:j=i
   .rw[if_pos z]at hc;exact iO hc
   .rw[if_neg z]at hc;rw[b9 λy=>nF c y j hc]
    exact R'.off j c hc
  aX:=λj c hc=>by
   by_cases z:j=i
   .rw[if_pos z]at hc;rcases VB.mp hc with rfl|hc
    .exact⟨_,R'.sub _ _ ma,iM⟩
    .rw[V7.mp hc];exact⟨_,R'.sub _ _ mb,iM⟩
   .rw[if_neg z]at hc;exact R'.aX j c hc
  aD:=λj l c g1 g2=>by
   by_cases z:j=i
   .rw[if_pos z]at g1
    by_cases y:l=i
    .rw[z,y]
    .rw[if_neg y]at g2;exact absurd g2 (nF c g1 l)
   .rw[if_neg z]at g1
    by_cases y:l=i
    .rw[if_pos y]at g2;exact absurd g1 (nF c g2 j)
    .rw[if_neg y]at g2;exact R'.aD j l c g1 g2
  fr:=R'.fr
  new:=λj c hc=>by
   by_cases z:j=i
   .rw[if_pos z]at hc;exact .inr (T.new c hc)
   .rw[if_neg z]at hc;exact R'.new j c hc
  pin:=R.pin
  old:=λc hc=>by
   rw[b9 λz=>hc (T.new c z)]
   exact R'.old c hc }
def UX(h:SE X Ex Y e c):SE X Ex Y e (Qo c):=λg x E U H Hm F P Q hx R p q=>h g x E U H Hm F _ Q hx R p λE' k v u H' Hm' F' fp z R' s' T=>by obtain⟨p0,d,ds,es,rfl,rfl,pq⟩:=z;obtain⟨t,a,b,w,xs,ys,rfl,rfl,et,ru,ea,rx,eb,ry,nab⟩:=qQ T.own;have up:=fP (Hm:=Hm') (H:=H') T.off;exact q _ _ _ _ _ (lend Hm' H' [a,b]) F' [] pq (R'.more up (gn R'.sub) (λj c hc=>by rw[bV λz=>T.aD c z j hc];exact R'.off j c hc) λc hc=>.inl (bV λz=>hc (T.new c z))) (s'.trans up) (Tm.sh (JJ up et ru ea rx eb ry))
end
def Rl.new1{F:Nat->A03}{p:Addr}(R:Rl K g E U H Hm F)(hp:H p=none):Rl K g E U (upd H p o) (upd Hm p o) F:=
 R.grow (aQ hp) (aQ (R.g9 hp)) (λc u e=>by
  by_cases z:c=p
  .subst z;rw[aq]at e⊢;exact e
  .rw[aj z]at e⊢;exact R.sub _ _ e) (λi a ha=>by rw[aj λz=>R.fresh hp (z▸ha)];exact R.off i a ha) λa ha=>.inl (aj λz=>R.l5 ha (z▸hp))
section
variable{X:Cx}{Ex:XK}{Y:A07}
def Rn(j0 j1 j2:Nat){i j k kk:Nat}(hN0:X.N[j0]?=some x:=by rfl)(hv0:gU X.env.scope x:=by nofun)(hj0:Y[j0]?=some i:=by rfl)(hb0:(x==("__debug__":Str))=false:=by decide)(hc0:(x==("__classdict__":Str))=false:=by decide)(hN1:X.N[j1]?=some y:=by rfl)(hv1:gU X.env.scope y:=by nofun)(hj1:Y[j1]?=some j:=by rfl)(hb1:(y==("__debug__":Str))=false:=by decide)(hc1:(y==("__classdict__":Str))=false:=by decide)(hN2:X.N[j2]?=some z:=by rfl)(hv2:gU X.env.scope z:=by nofun)(hj2:Y[j2]?=some k:=by rfl)(hb2:(z==("__debug__":Str))=false:=by decide)(hc2:(z==("__classdict__":Str))=false:=by decide) : SE X Ex Y (.Tuple [.Name x p0,.Name y p1,.Name z p2] kk tp) (KD i j k):=by
 intro g xc E U H Hm F P Q hx R h q;obtain⟨d,ds,es,e0,e1,e2,njk,pq⟩:=h;obtain⟨u,h0,o0⟩:=R.slot i _ _ e0;obtain⟨v1,h1,o1⟩:=R.slot j _ _ e1;obtain⟨v2,h2,o2⟩:=R.slot k _ _ e2;generalize hfj:F j=fj at o1;generalize hfk:F k=fk at o2;generalize F i=fi at o0;cases o0 with
 |sh r0=>
 cases o1 with
 |@ow _ a xs _ ea rx=>
 cases o2 with
 |@ow _ b ys _ eb ry=>
 have ma:a∈F j:=by rw[hfj];exact V3
 have mb:b∈F k:=by rw[hfk];exact V3
 have nab:a≠b:=λz=>njk (R.aD j k a ma (z▸mb));have n1:∀{l:Nat}{ds:A00},E[l]?=some (some (.ow false,.list ds))->∀q∈g.pins,q.1≠l:=λe q hq z=>by obtain⟨_,ds',e3⟩:=R.pin q hq;rw[z,e]at e3;cases e3
 have lj:=aR e1;have lk:=aR e2;refine WE.of (qD (bg (cH hN0 hv0 hb0 hc0) (bg (cH hN1 hv1 hb1 hc1) (bg (cH hN2 hv2 hb2 hc2) dh)))) ⟨_,bR hj0 h0,_,bR hj1 h1,_,bR hj2 h2,by show 3<=sizeLine;decide,λt ht=>?_⟩;have R2:=R.less (E2:=(E.set j none).set k none) (S:=λl=>l=j\/l=k) (by rw[VT,VT]) (λl hl=>by rw[ai λz=>hl (.inr z.symm),ai λz=>hl (.inl z.symm)]) (λl k' d' hl e=>by
  rcases hl with rfl|rfl
  .rw[ai (Ne.symm njk),aC lj]at e;cases e
  .rw[aC (by rw[VT];exact lk)]at e;cases e) (λq hq z=>z.elim (n1 e1 q hq) (n1 e2 q hq))
 have R3:=R2.new1 (o:=.tup [u,.ref a,.ref b]) ht;have ta:a≠t:=λz=>by rw[z,ht]at ea;cases ea
 have tb:b≠t:=λz=>by rw[z,ht]at eb;cases eb
 have sm:ah Hm (upd Hm t (.tup [u,.ref a,.ref b])):=aQ (R.g9 ht);refine q _ _ _ _ _ _ _ [a,b] pq R3 sm ⟨.tl aq (r0.mono sm) ((aj ta).trans ea) (rx.mono sm) ((aj tb).trans eb) (ry.mono sm) nab,λc hc=>?_,λc hc l z=>?_,λc hc=>?_⟩;{rcases VB.mp hc with rfl|hc;{exact(aj ta).trans (R.off _ _ ma)};rw[V7.mp hc];exact(aj tb).trans (R.off _ _ mb)};{by_cases cl:l=j\/l=k;{rw[if_pos cl]at z;cases z};rw[if_neg cl]at z;rcases VB.mp hc with rfl|hc;{exact cl (.inl (R.aD _ _ _ z ma))};rw[V7.mp hc]at z;exact cl (.inr (R.aD _ _ _ z mb))};rcases VB.mp hc with rfl|hc;{exact R.notM e1 rfl ma};rw[V7.mp hc];exact R.notM e2 rfl mb
def Q7(j0:Nat){i k0 k1 k2 kk:Nat}(hm:X.mg "list"=none)(hN0:X.N[j0]?=some x:=by rfl)(hv0:gU X.env.scope x:=by nofun)(hj0:Y[j0]?=some i:=by rfl)(hb0:(x==("__debug__":Str))=false:=by decide)(hc0:(x==("__classdict__":Str))=false:=by decide)(hg:Gl X "list":=by rfl) : SE X Ex Y (.Tuple [.Subscript (.Name x a1) (.Constant (.int 0) k0 b1) c1,.Call (.Name "list" d1) [.Subscript (.Name x a2) (.Constant (.int 1) k1 b2) c2] [] d2,.Call (.Name "list" d3) [.Subscript (.Name x a3) (.Constant (.int 2) k2 b3) c3] [] d4] kk tp) (Kr i):=by intro g xc E U H Hm F P Q hx R h q;obtain⟨p,d,ds,es,e1,pq⟩:=h;obtain⟨v,h1,o1⟩:=R.slot i _ _ e1;obtain⟨t,a,b,u,xs,ys,rfl,hf,et,ru,ea,rx,eb,ry,nab⟩:=qQ o1;have et':=R.sub _ _ et;have var:=cH (pos:=a1) hN0 hv0 hb0 hc0;refine WE.of (qD (bg (oR mQ (cH hN0 hv0 hb0 hc0) k7 (λ_ _=>rfl)) (bg (iI lg hg hm XM (bg (oR mQ (cH hN0 hv0 hb0 hc0) k7 (λ_ _=>rfl)) dh)) (bg (iI lg hg hm XM (bg (oR mQ (cH hN0 hv0 hb0 hc0) k7 (λ_ _=>rfl)) dh)) dh)))) ?_;refine⟨_,bR hj0 h1,t,_,_,_,rfl,rfl,bO.of et',rfl,?_⟩;refine⟨_,bR hj0 h1,t,_,_,_,rfl,rfl,bO.of et',rfl,a,xs,rfl,.inl (bF.of ea),λl hl=>?_⟩;have la:∀{c:Addr}{o:HO},H c=some o->upd H l (.lst xs) c=some o:=λe=>aQ hl _ _ e;refine⟨_,bR hj0 h1,t,_,_,_,rfl,rfl,bO.of (la et'),rfl,b,ys,rfl,.inl (bF.of (la eb)),λm hm'=>?_⟩;refine⟨by show 3<=sizeLine;decide,λr hr=>?_⟩;have R2:=R.new1 (o:=.lst xs) hl;have R3:=R2.new1 (o:=.lst ys) hm';have R4:=R3.new1 (o:=.tup [u,.ref l,.ref m]) hr;have s1:ah Hm _:=aQ (o:=.lst xs) (R.g9 hl);have s2:=aQ (o:=.lst ys) (R2.g9 hm');have s3:=aQ (o:=.tup [u,.ref l,.ref m]) (R3.g9 hr);have s:=(s1.trans s2).trans s3;exact q _ _ _ _ _ _ _ [] pq R4 s (Tm.sh (.tup aq (.cons (ru.mono s) (.cons (.lst (.inl (.inl (s3 _ _ (s2 _ _ aq)))) (rx.mono s)) (.cons (.lst (.inl (.inl (s3 _ _ aq))) (ry.mono s)) .nil)))))
def Ue(j0:Nat){i k0 k1:Nat}{n:Int}(hN0:X.N[j0]?=some x:=by rfl)(hv0:gU X.env.scope x:=by nofun)(hj0:Y[j0]?=some i:=by rfl)(hb0:(x==("__debug__":Str))=false:=by decide)(hc0:(x==("__classdict__":Str))=false:=by decide)(hline:(ap.endLine==cp.line)=true:=by rfl) : SE X Ex Y (.Call (.Attribute (.Subscript (.Name x a1) (.Constant (.int 1) k0 b1) c1) "append" ap) [.Constant (.int n) k1 d1] [] cp) (Py i n):=by
 intro g xc E U H Hm F P Q hx R h q;obtain⟨d,ds,es,e1,few,pq⟩:=h;obtain⟨v,h1,o1⟩:=R.slot i _ _ e1;obtain⟨t,a,b,u,xs,ys,rfl,hf,et,ru,ea,rx,eb,ry,nab⟩:=qQ o1;have et':=R.sub _ _ et;refine WE.of (xU YO WX WY cu (oR mQ (cH hN0 hv0 hb0 hc0) k7 (λ_ _=>rfl)) (bg k7 dh) rfl rfl hline rfl rfl) ?_;refine⟨_,bR hj0 h1,t,_,_,_,rfl,rfl,bO.of et',rfl,.inl ⟨rfl,_,bF.of ea⟩,a,xs,.int n,rfl,rfl,ea,by rw[rx.len];exact few,?_⟩;have ma:a∈F i:=by rw[hf];exact V3
 have R4:=R.IP (o:=.lst (xs++[.int n])) (d':=jK d (ds++[.int n]) es) e1 h1 ma (by rw[hf];exact .tl et ru aq (rx.app (.cons (.int n) .nil)) ((aj (Ne.symm nab)).trans eb) ry nab) iM λz=>by cases z
 exact q _ _ _ _ _ Hm F [] pq R4 (ah.refl _) (Tm.sh .aU)
def Ut(j0:Nat){i k0:Nat}(hN0:X.N[j0]?=some x:=by rfl)(hv0:gU X.env.scope x:=by nofun)(hj0:Y[j0]?=some i:=by rfl)(hb0:(x==("__debug__":Str))=false:=by decide)(hc0:(x==("__classdict__":Str))=false:=by decide)(hline:(ap.endLine==cp.line)=true:=by rfl) : SE X Ex Y (.Call (.Attribute (.Subscript (.Name x a1) (.Constant (.int 2) k0 b1) c1) "clear" ap) [] [] cp) (P5 i):=by
 intro g xc E U H Hm F P Q hx R h q;obtain⟨d,ds,es,e1,pq⟩:=h;obtain⟨v,h1,o1⟩:=R.slot i _ _ e1;obtain⟨t,a,b,u,xs,ys,rfl,hf,et,ru,ea,rx,eb,ry,nab⟩:=qQ o1;have et':=R.sub _ _ et;refine WE.of (Es YO PySem.F.slot_list_clear PySem.F.type_list_clear IX (oR mQ (cH hN0 hv0 hb0 hc0) k7 (λ_ _=>rfl)) rfl hline) ?_;refine⟨_,bR hj0 h1,t,_,_,_,rfl,rfl,bO.of et',rfl,.inl ⟨rfl,_,bF.of eb⟩,b,ys,rfl,rfl,eb,?_⟩;have mb:b∈F i:=by rw[hf];exact VA _ V3
 have R4:=R.IP (o:=.lst []) (d':=jK d ds []) e1 h1 mb (by rw[hf];exact .tl et ru ((aj nab).trans ea) rx aq .nil nab) iM λz=>by cases z
 exact q _ _ _ _ _ Hm F [] pq R4 (ah.refl _) (Tm.sh .aU)
end
def ID:DR:=λds P=>∃as bs:A04,ds=[.list (as.map .bool),.list (bs.map .bool)]/\P .sh (.bool (decide (as=bs)))
theorem nZ:∀as:A04,nd.nds (as.map .bool)=true/\PyData.canLayAll0 (as.map .bool)=true/\PyData.depthAll (as.map .bool)<=0
 |[]=>⟨rfl,rfl,by rw[Yo,PyData.depthAll];exact V5 _⟩
 |a::as=>by obtain⟨h1,h2,h3⟩:=nZ as;rw[VN];refine⟨?_,?_,?_⟩;{rw[nd.nds,h1];rfl};{rw[PyData.canLayAll0,h2];rfl};rw[PyData.depthAll];exact Nat.max_le.mpr ⟨V5 _,h3⟩
theorem Ej:∀as bs:A04,SeqAt.noMixAll (as.map .bool) (bs.map .bool)=true
 |[],[]=>rfl
 |[],_::_=>rfl
 |_::_,[]=>rfl
 |a::as,b::bs=>by rw[VN,VN,SeqAt.noMixAll,Ej as bs];rfl
def w6(as:A04):SeqAt.shaped (.list (as.map .bool))=true:=by obtain⟨_,h2,h3⟩:=nZ as;unfold SeqAt.shaped;rw[PyData.canLay0,h2,PyData.depth,Vw (by lia)];rfl
def NK{as bs:A04}:PyData.list (as.map .bool)=.list (bs.map .bool)↔as=bs:=by constructor;{intro h;injection h with h;exact(List.map_inj_right λa b h=>by injection h).mp h};intro h;rw[h]
def Mp:cT K ID (r2 (qL K false)):=by
 rintro H Hm vs ds P Q s r⟨as,bs,rfl,h⟩q;obtain⟨x,y,rfl,h1,h2⟩:=fV r;refine .inl ⟨_,_,(h1.mono s).sD (by rw[nd];exact(nZ as).1),(h2.mono s).sD (by rw[nd];exact(nZ bs).1),w6 as,w6 bs,by rw[SeqAt.noMix];exact Ej as bs,?_⟩;have e:Spec.same (PyData.list (as.map .bool)) (.list (bs.map .bool))=decide (as=bs):=by rw[Wq,ZV,Wu,NK]
 rw[e];exact bB.sc q s h (.bl _)
def Uy(hu:X.A.units+64<cLine)(S:aJ X Ex Y [a,b] as):SE X Ex Y (.Compare a [.Eq] [b] pos) (aa ID as):=uu (zS hu) (gY _) Mp S
end Dv
namespace Dv
inductive BB{A0 A1:Type}(P:A0->A1->Prop):Prop
 |mk (a0:A0)(a1:A1)(h:P a0 a1):BB P
inductive EX{A0 A1 A2:Type}(P:A0->A1->A2->Prop):Prop
 |mk (a0:A0)(a1:A1)(a2:A2)(h:P a0 a1 a2):EX P
inductive JM{A0 A1 A2 A3:Type}(P:A0->A1->A2->A3->Prop):Prop
 |mk (a0:A0)(a1:A1)(a2:A2)(a3:A3)(h:P a0 a1 a2 a3):JM P
inductive u5{A0 A1 A2 A3 A4:Type}(P:A0->A1->A2->A3->A4->Prop):Prop
 |mk (a0:A0)(a1:A1)(a2:A2)(a3:A3)(a4:A4)(h:P a0 a1 a2 a3 a4):u5 P
inductive S3{A0 A1 A2 A3 A4 A5 A6 A7:Type}(P:A0->A1->A2->A3->A4->A5->A6->A7->Prop):Prop
 |mk (a0:A0)(a1:A1)(a2:A2)(a3:A3)(a4:A4)(a5:A5)(a6:A6)(a7:A7)(h:P a0 a1 a2 a3 a4 a5 a6 a7):S3 P
inductive So(p0 p1:Prop):Prop
 |mk (h0:p0)(h1:p1):So p0 p1
inductive EG(p0 p1 p2:Prop):Prop
 |mk (h0:p0)(h1:p1)(h2:p2):EG p0 p1 p2
inductive BL(p0 p1 p2 p3:Prop):Prop
 |mk (h0:p0)(h1:p1)(h2:p2)(h3:p3):BL p0 p1 p2 p3
inductive OO(p0 p1 p2 p3 p4:Prop):Prop
 |mk (h0:p0)(h1:p1)(h2:p2)(h3:p3)(h4:p4):OO p0 p1 p2 p3 p4
inductive PD(p0 p1 p2 p3 p4 p5:Prop):Prop
 |mk (h0:p0)(h1:p1)(h2:p2)(h3:p3)(h4:p4)(h5:p5):PD p0 p1 p2 p3 p4 p5
inductive Sv(p0 p1 p2 p3 p4 p5 p6:Prop):Prop
 |mk (h0:p0)(h1:p1)(h2:p2)(h3:p3)(h4:p4)(h5:p5)(h6:p6):Sv p0 p1 p2 p3 p4 p5 p6
inductive Hx(p0 p1 p2 p3 p4 p5 p6 p7:Prop):Prop
 |mk (h0:p0)(h1:p1)(h2:p2)(h3:p3)(h4:p4)(h5:p5)(h6:p6)(h7:p7):Hx p0 p1 p2 p3 p4 p5 p6 p7
inductive Qt(p0 p1 p2 p3 p4 p5 p6 p7 p8:Prop):Prop
 |mk (h0:p0)(h1:p1)(h2:p2)(h3:p3)(h4:p4)(h5:p5)(h6:p6)(h7:p7)(h8:p8):Qt p0 p1 p2 p3 p4 p5 p6 p7 p8
end Dv
namespace PB
open PySem L2 Dv
noncomputable def gO:DS:=ao (tL [1,2] (br 0)) (ao (aF 3 (qv sizeLine [6] (iX jV [.pk 1]) (.nm 6) (fT) (aa bY []))) (ao (dQ (iE (br 2)) (.tp [4,5]) (ao (b6 (yI cy 3 (br 4) 5)) (b6 (yI cy 3 (br 5) 4)))) (fW 3)))
noncomputable def jr (AAW:bz):DS:=ao (aF 2 (aN AAW [false] [.pk 0])) (ao (aF 3 (aa eX [.ev (aa bY [.ev (dC .none)]),.ev (aa aB [.pk 0,.ev (dC (.int 0))])])) (ao (gS 3 (br 1) (dC (.int 0))) (ao (aF 4 (aa bY [.pk 1])) (ao (qC (JT 4) (ao (aF 5 (aa bY [])) (ao (dQ (iE (br 4)) (.nm 6) (dQ (iE (aa aB [.pk 2,.pk 6])) (.nm 7) (b8 (bD (aa (fm false) [.ev (aa aB [.pk 3,.pk 7]),.ev (dC .none)])) (ao (gS 3 (br 7) (aa cF [.ev (aa aB [.pk 3,.pk 6]),.ev (dC (.int 1))])) (b6 (iR cy 5 [br 7]))) (cU)))) (aF 4 (br 5))))) (fW 3)))))
def gJ:DS:=b8 (EL (bD (qc (λi j=>decide (i<=j)) (λi j=>decide (i<j)) (dC (.int 0)) (br 1) (aa aB [.pk 0,.ev (dC (.int 0))])))) (qd "NoPlace") (cU)
def mE (AAZ AAF:bz):DS:=ao (b6 (aN AAZ [false,false] [.pk 0,.pk 1])) (bU (aN AAF [false,false] [.pk 0,.pk 1]))
def kZ:DS:=bU (aa xX [.ev (aa aB [.pk 0,.ev (aa aB [.pk 1,.ev (dC (.int 0))])]),.ev (aa aB [.pk 0,.ev (aa aB [.pk 1,.ev (dC (.int 1))])])])
noncomputable def mD:DS:=ao (tL [2,3] (br 0)) (ao (aF 4 (xu (bD (aa iK [.pk 1,.ev (dC (.str "ties"))])) (aa bY []) (aa ly [.pk 2]))) (ao (aF 5 (xu (bD (aa iK [.pk 1,.ev (dC (.str "places"))])) (aa bY []) (aa qS [.pk 3]))) (bU (aa cF [.pk 4,.pk 5]))))
def mL (AAV:bz):DS:=ao (b8 (bD (aa (pP "int") [.pk 1])) (bU (aa aB [.pk 0,.pk 1])) (cU)) (bU (aN AAV [false,false] [.pk 0,.pk 1]))
def lJ (AAd:bz):DS:=bU (cB [3,4] (uP (br 0)) (.tp [3,4]) (bD (aa jO [.ev (aN AAd [false,false] [.pk 4,.pk 1]),.ev (aN AAd [false,false] [.pk 4,.pk 2])])) (cC sizeLine (br 3)))
def nV (AAE:bz):DS:=bU (cB [1] (iX jV [.ev (aa aB [.pk 0,.ev (dC (.int 0))])]) (.nm 1) (fT) (cC sizeLine (aN AAE [false,false] [.pk 0,.pk 1])))
def jv:DS:=ao (aF 1 (Ji)) (ao (dQ (iE (br 0)) (.tp [2,3,4]) (b6 (C9 1 4 (aa fc [.pk 2,.pk 3,.pk 4])))) (bU (M1 1)))
noncomputable def oF (AAD AAe AAY:bz):DS:=ao (aF 2 (aN AAD [false] [.pk 0])) (ao (aF 3 (aN AAe [false,false] [.pk 0,.pk 1])) (ao (aF 4 (aa bY [])) (ao (dQ (uP (br 3)) (.tp [5,6]) (yW sizeLine 4 (cB [7] (iE (aa (ku true false) [.pk 3,.ev (aa cF [.pk 5,.ev (dC (.int 1))])])) (.nm 7) (fT) (cC sizeLine (aa fc [.pk 6,.pk 7,.ev (aN AAY [false,false,false] [.pk 2,.pk 6,.pk 7])]))))) (fW 4))))
def gc:DS:=b8 (bD (aa uA [.ev (aa aB [.pk 0,.ev (dC (.int 0))]),.ev (dC (.int 7))])) (qd "TooMany") (cU)
noncomputable def kY:DS:=ao (aF 2 (aa bY [])) (ao (dQ (iX jV [.pk 1]) (.nm 3) (ao (aF 4 (cB [6,7,8] (iE (br 0)) (.tp [6,7,8]) (fT) (cC sizeLine (xu (bD (aa (oM false) [.pk 3,.pk 8])) (dC (.int 1)) (dC (.int 0)))))) (ao (aF 5 (cB [6] (iX jV [.pk 1]) (.nm 6) (fT) (cC sizeLine (xu (bD (aa iK [.pk 3,.pk 6])) (dC (.int 1)) (dC (.int 0)))))) (b6 (iR cy 2 [aa cF [.ev (aa cF [.pk 4,.pk 5]),.ev (aa bY [.ev (dC (.int 1))])]]))))) (bU (aa cF [.pk 2,.ev (aa bY [.ev (aa cF [.ev (aa eX [.ev (aa bY [.ev (aa fZ [.ev (dC (.int 1))])]),.ev (aa c9 [.pk 0])]),.ev (aa eX [.ev (aa bY [.ev (dC (.int 0))]),.ev (aa cF [.pk 1,.ev (dC (.int 1))])])])])])))
noncomputable def kP:DS:=ao (aF 5 (aa eX [.ev (aa aB [.ev (aa aB [.pk 0,.pk 3]),.ev (aa fZ [.ev (dC (.int 1))])]),.ev (aa aB [.ev (aa aB [.pk 0,.pk 4]),.pk 2])])) (ao (aF 6 (aa eX [.ev (aa aB [.ev (aa aB [.pk 0,.pk 4]),.ev (aa fZ [.ev (dC (.int 1))])]),.ev (aa aB [.ev (aa aB [.pk 0,.pk 3]),.pk 2])])) (bU (mw (aa kr [.pk 5,.pk 6]) (jl (aa iK [.pk 5,.pk 6]) (aa kr [.ev (aa aB [.pk 1,.pk 3]),.ev (aa aB [.pk 1,.pk 4])])))))
noncomputable def oW (AAH:bz):DS:=ao (aF 3 (dC .none)) (ao (dQ (iX jV [.ev (aa c9 [.pk 1])]) (.nm 4) (b8 (bD (jl (aa uA [.ev (aa aB [.ev (aa aB [.pk 0,.pk 4]),.pk 2]),.ev (dC (.int 0))]) (mw (aa (fm false) [.pk 3,.ev (dC .none)]) (aN AAH [false,false,false,false,false] [.pk 0,.pk 1,.pk 2,.pk 4,.pk 3])))) (aF 3 (br 4)) (cU))) (fW 3))
noncomputable def tK:DS:=ao (aF 4 (aa aB [.pk 0,.pk 2])) (ao (aF 5 (aa bY [])) (ao (dQ (uP (br 0)) (.tp [6,7]) (b8 (bD (aa iK [.pk 6,.pk 2])) (b6 (iR cy 5 [br 4])) (b6 (iR cy 5 [cB [8,9] (Gm (br 7) (br 4)) (.tp [8,9]) (fT) (cC sizeLine (aa CO [.ev (aa n9 [.ev (aa eX [.pk 8,.ev (aa aB [.pk 4,.pk 3])]),.ev (aa eX [.ev (aa aB [.pk 7,.pk 3]),.pk 9])]),.pk 1]))])))) (fW 5)))
noncomputable def j9 (AAG AAf AAg:bz):DS:=ao (aF 2 (aN AAG [false,false] [.pk 0,.pk 1])) (ao (aF 3 (cB [7] (iX jV [.pk 1]) (.nm 7) (fT) (cC sizeLine (aa cF [.ev (aa c9 [.pk 0]),.pk 7])))) (ao (aF 4 (dC (.int 1))) (ao (qC (bD (aa kr [.ev (aa lY [.ev (aa (ku false true) [.ev (aa aB [.pk 2,.ev (aa fZ [.ev (dC (.int 1))])]),.ev (aa fZ [.ev (dC (.int 1))])])]),.ev (dC (.int 0))])) (ao (aF 5 (aa aB [.ev (cB [7,8] (uP (aa (ku false true) [.ev (aa aB [.pk 2,.ev (aa fZ [.ev (dC (.int 1))])]),.ev (aa fZ [.ev (dC (.int 1))])])) (.tp [7,8]) (bD (aa kr [.pk 8,.ev (dC (.int 0))])) (cC sizeLine (br 7))),.ev (dC (.int 0))])) (ao (aF 6 (aN AAf [false,false,false] [.pk 2,.pk 3,.pk 5])) (ao (aF 2 (aN AAg [false,false,false,false] [.pk 2,.pk 4,.pk 6,.pk 5])) (ao (aF 4 (aa aB [.ev (aa aB [.pk 2,.pk 6]),.pk 5])) (gS 3 (br 6) (br 5))))))) (bU (aa fc [.pk 4,.pk 3,.pk 2])))))
noncomputable def lH (AAa AAh AAX AAC:bz):DS:=ao (b6 (aN AAa [false] [.pk 0])) (ao (aF 2 (aN AAh [false] [.ev (aN AAX [false,false] [.pk 0,.pk 1])])) (ao (tL [3,4,5] (aN AAC [false,false] [.pk 2,.ev (aa aB [.pk 0,.ev (dC (.int 0))])])) (ao (aF 6 (aa aB [.pk 5,.ev (aa fZ [.ev (dC (.int 1))])])) (ao (aF 7 (aa (ku true true) [.pk 6,.ev (aa c9 [.pk 2]),.ev (aa fZ [.ev (dC (.int 1))])])) (ao (aF 8 (cB [10,11] (Gm (br 4) (br 5)) (.tp [10,11]) (bD (aa kr [.pk 10,.ev (aa c9 [.pk 2])])) (cC sizeLine (aa fc [.pk 10,.ev (aa aB [.pk 11,.ev (aa fZ [.ev (dC (.int 1))])])])))) (ao (aF 9 (cB [10,11] (iE (br 8)) (.tp [10,11]) (bD (aa uA [.pk 11,.ev (dC (.int 0))])) (cC sizeLine (aa fc [.ev (aa aB [.ev (aa aB [.pk 2,.pk 10]),.ev (dC (.int 0))]),.ev (aa aB [.ev (aa aB [.pk 2,.pk 10]),.ev (dC (.int 1))]),.pk 11])))) (bU (KD 3 7 9))))))))
def iA (AAa:bz):DS:=ao (b6 (aN AAa [false] [.pk 0])) (ao (rE) (ao (rE) (ao (rE) (ao (rE) (rE)))))
noncomputable def iB:DS:=ao (aF 2 (dC (.int 0))) (sL (b8 (bD (aa kr [.pk 1,.ev (aa c9 [.pk 0])])) (aF 2 (aa aB [.pk 0,.pk 1])) (b8 (bD (aa jO [.pk 0,.ev (aa bY [])])) (aF 2 (aa cF [.ev (aa qp [.ev (aa aB [.pk 0,.ev (aa qp [.pk 1,.ev (aa c9 [.pk 0])])]),.ev (dC (.int 1000003))]),.ev (aa eX [.ev (dC (.int 104729)),.pk 1])])) (cU))) (ao (b8 (bD (aa Ng [.pk 2,.ev (aa vF [.ev (dC (.int 10)),.ev (dC (.int 18))])])) (bU (aa bY [.pk 2])) (cU)) (ao (aF 3 (aa qp [.ev (aa Cg [.ev (aa cF [.ev (aa cF [.ev (aa qp [.pk 2,.ev (aa cF [.ev (aa vF [.ev (dC (.int 10)),.ev (dC (.int 30))]),.ev (dC (.int 57))])]),.ev (aa eX [.ev (dC (.int 7919)),.pk 1])]),.ev (dC (.int 101))]),.ev (dC (.int 2))]),.ev (aa cF [.ev (aa vF [.ev (dC (.int 10)),.ev (dC (.int 30))]),.ev (dC (.int 57))])])) (bU (aa bY [.ev (aa qp [.ev (aa Di [.ev (aa cF [.ev (aa cF [.pk 3,.ev (aa eX [.ev (dC (.int 977)),.pk 1])]),.ev (dC (.int 5))]),.ev (dC (.int 618033988749894848204586834365))]),.ev (aa cF [.ev (aa vF [.ev (dC (.int 10)),.ev (dC (.int 30))]),.ev (dC (.int 57))])])])))))
def iV:DS:=ao (aF 2 (aa qp [.ev (aa aB [.pk 0,.ev (dC (.int 0))]),.pk 1])) (ao (gS 0 (dC (.int 0)) (aa CO [.ev (aa aB [.pk 0,.ev (dC (.int 0))]),.pk 1])) (fW 2))
noncomputable def ig (AAR:bz):DS:=ao (aF 3 (aa bY [])) (ao (dQ (iX FF [.ev (dC (.int 1)),.pk 1]) (.nm 4) (ao (aF 5 (aN AAR [true,false] [.pk 0,.pk 4])) (ao (b6 (iR cy 3 [aa fc [.ev (aa aB [.ev (aa bY [.ev (aa n9 [.pk 4,.ev (dC (.int 1))]),.ev (aa n9 [.pk 4,.ev (dC (.int 1))]),.ev (dC (.int 0)),.pk 5]),.ev (aa xX [.pk 2,.ev (dC (.int 3))])]),.pk 4]])) (b8 (bD (aa iK [.pk 2,.ev (dC (.int 3))])) (b6 (iR nh 3 [cB [8] (iX jV [.pk 4]) (.nm 8) (fT) (cC sizeLine (aa fc [.pk 8,.pk 4]))])) (cU))))) (sL (b8 (bD (jl (aa iK [.pk 2,.ev (dC (.int 1))]) (aa uA [.pk 1,.ev (dC (.int 2))]))) (b6 (iR cy 3 [aa fc [.ev (dC (.int 0)),.ev (aa n9 [.pk 1,.ev (dC (.int 1))])]])) (cU)) (sL (b8 (bD (aa uA [.pk 2,.ev (dC (.int 4))])) (dQ (iX jV [.ev (aN AAR [true,false] [.pk 0,.ev (dC (.int 7))])]) (.nm 4) (ao (aF 6 (aN AAR [true,false] [.pk 0,.pk 1])) (ao (aF 7 (aN AAR [true,false] [.pk 0,.pk 1])) (b6 (iR nh 3 [aa eX [.ev (aa bY [.ev (aa fc [.pk 6,.pk 7])]),.ev (aa kO [.ev (aa jO [.pk 6,.pk 7])])]]))))) (cU)) (fW 3))))
def iz (AAR:bz):DS:=ao (aF 2 (aa bY [])) (ao (dQ (iX jV [.pk 1]) (.nm 3) (b6 (iR wz 2 [aN AAR [true,false] [.pk 0,.ev (aa cF [.pk 3,.ev (dC (.int 1))])],br 3]))) (fW 2))
noncomputable def i9 (AAR AAK AAJ:bz):DS:=ao (aF 3 (aa cF [.pk 1,.ev (aN AAR [true,false] [.pk 0,.ev (aa n9 [.ev (aa cF [.pk 2,.ev (dC (.int 1))]),.pk 1])])])) (ao (aF 4 (aa bY [])) (ao (aF 5 (aN AAK [true,false,false] [.pk 0,.pk 3,.ev (aN AAR [true,false] [.pk 0,.ev (dC (.int 9))])])) (ao (aF 6 (aN AAJ [true,false] [.pk 0,.pk 3])) (ao (dQ (iE (br 5)) (.tp [7,8]) (ao (aF 9 (aa fc [.ev (aa aB [.pk 6,.pk 7]),.ev (aa aB [.pk 6,.pk 8])])) (ao (aF 10 (aa fc [.ev (aa qV [.pk 9]),.ev (aa rD [.pk 9])])) (b8 (bD (aa (oM true) [.pk 10,.pk 4])) (b6 (iR cy 4 [br 10])) (cU))))) (bU (aa fc [.pk 3,.ev (aa nk [.ev (aa uB [.pk 4])])]))))))
noncomputable def iG:DS:=ao (aF 1 (aa bY [])) (ao (dQ (iX jV [.ev (aa aB [.pk 0,.ev (dC (.int 0))])]) (.nm 2) (ao (aF 3 (aa eX [.ev (aa bY [.ev (aa fZ [.ev (dC (.int 1))])]),.ev (aa aB [.pk 0,.ev (dC (.int 0))])])) (ao (gS 3 (br 2) (dC (.int 0))) (ao (dQ (iX jV [.ev (aa aB [.pk 0,.ev (dC (.int 0))])]) (.nm 4) (dQ (iE (aa aB [.pk 0,.ev (dC (.int 1))])) (.tp [5,6]) (sL (b8 (bD (jl (aa iK [.ev (aa aB [.pk 3,.pk 5]),.pk 4]) (aa kr [.ev (aa aB [.pk 3,.pk 6]),.ev (dC (.int 0))]))) (gS 3 (br 6) (aa cF [.pk 4,.ev (dC (.int 1))])) (cU)) (b8 (bD (jl (aa iK [.ev (aa aB [.pk 3,.pk 6]),.pk 4]) (aa kr [.ev (aa aB [.pk 3,.pk 5]),.ev (dC (.int 0))]))) (gS 3 (br 5) (aa cF [.pk 4,.ev (dC (.int 1))])) (cU))))) (b6 (iR cy 1 [br 3])))))) (fW 1))
noncomputable def gQ:DS:=ao (aF 2 (aa eX [.ev (aa ly [.ev (aa aB [.pk 0,.ev (dC (.int 0))])]),.ev (aa kO [.ev (aa jO [.pk 1,.ev (dC (.str "ties"))])])])) (sL (b8 (bD (aa jO [.pk 1,.ev (dC (.str "places"))])) (b6 (iR Dm 2 [aa aB [.pk 0,.ev (dC (.int 1))]])) (cU)) (fW 2))
noncomputable def jF:DS:=ao (b8 (bD (aa (pP "int") [.pk 2])) (bU (aa aB [.ev (aa aB [.pk 0,.pk 1]),.pk 2])) (cU)) (bU (aa lY [.ev (cB [3] (iE (br 2)) (.nm 3) (fT) (cC sizeLine (aa aB [.ev (aa aB [.pk 0,.pk 1]),.pk 3])))]))
noncomputable def gx (AAI:bz):DS:=bU (cB [3] (iX jV [.ev (aa c9 [.pk 0])]) (.nm 3) (bD (aa jO [.ev (aN AAI [false,false,false] [.pk 0,.pk 3,.pk 1]),.ev (aN AAI [false,false,false] [.pk 0,.pk 3,.pk 2])])) (cC sizeLine (br 3)))
noncomputable def gR (AAQ AAS AAM:bz):DS:=ao (aF 2 (aN AAQ [false] [.pk 0])) (ao (aF 3 (aN AAS [false,false] [.pk 0,.pk 1])) (ao (aF 4 (aa bY [])) (ao (dQ (iX jV [.ev (aa c9 [.pk 3])]) (.nm 5) (dQ (iE (aa (ku true false) [.pk 3,.ev (aa cF [.pk 5,.ev (dC (.int 1))])])) (.nm 6) (b6 (iR cy 4 [aa fc [.ev (aa aB [.pk 3,.pk 5]),.pk 6,.ev (aN AAM [false,false,false] [.pk 2,.ev (aa aB [.pk 3,.pk 5]),.pk 6])]])))) (fW 4))))
noncomputable def f7 (AAc AAb:bz):DS:=ao (aF 2 (aa bY [])) (ao (CD ["NoPlace","TooMany"] "HailError" (Fp AAc [.pk 0,.pk 1] none) 3 (b6 (iR cy 2 [jl (aa (mP ["NoPlace","TooMany"] ["TooMany"]) [.pk 3]) (lz (aa (mP ["NoPlace","TooMany"] ["NoLooks","NoThing"]) [.pk 3]))]))) (ao (CD ["NoPlace","TooMany"] "TooMany" (Fp AAb [.pk 0,.pk 1,.ev (dC (.int 1)),.ev (aa eX [.ev (aa bY [.ev (dC (.int 1))]),.ev (aa aB [.pk 0,.ev (dC (.int 0))])]),.ev (aa bY [])] none) 3 (b6 (iR cy 2 [aa (mP ["NoPlace","TooMany"] ["ValueError"]) [.pk 3]]))) (bU (aa ID [.pk 2,.ev (aa bY [.ev (dC (.bool true)),.ev (dC (.bool true))])]))))
noncomputable def iy (AAL:bz):DS:=ao (tL [3,4,5] (br 2)) (ao (b8 (bD (mw (aa kr [.pk 3,.ev (dC (.int 1))]) (mw (aa jO [.ev (aa c9 [.pk 4]),.ev (aa aB [.pk 0,.ev (dC (.int 0))])]) (aa kr [.ev (aa lY [.pk 4]),.ev (dC (.int 0))])))) (bU (dC (.bool false))) (cU)) (ao (aF 6 (aa eX [.ev (aa bY [.ev (dC (.int 0))]),.ev (aa aB [.pk 0,.ev (dC (.int 0))])])) (ao (aF 7 (dC (.int 0))) (ao (dQ (iE (aN AAL [false,false] [.pk 0,.pk 1])) (.tp [8,9,10]) (ao (b8 (bD (aa kr [.ev (aa tw [.ev (cB [13] (iE (br 10)) (.nm 13) (fT) (cC sizeLine (aa aB [.pk 4,.pk 13])))]),.pk 3])) (bU (dC (.bool false))) (cU)) (ao (aF 11 (cB [13] (iE (br 5)) (.nm 13) (bD (aa iK [.ev (aa (ku false true) [.pk 13,.ev (dC (.int 2))]),.ev (aa fc [.pk 8,.pk 9])])) (cC sizeLine (aa aB [.pk 13,.ev (dC (.int 2))])))) (ao (b8 (bD (mw (aa uA [.ev (aa c9 [.pk 11]),.ev (dC (.int 1))]) (aa kr [.ev (aa tw [.pk 11]),.ev (aa c9 [.pk 11])]))) (bU (dC (.bool false))) (cU)) (ao (aF 7 (aa cF [.pk 7,.ev (aa c9 [.pk 11])])) (dQ (iE (br 10)) (.nm 12) (gS 6 (br 12) (aa cF [.ev (aa aB [.pk 6,.pk 12]),.ev (aa tw [.pk 11])])))))))) (ao (b8 (bD (mw (aa jO [.pk 7,.ev (aa c9 [.pk 5])]) (aa uA [.ev (aa CK [.pk 6]),.pk 3]))) (bU (dC (.bool false))) (cU)) (bU (aa iK [.ev (aa tw [.pk 4]),.ev (aa tw [.ev (cB [13] (iE (br 5)) (.nm 13) (fT) (cC sizeLine (aa aB [.pk 13,.ev (dC (.int 2))])))])])))))))
noncomputable def ie (AAU:bz):DS:=ao (b8 (bD (aa qZ [.pk 0])) (bU (aa Ci [.ev (cB [1] (iE (br 0)) (.nm 1) (fT) (cC sizeLine (aN AAU [false] [.pk 1])))])) (cU)) (bU (jl (aa (pP "int") [.pk 0]) (lz (aa (pP "bool") [.pk 0]))))
noncomputable def oK (AAN AAR AAT AAc AAU AAP AAO:bz):DS:=ao (aF 1 (aN AAN [false,false] [.pk 0,.ev (dC (.int 0))])) (ao (aF 2 (aa aB [.ev (aa bY [.ev (dC (.str "places")),.ev (dC (.str "ties")),.ev (dC (.str "all"))]),.ev (aN AAR [true,false] [.pk 1,.ev (dC (.int 3))])])) (ao (aF 3 (qb AAT [] (aN AAN [false,false] [.pk 0,.ev (dC (.int 1))]) [.ev (dC (.int 1)),.ev (dC (.int 7))] [.ev (dC (.int 1)),.ev (dC (.int 7))])) (ao (aF 4 (aN AAc [false,false] [.pk 3,.pk 2])) (ao (b8 (zG 4 (bD (mw (lz (aa (pP "tuple") [.pk 4])) (mw (aa jO [.ev (aa c9 [.pk 4]),.ev (dC (.int 3))]) (lz (aN AAU [false] [.pk 4])))))) (bU (dC (.bool false))) (cU)) (ao (b8 (zG 4 (bD (mw (lz (aa (pP "list") [.ev (aa aB [.pk 4,.ev (dC (.int 1))])])) (lz (aa (pP "list") [.ev (aa aB [.pk 4,.ev (dC (.int 2))])]))))) (bU (dC (.bool false))) (cU)) (ao (b8 (zG 4 (EL (bD (aa Ci [.ev (cB [6] (iE (aa aB [.pk 4,.ev (dC (.int 2))])) (.nm 6) (fT) (cC sizeLine (jl (aa (pP "tuple") [.pk 6]) (aa iK [.ev (aa c9 [.pk 6]),.ev (dC (.int 3))]))))])))) (bU (dC (.bool false))) (cU)) (ao (b8 (zG 4 (EL (bD (aN AAP [false,false,false] [.pk 3,.pk 2,.pk 4])))) (bU (dC (.bool false))) (cU)) (ao (aF 5 (Kr 4)) (ao (b6 (Py 4 9)) (ao (b6 (P5 4)) (ao (b8 (bD (aa jO [.ev (Qo (aN AAc [false,false] [.pk 3,.pk 2])),.pk 5])) (bU (dC (.bool false))) (cU)) (bU (aN AAO [false,false] [.ev (qb AAT [] (aN AAN [false,false] [.pk 0,.ev (dC (.int 2))]) [.ev (dC (.int 8)),.ev (dC (.int 12))] [.ev (dC (.int 8)),.ev (dC (.int 12))]),.pk 2])))))))))))))
end PB
namespace Dv
open PySem L2
def yz (xs:A00)(tg:Tg)(b:DS)(D:fX)(E1:En):Prop:=∃I:Nat->En->Prop,I 0 E1/\(∀i d E,xs[i]?=some d->I i E->∃E2,cX tg d E=some E2/\b { D with nx:=I (i+1) } E2)/\∀E,I xs.length E->D.nx E
noncomputable def yD (cs:A07)(xs:A00)(tg:Tg)(c:DT)(r:DC)(E1:En)(Q:En->Kd->PyData->Prop):Prop:=∃(E0:En)(I:Nat->A00->En->Prop),bM cs E1=some E0/\I 0 [] E0/\(∀i d ys E,xs[i]?=some d->I i ys E->∃E2,cX tg d E=some E2/\c xF E2 λE3 b=>if b=true then r xF ys E3 (I (i+1))else I (i+1) ys E3)/\∀ys E,I xs.length ys E->∃E2,bM cs E=some E2/\Q E2 (.ow false) (.list ys)
noncomputable def M4 (most:Nat)(cs:A07)(xs:A00)(tg:Tg)(c:DT)(e:DE)(E1:En)(Q:En->Kd->PyData->Prop):Prop:=∃(E0:En)(I:Nat->A00->En->Prop),bM cs E1=some E0/\I 0 [] E0/\(∀i d ys E,xs[i]?=some d->I i ys E->∃E2,cX tg d E=some E2/\c xF E2 λE3 b=>if b=true then e xF E3 (λE4 k v=>(∃p,k=.ow p)/\ys.length<most/\I (i+1) (ys++[v]) E4)else I (i+1) ys E3)/\∀ys E,I xs.length ys E->∃E2,bM cs E=some E2/\Q E2 (.dp false) (.list ys)
noncomputable def Tj (xs:A00)(tg:Tg)(c:DT)(r:DC)(x:XC)(ys:A00)(E1:En)(Q:A00->En->Prop):Prop:=∃I:Nat->A00->En->Prop,I 0 ys E1/\(∀i d ys E,xs[i]?=some d->I i ys E->∃E2,cX tg d E=some E2/\c x E2 λE3 b=>if b=true then r x ys E3 (I (i+1))else I (i+1) ys E3)/\∀ys E,I xs.length ys E->Q ys E
theorem dyr0:∀{it:DI}{tg:Tg}{b:DS}{D:fX}{o:Option (Kd×PyData)}{E:En},dQ it tg b D (o::E)=it D.xc (o::E) λE1 xs=>yz xs tg b D E1:=rfl
theorem dyr1:∀{cs:A07}{it:DI}{tg:Tg}{c:DT}{r:DC}{x:XC}{o:Option (Kd×PyData)}{E:En}{Q:En->Kd->PyData->Prop},cB cs it tg c r x (o::E) Q=it x (o::E) λE1 xs=>yD cs xs tg c r E1 Q:=rfl
theorem dyr2:∀{most:Nat}{cs:A07}{it:DI}{tg:Tg}{c:DT}{e:DE}{x:XC}{o:Option (Kd×PyData)}{E:En}{Q:En->Kd->PyData->Prop},qv most cs it tg c e x (o::E) Q=it x (o::E) λE1 xs=>M4 most cs xs tg c e E1 Q:=rfl
theorem dyr3:∀{it:DI}{tg:Tg}{c:DT}{r:DC}{x:XC}{ys:A00}{o:Option (Kd×PyData)}{E:En}{Q:A00->En->Prop},SN it tg c r x ys (o::E) Q=it x (o::E) λE1 xs=>Tj xs tg c r x ys E1 Q:=rfl
def dy:
 (∀{it:DI}{tg:Tg}{b:DS}{D:fX}{o:Option (Kd×PyData)}{E:En},dQ it tg b D (o::E)=it D.xc (o::E) λE1 xs=>yz xs tg b D E1) /\
 (∀{cs:A07}{it:DI}{tg:Tg}{c:DT}{r:DC}{x:XC}{o:Option (Kd×PyData)}{E:En}{Q:En->Kd->PyData->Prop},cB cs it tg c r x (o::E) Q=it x (o::E) λE1 xs=>yD cs xs tg c r E1 Q) /\
 (∀{most:Nat}{cs:A07}{it:DI}{tg:Tg}{c:DT}{e:DE}{x:XC}{o:Option (Kd×PyData)}{E:En}{Q:En->Kd->PyData->Prop},qv most cs it tg c e x (o::E) Q=it x (o::E) λE1 xs=>M4 most cs xs tg c e E1 Q) /\
 (∀{it:DI}{tg:Tg}{c:DT}{r:DC}{x:XC}{ys:A00}{o:Option (Kd×PyData)}{E:En}{Q:A00->En->Prop},SN it tg c r x ys (o::E) Q=it x (o::E) λE1 xs=>Tj xs tg c r x ys E1 Q):=⟨rfl,rfl,rfl,rfl⟩
theorem v7{i:Nat}{z:Option (Kd×PyData)}:∀{cs:A07}{E E0:En},i∉cs->bM cs (E.set i none)=some E0->bM cs (E.set i z)=some (E0.set i z)
 |[],E,E0,_,h=>by have h:E.set i none=E0:=Option.some.inj h;show some _=some _;rw[<-h,YX]
 |c::cs,E,E0,n,h=>by
  have nc:i≠c:=λe=>n (e▸V3);have ns:i∉cs:=λm=>n (VA _ m);have ho:∀y:Option (Kd×PyData),bI (E.set i y) c=bI E c:=λy=>by unfold bI;rw[Wg nc]
  unfold bM at h⊢;rw[ho]at h⊢;split at h;{rename_i hc;rw[if_pos hc];rw[YY _ _ nc]at h⊢;exact v7 ns h};cases h
theorem Ah:∀{cs:A07}{ds:A00}{E E' E0:En},cs.Nodup->bM cs E=some E0->bM cs E'=some E0->bL cs ds E=bL cs ds E'
 |[],ds,E,E',E0,_,h,h'=>by have h:E=E0:=Option.some.inj h;have h':E'=E0:=Option.some.inj h';rw[h,h']
 |c::cs,[],E,E',E0,_,h,h'=>rfl
 |c::cs,d::ds,E,E',E0,nd,h,h'=>by have n1:=(W6.mp nd).1;unfold bM at h h';unfold bL;split at h;{rename_i hc;split at h';{rename_i hc';rw[if_pos hc,if_pos hc'];exact Ah (W6.mp nd).2 (v7 n1 h) (v7 n1 h')};cases h'};cases h
def vU{cs:A07}{ds:A00}{E E' E0:En}(nd:k9 cs=true)(h:bM cs E=some E0)(h':bM cs E'=some E0):bL cs ds E=bL cs ds E':=Ah (iN nd) h h'
def tB{tg:Tg}{cs:A07}{d:PyData}{E E' E0:En}(hs:tg.slots=cs)(nd:k9 cs=true)(h:bM cs E=some E0)(h':bM cs E'=some E0):cX tg d E=cX tg d E':=by
 subst hs;cases tg with
 |nm i=>exact vU nd h h'
 |tp is=>
  cases d with
  |tuple ds=>exact vU nd h h'
  |_=>rfl
 |nt i is=>
  cases d with
  |tuple ds=>rcases ds with _|⟨a,_|⟨b,_|⟨c,r⟩⟩⟩;{rfl};{rfl};{cases b<;>first|exact vU nd h h'|rfl};cases b<;>rfl
  |_=>rfl
theorem kL:∀{cs:A07}{E E0:En},cs.Nodup->bM cs E=some E0->bM cs E0=some E0/\∀c∈cs,E0[c]?=some none
 |[],E,E0,_,h=>⟨rfl,λ_ z=>by cases z⟩
 |c::cs,E,E0,nd,h=>by
  have n1:=(W6.mp nd).1;have n2:=(W6.mp nd).2;unfold bM at h;split at h
  .rename_i hc;obtain⟨h1,h2⟩:=kL n2 h;have hlen:c<E.length:=by unfold bI at hc;rcases WM c E.length with z|z;{exact z};rw[VY z]at hc;cases hc
   have hcl:∀{cs:A07}{E E0:En},c∉cs->bM cs E=some E0->E0[c]?=E[c]?:=by
    intro cs;induction cs with
    |nil=>intro E E0 _ h;cases h;rfl
    |cons a cs ih=>intro E E0 n h;unfold bM at h;split at h;{rw[ih (λm=>n (VA _ m)) h,Wg (λe=>n (by rw[e];exact V3))]};cases h
   have e0:E0[c]?=some none:=by rw[hcl n1 h,Wr hlen]
   refine⟨?_,λx hx=>?_⟩
   .unfold bM;rw[if_pos (by unfold bI;rw[e0])];have:E0.set c none=E0:=by
     refine WA λj=>?_;by_cases e:c=j
     .subst e;have:c<E0.length:=by rcases WM c E0.length with z|z;{exact z};rw[VY z]at e0;cases e0
      rw[Wr this,e0]
     rw[Wg e]
    rw[this];exact h1
   cases hx with
   |head=>exact e0
   |tail _ m=>exact h2 x m
  cases h
def cG{α:Type}{l:List α}{i:Nat}{a:α}(ha:l[i]?=some a):i<l.length:=by rcases WM i l.length with z|z;{exact z};rw[VY z]at ha;cases ha
def take_snoc{α:Type}{l:List α}{i:Nat}{a:α}(ha:l[i]?=some a):l.take (i+1)=l.take i++[a]:=by rw[List.take_add_one,ha];rfl
def NX{α:Type}{l:List α}{enc:α->PyData}{cs:A07}{tg:Tg}{e:DE}{most:Nat}{E1 E0:En}{Q:En->Kd->PyData->Prop}(g:α->PyData)(h0:bM cs E1=some E0)(h2:∀a,a∈l->∀I:En->PyData->Prop,(∀E4,bM cs E4=some E0->I E4 (g a))->∃E2,cX tg (enc a) E0=some E2/\e xF E2 (λE4 k v=>(∃p,k=.ow p)/\I E4 v))(h3:Q E0 (.dp false) (.list (l.map g)))(hl:l.length<=most)(hs:tg.slots=cs:=by rfl)(nd:k9 cs=true:=by rfl):M4 most cs (l.map enc) tg fT e E1 Q:=by
 obtain⟨hc0,_⟩:=kL (iN nd) h0;refine⟨E0,λi ys E=>ys=(l.take i).map g/\bM cs E=some E0,h0,⟨rfl,hc0⟩,?_,?_⟩
 .rintro i d ys E hd⟨rfl,hE⟩;rw[VE]at hd;obtain⟨a,ha,rfl⟩:=XX.mp hd;have hi:=cG ha;obtain⟨E2,hE2,hb⟩:=h2 a (VZ ha) (λE4 v=>((l.take i).map g).length<most/\((l.take i).map g++[v]=(l.take (i+1)).map g/\bM cs E4=some E0)) (λE4 hE4=>by
   refine⟨?_,?_,hE4⟩
   .rw[V4,Wj];lia
   .rw[take_snoc ha,VR];rfl)
  exact⟨E2,(tB hs nd hE hc0).trans hE2,hb⟩
 rintro ys E⟨rfl,hE⟩;rw[V4,WU];exact⟨E0,hE,h3⟩
def vh{α:Type}{l:List α}{enc:α->PyData}{tg:Tg}{b:DS}{D:fX}{E1:En}(I:Nat->En->Prop)(h0:I 0 E1)(hs:∀i a E,l[i]?=some a->I i E->∃E2,cX tg (enc a) E=some E2/\b { D with nx:=I (i+1) } E2)(he:∀E,I l.length E->D.nx E):yz (l.map enc) tg b D E1:=by refine⟨I,h0,λi d E hd hi=>?_,by rw[V4];exact he⟩;rw[VE]at hd;obtain⟨a,ha,rfl⟩:=XX.mp hd;exact hs i a E ha hi
def Hi{n i k:Nat}(h:(List.range n)[i]?=some k):i<n/\k=i:=by have hi:=cG h;rw[VD]at hi;rw[VF hi]at h;cases h;exact⟨hi,rfl⟩
def OR{n:Nat}{enc:Nat->PyData}{tg:Tg}{b:DS}{D:fX}{E1:En}(I:Nat->En->Prop)(h0:I 0 E1)(hs:∀i E,i<n->I i E->∃E2,cX tg (enc i) E=some E2/\b { D with nx:=I (i+1) } E2)(he:∀E,I n E->D.nx E):yz ((List.range n).map enc) tg b D E1:=
 vh I h0 (λi a E ha hi=>by obtain⟨l,rfl⟩:=Hi ha;exact hs a E l hi) (by rw[VD];exact he)
def Mn{α:Type}{l:List α}{enc:α->PyData}{cs:A07}{tg:Tg}{e:DE}{most:Nat}{E1 E0:En}{Q:En->Kd->PyData->Prop}(S:En->Prop)(g:α->PyData)(h0:bM cs E1=some E0)(hS:S E0)(h2:∀a,a∈l->∀E0',S E0'->∀I:En->PyData->Prop,(∀E4 E5,bM cs E4=some E5->S E5->I E4 (g a))->∃E2,cX tg (enc a) E0'=some E2/\e xF E2 (λE4 k v=>k.fz=true/\I E4 v))(h3:∀E0',S E0'->Q E0' (.ow false) (.list (l.map g)))(hl:l.length<=most)(hs:tg.slots=cs:=by rfl)(nd:k9 cs=true:=by rfl):yD cs (l.map enc) tg fT (cC most e) E1 Q:=by
 obtain⟨hc0,_⟩:=kL (iN nd) h0;refine⟨E0,λi ys E=>ys=(l.take i).map g/\∃E5,bM cs E=some E5/\S E5,h0,⟨rfl,E0,hc0,hS⟩,?_,?_⟩
 .rintro i d ys E hd⟨rfl,E5,hE,hS5⟩;rw[VE]at hd;obtain⟨a,ha,rfl⟩:=XX.mp hd;have hi:=cG ha;obtain⟨hc5,_⟩:=kL (iN nd) hE;obtain⟨E2,hE2,hb⟩:=h2 a (VZ ha) E5 hS5 (λE4 v=>((l.take i).map g).length<most/\((l.take i).map g++[v]=(l.take (i+1)).map g/\∃E5,bM cs E4=some E5/\S E5)) (λE4 E6 hE4 hS6=>by
   refine⟨?_,?_,E6,hE4,hS6⟩
   .rw[V4,Wj];lia
   .rw[take_snoc ha,VR];rfl)
  exact⟨E2,(tB hs nd hE hc5).trans hE2,hb⟩
 rintro ys E⟨rfl,E5,hE,hS5⟩;rw[V4,WU];exact⟨E5,hE,h3 E5 hS5⟩
def Mr{α:Type}{l:List α}{enc:α->PyData}{cs:A07}{tg:Tg}{c:DT}{e:DE}{most:Nat}{E1 E0:En}{Q:En->Kd->PyData->Prop}(S:En->Prop)(g:α->Option PyData)(h0:bM cs E1=some E0)(hS:S E0)(h2:∀a,a∈l->∀E0',S E0'->∀I:En->Option PyData->Prop,(∀E4 E5,bM cs E4=some E5->S E5->I E4 (g a))->∃E2,cX tg (enc a) E0'=some E2/\c xF E2 λE3 b=>if b=true then e xF E3 (λE4 k v=>k.fz=true/\I E4 (some v))else I E3 none)(h3:∀E0',S E0'->Q E0' (.ow false) (.list (l.filterMap g)))(hl:l.length<=most)(hs:tg.slots=cs:=by rfl)(nd:k9 cs=true:=by rfl):yD cs (l.map enc) tg c (cC most e) E1 Q:=by
 obtain⟨hc0,_⟩:=kL (iN nd) h0;refine⟨E0,λi ys E=>ys=(l.take i).filterMap g/\∃E5,bM cs E=some E5/\S E5,h0,⟨rfl,E0,hc0,hS⟩,?_,?_⟩
 .rintro i d ys E hd⟨rfl,E5,hE,hS5⟩;rw[VE]at hd;obtain⟨a,ha,rfl⟩:=XX.mp hd;have hi:=cG ha;obtain⟨hc5,_⟩:=kL (iN nd) hE;have hlen:((l.take i).filterMap g).length<most:=by have:=List.length_filterMap_le g (l.take i);rw[Wj]at this;lia
  obtain⟨E2,hE2,hb⟩:=h2 a (VZ ha) E5 hS5 (λE4 o=>match o with
   |some v=>((l.take i).filterMap g).length<most/\((l.take i).filterMap g++[v]=(l.take (i+1)).filterMap g/\∃E5,bM cs E4=some E5/\S E5)
   |none=>(l.take i).filterMap g=(l.take (i+1)).filterMap g/\∃E5,bM cs E4=some E5/\S E5) (λE4 E6 hE4 hS6=>by
   cases hg:g a with
   |none=>
    refine⟨?_,E6,hE4,hS6⟩;rw[take_snoc ha,ZY,XR,hg];exact(W9 _).symm
   |some v=>
    refine⟨hlen,?_,E6,hE4,hS6⟩;rw[take_snoc ha,ZY,XR,hg];rfl)
  exact⟨E2,(tB hs nd hE hc5).trans hE2,hb⟩
 rintro ys E⟨rfl,E5,hE,hS5⟩;rw[V4,WU];exact⟨E5,hE,h3 E5 hS5⟩
def fM{α:Type}{l:List α}{enc:α->PyData}{cs:A07}{tg:Tg}{e:DE}{most:Nat}{E1 E0:En}{Q:En->Kd->PyData->Prop}(g:α->PyData)(h0:bM cs E1=some E0)(h2:∀a,a∈l->∀I:En->PyData->Prop,(∀E4,bM cs E4=some E0->I E4 (g a))->∃E2,cX tg (enc a) E0=some E2/\e xF E2 (λE4 k v=>k.fz=true/\I E4 v))(h3:Q E0 (.ow false) (.list (l.map g)))(hl:l.length<=most)(hs:tg.slots=cs:=by rfl)(nd:k9 cs=true:=by rfl):yD cs (l.map enc) tg fT (cC most e) E1 Q:=
 Mn (·=E0) g h0 rfl (λa ha E0' e I hI=>by subst e;exact h2 a ha I λE4 h=>hI E4 _ h rfl) (λE0' e=>by subst e;exact h3) hl hs nd
def ni{α:Type}{l:List α}{enc:α->PyData}{cs:A07}{tg:Tg}{c:DT}{e:DE}{most:Nat}{E1 E0:En}{Q:En->Kd->PyData->Prop}(g:α->Option PyData)(h0:bM cs E1=some E0)(h2:∀a,a∈l->∀I:En->Option PyData->Prop,(∀E4,bM cs E4=some E0->I E4 (g a))->∃E2,cX tg (enc a) E0=some E2/\c xF E2 λE3 b=>if b=true then e xF E3 (λE4 k v=>k.fz=true/\I E4 (some v))else I E3 none)(h3:Q E0 (.ow false) (.list (l.filterMap g)))(hl:l.length<=most)(hs:tg.slots=cs:=by rfl)(nd:k9 cs=true:=by rfl):yD cs (l.map enc) tg c (cC most e) E1 Q:=
 Mr (·=E0) g h0 rfl (λa ha E0' e I hI=>by subst e;exact h2 a ha I λE4 h=>hI E4 _ h rfl) (λE0' e=>by subst e;exact h3) hl hs nd
abbrev iD (n:Nat):PyData:=.int (n:Int)
abbrev nD (l:A07):PyData:=.list (l.map iD)
abbrev dW (e:Nat×Nat):PyData:=.tuple [iD e.1,iD e.2]
abbrev wD (m:Nat)(es:Zv):PyData:=.tuple [iD m,.tuple (es.map dW)]
def Pe{n:Nat}:kq 0 n=(List.range n).map iD:=by unfold kq;refine VX λi _=>?_;rw[Z1]
def OB{n:Nat}:kq 1 n=(List.range n).map λi=>iD (i+1):=by unfold kq;refine VX λi _=>?_;show PyData.int _=PyData.int _;congr 1;lia
def F7{xs:A00}{i:Nat}:dP xs (i:Int)=xs[i]?:=by unfold dP l0;rw[if_pos (by lia)];split;{exact rfl};rw[VY (by lia)];rfl
def Gk{n i:Nat}(h:i<n):lM n (i:Int)=some i:=by unfold lM;rw[if_pos (by lia),if_pos (by lia)];rfl
def jt{n i:Nat}{Q:Nat->Prop}(h:i<n)(q:Q i):ay (lM n (i:Int)) Q:=by rw[Gk h];exact q
def zp{α β:Type}{o:Option α}{f:α->β}{Q:β->Prop}:ay (o.map f) Q=ay o λa=>Q (f a):=by cases o<;>rfl
def uD{α:Type}{l:List α}{f:α->PyData}{i:Nat}{Q:PyData->Prop}:ay (dP (l.map f) (i:Int)) Q=ay l[i]? λa=>Q (f a):=by rw[F7,VE,zp]
def ug{α:Type}{l:List α}{f:α->PyData}{a:Nat}:cutD (l.map f) (some (a:Int)) none=(l.drop a).map f:=by unfold cutD;have e1:HT.aL (l.map f).length 0 (some (a:Int))=min a (l.map f).length:=HT.mV _ _ a;have e2:HT.aL (l.map f).length (l.map f).length none=(l.map f).length:=rfl;rw[e1,e2,V4,<-List.map_drop,<-Xy];congr 1;rw[Xb (by rw[WO];lia)];rcases YZ a l.length with h|h;{rw[Xf h]};rw[Yb h,List.drop_length,Yq h]
def FE{α:Type}{l:List α}{f:α->PyData}{b:Nat}:cutD (l.map f) none (some (b:Int))=(l.take b).map f:=by unfold cutD;have e1:HT.aL (l.map f).length (l.map f).length (some (b:Int))=min b (l.map f).length:=HT.mV _ _ b;have e2:HT.aL (l.map f).length 0 none=0:=rfl;rw[e1,e2,V4,YJ,Yt,<-Xy];congr 1;rcases YZ b l.length with h|h;{rw[Xf h]};rw[Yb h,WU,Xb h]
def GY{α:Type}{l:List α}{f:α->PyData}{a b:Nat}:cutD (l.map f) (some (a:Int)) (some (b:Int))=((l.take b).drop a).map f:=by unfold cutD;have e1:HT.aL (l.map f).length 0 (some (a:Int))=min a (l.map f).length:=HT.mV _ _ a;have e2:HT.aL (l.map f).length (l.map f).length (some (b:Int))=min b (l.map f).length:=HT.mV _ _ b;rw[e1,e2,V4,<-List.map_drop,<-Xy];congr 1;rw[List.drop_take];rcases YZ a l.length with h|h;{rw[Xf h];rcases YZ b l.length with g|g;{rw[Xf g]};rw[Yb g,Xb (by rw[WO];lia),Xb (by rw[WO];lia)]};rw[Yb h,List.drop_length,Yq h,List.take_nil,List.take_nil]
def tT{α:Type}{l:List α}{f:α->PyData}:jG (l.map f)=l.zipIdx.map λp=>.tuple [iD p.2,f p.1]:=by unfold jG;rw[List.zipIdx_map,VG];rfl
theorem zip_map{α β:Type}{l:List α}{m:List β}{f:α->PyData}{g:β->PyData}:((l.map f).zip (m.map g)).map (λp=>PyData.tuple [p.1,p.2])=(l.zip m).map λp=>.tuple [f p.1,g p.2]:=by rw[List.zip_map,VG];rfl
def Cd{α:Type}{l:List α}{f:α->PyData}{Q:PyData->Prop}:ay (dP (l.map f) 0) Q=ay l[0]? λa=>Q (f a):=uD (i:=0)
def Bb{α:Type}{l:List α}{f:α->PyData}{Q:PyData->Prop}:ay (dP (l.map f) 1) Q=ay l[1]? λa=>Q (f a):=uD (i:=1)
def aA{α:Type}{o:Option α}{a:α}{Q:α->Prop}(h:o=some a)(q:Q a):ay o Q:=by rw[h];exact q
def Af{a b:Nat}:(a:Int)%(b:Int)=((a%b:Nat):Int):=(Int.natCast_emod a b).symm
def zw{a b:Nat}:(a:Int)/(b:Int)=((a/b:Nat):Int):=(Int.natCast_ediv a b).symm
def AV{a b:Nat}:((a:Int)<(b:Int))=(a<b):=propext Y6
def AU{a b:Nat}:((a:Int)<=(b:Int))=(a<=b):=propext Int.ofNat_le
def cast_eq{a b:Nat}:((a:Int)=(b:Int))=(a=b):=propext Int.ofNat_inj
def cast_pos{a:Nat}:((0:Int)<(a:Int))=(0<a):=propext Int.natCast_pos
def KL{a b:Nat}:(if b<a then(b:Int)else(a:Int))=((min a b:Nat):Int):=by split<;>lia
def KS{a b:Nat}:(if a<b then(b:Int)else(a:Int))=((max a b:Nat):Int):=by split<;>lia
def K0{a b:Nat}:(if b>a then(b:Int)else(a:Int))=((max a b:Nat):Int):=by split<;>lia
def ue{ds:A00}:lf (.tuple ds)=ds.all lf:=vq ds
def BC{p:Bool}{ds:A00}:flat (.ow p) (.list ds)=ds.all lf:=rfl
def tH{α β:Type}{l:List α}{f:α->β}{p:β->Bool}:(l.map f).all p=l.all λa=>p (f a):=by rw[List.all_map];rfl
def FA{α:Type}{l:List α}:(l.all λ_=>true)=true:=by rw[VL];exact λ_ _=>rfl
def Cy{n:Nat}:lf (iD n)=true:=rfl
def zM{e:Nat×Nat}:lf (dW e)=true:=rfl
def JC{m:Nat}{es:Zv}:lf (wD m es)=true:=by rw[ue];show(lf (iD m)&&(lf (.tuple (es.map dW))&&true))=true;rw[ue,tH];simp[Cy,zM]
def SJ:type_of%@ue/\type_of%@BC/\type_of%@tH/\type_of%@FA/\type_of%@Cy/\type_of%@zM/\type_of%@JC/\(decide True=true)/\(∀{ds:A00},lf (.list ds)=false)/\(∀{α:Type}{l m:List α}{p:α->Bool},(l++m).all p=(l.all p&&m.all p)):=⟨@ue,@BC,@tH,@FA,@Cy,@zM,@JC,rfl,rfl,(by intros;exact List.all_append)⟩
def dz:(type_of%SJ)/\type_of%@Pe/\type_of%@OB/\type_of%@uD/\type_of%@Cd/\type_of%@Bb/\type_of%@zp/\type_of%@ug/\type_of%@FE/\type_of%@GY/\type_of%@tT/\type_of%@zip_map/\type_of%@Af/\type_of%@zw/\type_of%@AV/\type_of%@AU/\type_of%@cast_eq/\type_of%@cast_pos/\type_of%@bq/\type_of%@KL/\type_of%@KS/\type_of%@K0 /\
 (∀{α β:Type}{f:α->β}{l:List α},(l.map f).length=l.length)/\(∀{n:Nat},(List.range n).length=n)/\(∀{n:Nat},(n:Int).toNat=n):=
 ⟨SJ,@Pe,@OB,@uD,@Cd,@Bb,@zp,@ug,@FE,@GY,@tT,@zip_map,@Af,@zw,@AV,@AU,@cast_eq,@cast_pos,@bq,@KL,@KS,@K0,(by intros;exact V4 ..),(by intros;exact VD),(by intros;exact Yl _)⟩
def Ar{α β:Type}(f:α->β){l:List α}:∀{m:List β},m.Perm (l.map f)->∃l':List α,l'.Perm l/\m=l'.map f:=by
 have:∀{a b:List β},a.Perm b->∀l:List α,b=l.map f->∃l':List α,l'.Perm l/\a=l'.map f:=by
  intro a b h;induction h with
  |nil=>intro l e;exact⟨l,.refl _,e⟩
  |cons x _ ih=>
   intro l e;cases l with
   |nil=>cases e
   |cons y l=>rw[VN,Xz]at e;obtain⟨l',p,e'⟩:=ih l e.2;exact⟨y::l',p.cons _,by rw[e.1,e',VN]⟩
  |swap x y z=>
   intro l e
   match l,e with
   |[],e=>cases e
   |[_],e=>rw[VN,Xz]at e;cases e.2
   |u::v::l,e=>rw[VN,VN,Xz,Xz]at e;exact⟨v::u::l,List.Perm.swap _ _ _,by rw[VN,VN,e.1,e.2.1,e.2.2]⟩
  |trans _ _ ih1 ih2=>intro l e;obtain⟨l1,p1,e1⟩:=ih2 l e;obtain⟨l2,p2,e2⟩:=ih1 l1 e1;exact⟨l2,p2.trans p1,e2⟩
 intro m h;exact this h l rfl
def Lz{ps:Zv}{P:Kd->PyData->Prop}(h:ps.length<=1000)(q:∀qs:Zv,qs.Perm ps->P (.ow false) (.list (qs.map dW))):uB [.list (ps.map dW)] P:=by refine⟨ps.map (λe:Nat×Nat=>((e.1:Int),(e.2:Int))),by rw[VG];rfl,by rw[V4];exact h,λms p=>?_⟩;obtain⟨l,hl,rfl⟩:=Ar _ p;have:=q l hl;rw[VG];exact this
def Ld{ns:A07}{P:Kd->PyData->Prop}(h:ns≠[])(q:∀m:Nat,m∈ns->(∀n∈ns,m<=n)->P .sh (iD m)):lY [nD ns] P:=by refine⟨ns.map (λn:Nat=>(n:Int)),by rw[VG];rfl,λe=>h (List.map_eq_nil_iff.mp e),λM hM le=>?_⟩;obtain⟨m,hm,rfl⟩:=V8.mp hM;exact q m hm λn hn=>by have:=le _ (V8.mpr ⟨n,hn,rfl⟩);lia
def M0{a b:Nat}:iD a=iD b↔a=b:=⟨λh=>by cases h;rfl,λh=>by rw[h]⟩
def K3{a b:Nat×Nat}:dW a=dW b↔a=b:=by refine⟨λh=>?_,λh=>by rw[h]⟩;rw[PyData.tuple.injEq,Xz,Xz,PyData.int.injEq,PyData.int.injEq]at h;exact X7 (by have:=h.1;lia) (by have:=h.2.1;lia)
end Dv
namespace Gr
inductive R(E:Nat->Nat->Prop) (p:Nat):Nat->Nat->Prop
 |zero:R E p 0 p
 |step {d x y:Nat}:R E p d x->E x y->R E p (d+1) y
def iP (E:Nat->Nat->Prop) (p x d:Nat):Prop:=R E p d x/\∀e,e<d->¬R E p e x
section
variable{E:Nat->Nat->Prop}{p:Nat}
def iP.eq{x d e:Nat}(h:iP E p x d)(g:iP E p x e):d=e:=by rcases Yc d e with l|l|l;{exact absurd h.1 (g.2 d l)};{exact l};exact absurd g.1 (h.2 e l)
theorem Hu:∀(n:Nat){x d:Nat},d<=n->R E p d x->∃e,e<=d/\iP E p x e
 |0,x,d,l,h=>by
  obtain rfl:d=0:=by lia
  exact⟨0,V5 _,h,λe he=>absurd he (XO e)⟩
 |n+1,x,d,l,h=>by by_cases c:∃e,e<d/\R E p e x;{obtain⟨e,he,hr⟩:=c;obtain⟨e',h1,h2⟩:=Hu n (show e<=n by lia) hr;exact⟨e',by lia,h2⟩};exact⟨d,V5 _,h,λe he hr=>c ⟨e,he,hr⟩⟩
open Classical in
def dst (E:Nat->Nat->Prop) (p x:Nat):Nat:=if h:∃d,iP E p x d then Classical.choose h else 0
def zh{x d:Nat}(h:iP E p x d):dst E p x=d:=by have h':∃d,iP E p x d:=⟨d,h⟩;unfold dst;rw[dif_pos h'];exact(Classical.choose_spec h').eq h
def G5{x d:Nat}(h:R E p d x):iP E p x (dst E p x):=by obtain⟨e,_,g⟩:=Hu d (V5 _) h;rw[zh g];exact g
def R.trans{q:Nat}{d e x:Nat}(h:R E p d q)(g:R E q e x):R E p (d+e) x:=by
 induction g with
 |zero=>exact h
 |step _ s ih=>exact ih.step s
def R.head{q d x:Nat}(h:E p q)(g:R E q d x):R E p (1+d) x:=R.trans (R.step .zero h) g
def R.symm(sy:∀x y,E x y->E y x){d x:Nat}(h:R E p d x):R E x d p:=by
 induction h with
 |zero=>exact .zero
 |step _ s ih=>have:=R.head (sy _ _ s) ih;rwa[Nat.add_comm]at this
structure nu(E:Nat->Nat->Prop) (p r:Nat)(f:Nat->Option Nat)(fB:A07):Prop where
 sound:∀x d,f x=some d->iP E p x d
 upto:∀x d,d<=r->R E p d x->∃e,f x=some e
 low:∀x d,f x=some d->d<=r
 fB:∀x,x∈fB↔f x=some r
structure gG(E:Nat->Nat->Prop) (r:Nat)(f:Nat->Option Nat)(fB:A07)(g:Nat->Option Nat)(reached:A07):Prop where
 ext:∀x d,f x=some d->g x=some d
 new:∀x d,g x=some d->f x=some d\/(f x=none/\d=r+1/\∃h,h∈fB/\E h x)
 got:∀x,x∈reached↔(f x=none/\g x=some (r+1))
def nu.start:nu E p 0 (λx=>if x=p then some 0 else none) [p]:=by
 refine⟨λx d h=>?_,λx d l h=>?_,λx d h=>?_,λx=>?_⟩;{by_cases c:x=p;{rw[if_pos c]at h;cases h;rw[c];exact⟨.zero,λe he=>absurd he (XO e)⟩};rw[if_neg c]at h;cases h}
 .obtain rfl:d=0:=by lia
  cases h;exact⟨0,if_pos rfl⟩
 .by_cases c:x=p;{rw[if_pos c]at h;cases h;exact V5 _};rw[if_neg c]at h;cases h
 rw[V7];constructor;{intro e;exact if_pos e};intro h;by_cases c:x=p;{exact c};rw[if_neg c]at h;cases h
def gG.start{r:Nat}{f:Nat->Option Nat}:gG E r f fB f []:=by refine⟨λx d h=>h,λx d h=>.inl h,λx=>?_⟩;constructor;{intro h;cases h};rintro⟨h1,h2⟩;rw[h1]at h2;cases h2
def gG.put{r:Nat}{f g:Nat->Option Nat}{h y:Nat}(B:gG E r f fB g reached)(he:h∈fB)(hy:E h y)(n:g y=none):gG E r f fB (λx=>if x=y then some (r+1)else g x) (reached++[y]):=by
 have fy:f y=none:=by
  cases e:f y with
  |none=>rfl
  |some d=>rw[B.ext y d e]at n;cases n
 refine⟨λx d e=>?_,λx d e=>?_,λx=>?_⟩;{by_cases c:x=y;{rw[c,fy]at e;cases e};show(if x=y then _ else _)=_;rw[if_neg c];exact B.ext x d e};{by_cases c:x=y;{rw[if_pos c]at e;cases e;rw[c];exact .inr ⟨fy,rfl,h,he,hy⟩};rw[if_neg c]at e;exact B.new x d e};rw[VS,V7,B.got x];constructor;{rintro (⟨h1,h2⟩|rfl);{refine⟨h1,?_⟩;by_cases c:x=y;{exact if_pos c};show(if x=y then _ else _)=_;rw[if_neg c];exact h2};exact⟨fy,if_pos rfl⟩};rintro⟨h1,h2⟩;by_cases c:x=y;{exact .inr c};rw[if_neg c]at h2;exact .inl ⟨h1,h2⟩
theorem gG.none{r:Nat}{f g:Nat->Option Nat}(B:gG E r f fB g reached){x:Nat}(h:g x=.none):f x=.none:=by
 cases e:f x with
 |none=>rfl
 |some d=>rw[B.ext x d e]at h;cases h
def gG.at{r:Nat}{f g:Nat->Option Nat}(B:gG E r f fB g reached)(A:nu E p r f fB){h:Nat}(he:h∈fB):g h=some r:=B.ext h r ((A.fB h).mp he)
def nu.next{r:Nat}{f g:Nat->Option Nat}{fB reached:A07}(A:nu E p r f fB)(B:gG E r f fB g reached)(all:∀h,h∈fB->∀x,E h x->g x≠none):nu E p (r+1) g reached:=by
 refine⟨λx d e=>?_,λx d l h=>?_,λx d e=>?_,λx=>?_⟩;{rcases B.new x d e with h|⟨h1,rfl,h,he,hx⟩;{exact A.sound x d h};have rh:=(A.sound h r ((A.fB h).mp he)).1;refine⟨rh.step hx,λe he hr=>?_⟩;obtain⟨d,hd⟩:=A.upto x e (by lia) hr;rw[h1]at hd;cases hd}
 .by_cases c:d<=r;{obtain⟨e,he⟩:=A.upto x d c h;exact⟨e,B.ext x e he⟩};obtain rfl:d=r+1:=by lia
  cases h with
  |@step _ y _ hy hyx=>
   obtain⟨e,he⟩:=A.upto y r (V5 _) hy;have el:=A.low y e he;by_cases ce:e=r
   .have:=all y ((A.fB y).mpr (ce▸he)) x hyx;cases e':g x with
    |none=>exact absurd e' this
    |some d=>exact⟨d,rfl⟩
   obtain⟨e',he'⟩:=A.upto x (e+1) (by lia) ((A.sound y e he).1.step hyx);exact⟨e',B.ext x e' he'⟩
 .rcases B.new x d e with h|⟨_,rfl,_⟩;{have:=A.low x d h;lia};exact V5 _
 rw[B.got x];constructor;{exact λh=>h.2};intro h;refine⟨?_,h⟩;rcases B.new x (r+1) h with h'|⟨h',_⟩;{have:=A.low x _ h';lia};exact h'
def nu.done{r:Nat}{f:Nat->Option Nat}(A:nu E p r f []):∀{d x:Nat},R E p d x->∃e,f x=some e:=by
 intro d x h;induction h with
 |zero=>exact A.upto p 0 (W7 _) .zero
 |@step d x y _ hxy ih=>
  obtain⟨e,he⟩:=ih;have el:=A.low x e he;have ne:e≠r:=λc=>by have:=(A.fB x).mpr (c▸he);cases this
  exact A.upto y (e+1) (by lia) ((A.sound x e he).1.step hxy)
def nu.val{r:Nat}{f:Nat->Option Nat}(A:nu E p r f []){x d:Nat}(h:R E p d x):f x=some (dst E p x):=by obtain⟨e,he⟩:=A.done h;rw[he,zh (A.sound x e he)]
end
def cnt (f:Nat->Option Nat):Nat->Nat
 |0=>0
 |m+1=>cnt f m+(if f m=none then 1 else 0)
theorem zq{f g:Nat->Option Nat}(h:∀x,g x=none->f x=none):∀m,cnt g m<=cnt f m
 |0=>V5 _
 |m+1=>by have:=zq h m;unfold cnt;by_cases c:g m=none;{rw[if_pos c,if_pos (h m c)];lia};rw[if_neg c];lia
theorem Fc{f g:Nat->Option Nat}(h:∀x,g x=none->f x=none){y:Nat}(fy:f y=none)(gy:g y≠none):∀m,y<m->cnt g m<cnt f m
 |0,l=>absurd l (XO _)
 |m+1,l=>by unfold cnt;by_cases c:y=m;{have:=zq h m;rw[<-c,if_neg gy,if_pos fy,c];lia};have:=Fc h fy gy m (by lia);by_cases c:g m=none;{rw[if_pos c,if_pos (h m c)];lia};rw[if_neg c];lia
def dM (es:Zv) (x y:Nat):Prop:=(x,y)∈es\/(y,x)∈es
def sZ(x y:Nat)(h:dM es x y):dM es y x:=h.elim .inr .inl
def gM (m:Nat)(es:Zv):Prop:=∀p,p<m->∀x,x<m->∃d,R (dM es) p d x
def Lg{m:Nat}(h:∀k,0<k->k<m->∃p,p<k/\(p,k)∈es):gM m es:=by
 have z:∀n x,x<n->x<m->∃d,R (dM es) x d 0:=by
  intro n;induction n with
  |zero=>exact λx h _=>absurd h (XO _)
  |succ n ih=>intro x hx hm;by_cases c:x=0;{rw[c];exact⟨0,.zero⟩};obtain⟨q,hq,he⟩:=h x (by lia) hm;obtain⟨d,hd⟩:=ih q (by lia) (by lia);exact⟨1+d,R.head (.inr he) hd⟩
 intro p hp x hx;obtain⟨d,hd⟩:=z (p+1) p (by lia) hp;obtain⟨e,he⟩:=z (x+1) x (by lia) hx;exact⟨d+e,hd.trans (he.symm sZ)⟩
def yu{m:Nat}{nm:Nat->Nat}(h:gM m es)(onto:∀x,x<m->∃a,a<m/\nm a=x)(e:∀a b,(a,b)∈es->dM fs (nm a) (nm b)):gM m fs:=by
 intro p hp x hx;obtain⟨a,ha,rfl⟩:=onto p hp;obtain⟨b,hb,rfl⟩:=onto x hx;obtain⟨d,hd⟩:=h a ha b hb;have go:∀{d b:Nat},R (dM es) a d b->R (dM fs) (nm a) d (nm b):=by
  intro d b hd;induction hd with
  |zero=>exact .zero
  |step _ s ih=>refine R.step ih ?_;rcases s with s|s;{exact e _ _ s};exact sZ _ _ (e _ _ s)
 exact⟨d,go hd⟩
theorem jN:∀(m:Nat)(l:A07),l.Nodup->(∀x∈l,x<m)->l.length<=m
 |0,[],_,_=>V5 _
 |0,x::_,_,h=>absurd (h x (V3 ..)) (XO _)
 |m+1,l,nd,h=>by
  have h1:(l.erase m).length<=m:=jN m (l.erase m) (nd.sublist (List.erase_sublist ..)) λx hx=>by have:=(nd.mem_erase_iff.mp hx);have:=h x this.2;lia
  have h2:l.length<=(l.erase m).length+1:=by rw[List.length_erase];split<;>lia
  lia
def nb (x:Nat)(e:Nat×Nat):Option Nat:=if e.1=x then some e.2 else if e.2=x then some e.1 else none
def gX (es:Zv) (x:Nat):A07:=es.filterMap (nb x)
def vZ{x y:Nat}(h:nb x e=some y):e=(x,y)\/e=(y,x):=by obtain⟨a,b⟩:=e;unfold nb at h;by_cases c:a=x;{rw[if_pos c]at h;cases h;rw[c];exact .inl rfl};rw[if_neg c]at h;by_cases c2:b=x;{rw[if_pos c2]at h;cases h;rw[c2];exact .inr rfl};rw[if_neg c2]at h;cases h
def vA{x y:Nat}:y∈gX es x↔dM es x y:=by unfold gX;rw[ZH];constructor;{rintro⟨e,he,h⟩;rcases vZ h with rfl|rfl;{exact .inl he};exact .inr he};rintro (h|h);{exact⟨_,h,if_pos rfl⟩};refine⟨_,h,?_⟩;show(if y=x then some x else if x=x then some y else none)=some y;by_cases c:y=x;{rw[if_pos c,c]};rw[if_neg c,if_pos rfl]
def MK{x:Nat}:gX (es++fs) x=gX es x++gX fs x:=ZY ..
structure Good(m:Nat)(es:Zv):Prop where
 lt:∀e∈es,e.1<e.2/\e.2<m
 nd:es.Nodup
def Good.SD{m:Nat}(g:Good m es){x y:Nat}(h:dM es x y):x<m/\y<m:=by rcases h with h|h;{have:x<y/\y<m:=g.lt _ h;lia};have:y<x/\x<m:=g.lt _ h;lia
def Good.Gs{m:Nat}(g:Good m es) (x:Nat):(gX es x).Nodup:=by unfold gX List.Nodup;rw[List.pairwise_filterMap];refine List.Pairwise.imp_of_mem ?_ g.nd;intro a b ha hb ne y hy z hz e;subst e;rcases vZ hy with rfl|rfl<;>rcases vZ hz with rfl|rfl;{exact ne rfl};{have h1:x<y/\y<m:=g.lt _ ha;have h2:y<x/\x<m:=g.lt _ hb;lia};{have h1:y<x/\x<m:=g.lt _ ha;have h2:x<y/\y<m:=g.lt _ hb;lia};exact ne rfl
def Good.Lv{m:Nat}(g:Good m es) (x:Nat):(gX es x).length<=m:=jN m _ (g.Gs x) λy hy=>(g.SD (vA.mp hy)).2
def Good.perm{m:Nat}(p:fs.Perm es)(g:Good m es):Good m fs:=⟨λe h=>g.lt e (p.mem_iff.mp h),p.nodup_iff.mpr g.nd⟩
def G0{m:Nat}(p:fs.Perm es)(h:gM m es):gM m fs:=yu (nm:=id) h (λx hx=>⟨x,hx,rfl⟩) λa b h=>.inl (p.mem_iff.mpr h)
def wJ (ms:A07)(e:Nat×Nat):Nat×Nat:=(min (ms.getD e.1 0) (ms.getD e.2 0),max (ms.getD e.1 0) (ms.getD e.2 0))
def getD_inj{ms:A07}(nd:ms.Nodup){a b:Nat}(ha:a<ms.length)(hb:b<ms.length)(e:ms.getD a 0=ms.getD b 0):a=b:=by rw[VO,VO,VP ha,VP hb]at e;have e':ms[a]=ms[b]:=e;rcases Yc a b with l|l|l;{exact absurd e' (List.pairwise_iff_getElem.mp nd a b ha hb l)};{exact l};exact absurd e'.symm (List.pairwise_iff_getElem.mp nd b a hb ha l)
def CJ{m:Nat}(pm:ms.Perm (List.range m))(h:gM m ps):gM m (ps.map (wJ ms)):=by refine yu (nm:=λa=>ms.getD a 0) h (λx hx=>?_) λa b he=>?_;{obtain⟨i,hi⟩:=Wz (pm.mem_iff.mpr (VU.mpr hx));have li:=(X5.mp hi).1;rw[pm.length_eq,VD]at li;refine⟨i,li,?_⟩;show ms.getD i 0=x;rw[VO,hi];rfl};have hm:wJ ms (a,b)∈ps.map (wJ ms):=V8.mpr ⟨_,he,rfl⟩;show dM _ (ms.getD a 0) (ms.getD b 0);have e:wJ ms (a,b)=(min (ms.getD a 0) (ms.getD b 0),max (ms.getD a 0) (ms.getD b 0)):=rfl;rw[e]at hm;rcases YZ (ms.getD a 0) (ms.getD b 0)with l|l;{rw[Xf l,Nat.max_eq_right l]at hm;exact .inl hm};rw[Yb l,Nat.max_eq_left l]at hm;exact .inr hm
section
variable{E:Nat->Nat->Prop}{p:Nat}
def iP.pred{x d:Nat}(h:iP E p x (d+1)):∃y,iP E p y d/\E y x:=by
 obtain⟨h1,h2⟩:=h;cases h1 with
 |@step _ y _ hy hyx=>refine⟨y,⟨hy,λe he hr=>?_⟩,hyx⟩;exact h2 (e+1) (by lia) (hr.step hyx)
theorem iP.chain{m:Nat}(lt:∀x y,E x y->x<m/\y<m)(hp:p<m):∀{d x:Nat},iP E p x d->∃l:A07,l.length=d+1/\l.Nodup/\(∀y∈l,y<m)/\∀y∈l,∃k,k<=d/\iP E p y k
 |0,x,h=>by cases h.1;refine⟨[p],rfl,W6.mpr ⟨W0,Wd⟩,λy hy=>?_,λy hy=>?_⟩;{rw[V7.mp hy];exact hp};rw[V7.mp hy];exact⟨0,V5 _,h⟩
 |d+1,x,h=>by obtain⟨y,hy,hyx⟩:=h.pred;obtain⟨l,l1,l2,l3,l4⟩:=iP.chain lt hp hy;refine⟨x::l,by rw[VI,l1],W6.mpr ⟨λhx=>?_,l2⟩,λz hz=>?_,λz hz=>?_⟩;{obtain⟨k,hk,hd⟩:=l4 x hx;have:=hd.eq h;lia};{rcases VB.mp hz with rfl|hz;{exact(lt _ _ hyx).2};exact l3 z hz};rcases VB.mp hz with rfl|hz;{exact⟨d+1,V5 _,h⟩};obtain⟨k,hk,hd⟩:=l4 z hz;exact⟨k,by lia,hd⟩
def iP.small{m:Nat}(lt:∀x y,E x y->x<m/\y<m)(hp:p<m){d x:Nat}(h:iP E p x d):d<m:=by obtain⟨l,l1,l2,l3,_⟩:=iP.chain lt hp h;have:=jN m l l2 l3;lia
end
def m6:Nat->Nat
 |0=>0
 |b+1=>m6 b+b
def zz{a b:Nat}(h:a<=b):m6 a<=m6 b:=by
 induction b with
 |zero=>
  obtain rfl:a=0:=by lia
  exact V5 _
 |succ b ih=>by_cases c:a=b+1;{rw[c];exact V5 _};exact Vx (ih (by lia)) (Xd _ _)
theorem BR:∀m,2*m6 m<=m*m
 |0=>V5 _
 |m+1=>by have:=BR m;show 2*(m6 m+m)<=(m+1)*(m+1);rw[Nat.mul_add,Nat.add_mul,Nat.mul_add];lia
def ix (e:Nat×Nat):Nat:=m6 e.2+e.1
def O4(he:e.1<e.2)(hf:f.1<f.2)(h:ix e=ix f):e=f:=by
 obtain⟨a,b⟩:=e;obtain⟨c,d⟩:=f;unfold ix at h;dsimp only at he hf h;have key:∀{a b c d:Nat},a<b->b<d->m6 b+a<m6 d+c:=λ{a b c d} h1 h2=>by have:=zz (a:=b+1) (b:=d) (by lia);have e:m6 (b+1)=m6 b+b:=rfl;lia
 rcases Yc b d with l|l|l;{have:=key (c:=c) he l;lia};{subst l;rw[show a=c by lia]};have:=key (c:=a) hf l;lia
def sO{m:Nat}(g:Good m ps):2*ps.length<=m*m:=by have h:=jN (m6 m) (ps.map ix) ?_ ?_;{rw[V4]at h;have:=BR m;lia};{unfold List.Nodup;rw[List.pairwise_map];exact List.Pairwise.imp_of_mem (λ{e f} he hf ne h=>ne (O4 (g.lt e he).1 (g.lt f hf).1 h)) g.nd};intro x hx;obtain⟨e,he,rfl⟩:=V8.mp hx;have l:=g.lt e he;have:=zz (a:=e.2+1) (b:=m) (by lia);have e2:m6 (e.2+1)=m6 e.2+e.2:=rfl;unfold ix;lia
end Gr
local macro_rules | `(tactic| bv_omega) => do let ls ← (List.range 224).toArray.mapM fun k => `(Lean.Parser.Tactic.simpLemma| $(Lean.mkIdent (.str `Dv s!"rr{k}")):ident); `(tactic| dsimp only[$ls,*, Dv.dyr0, Dv.dyr1, Dv.dyr2, Dv.dyr3, Nat.reduceBEq])
local macro_rules | `(tactic| rfl') => do let ls ← (List.range 224).toArray.mapM fun k => `(Lean.Parser.Tactic.simpLemma| $(Lean.mkIdent (.str `Dv s!"rr{k}")):ident); `(tactic| ((try bv_omega); try simp only[$ls,*, Dv.dw, Dv.P7, Dv.dy, Dv.dz, Nat.reduceBEq]))
local macro_rules | `(tactic| simp![$xs,*]) => do let ls ← (List.range 224).toArray.mapM fun k => `(Lean.Parser.Tactic.simpLemma| $(Lean.mkIdent (.str `Dv s!"rr{k}")):ident); let ys : Array (Lean.TSyntax `Lean.Parser.Tactic.simpLemma) := xs.getElems.map fun x => ⟨x.raw⟩; let zs := ls ++ ys; `(tactic| ((try bv_omega); try simp only[$zs,*, Dv.dw, Dv.P7, Dv.dy, Dv.dz, Nat.reduceBEq]))
namespace PB
open PySem L2 Dv
def B0{α:Type}{m k:Nat}{f:Nat->α}{v:α}:((List.range m).map f).set k v=(List.range m).map λi=>if i=k then v else f i:=by refine WA λj=>?_;rw[Wa,V4,VD,VE,VE];by_cases h:j<m;{rw[VF h];by_cases c:k=j;{subst c;rw[if_pos rfl,if_pos h];simp};rw[if_neg c];simp[Ne.symm c]};rw[VY (by rw[VD];lia)];by_cases c:k=j;{subst c;rw[if_pos rfl,if_neg h];rfl};rw[if_neg c];rfl
def MP{α:Type}{m k:Nat}{f:Nat->α}(h:k<m):((List.range m).map f)[k]?=some (f k):=by rw[VE,VF h];rfl
noncomputable def SV (f:DM) (i n:Nat)(E1:En)(w:PyData)(Q:En->Kd->PyData->Prop):Prop:=∃a p ds m es k d E2,w=.int a/\E1[i]?=some (some (.dp p,.list ds))/\lM ds.length a=some m/\ds[m]?=some (.list es)/\E1[n]?=some (some (k,d))/\i≠n/\dI E1 n=some E2/\f es [d] λnew v=>Q (E2.set i (some (.dp p,.list (ds.set m (.list new))))) .sh v
def ES{i n:Nat}:yI f i j n x (o::E) Q=(here (o::E) i=true/\j x (o::E) λE1 _ w=>SV f i n E1 w Q):=rfl
def FY{i n a m:Nat}{p:Bool}{E:En}{g:Nat->A00}{Q:En->Kd->PyData->Prop}(h1:E[i]?=some (some (.dp p,.list ((List.range m).map λi=>.list (g i)))))(h2:E[n]?=some (some (.sh,d)))(ne:i≠n)(ha:a<m)(hs:(g a).length<16777216)(q:Q (E.set i (some (.dp p,.list ((List.range m).map λk=>.list (if k=a then g k++[d]else g k))))) .sh .none):SV cy i n E (iD a) Q:=by
 refine⟨a,p,_,a,g a,.sh,d,E,rfl,h1,?_,MP ha,h2,ne,?_,?_⟩;{rw[V4,VD];exact Gk ha}
 .have:=zg (E:=E) (is:=[n]) (by simp[gm,h2]);unfold d8 at this;cases e:dI E n with
  |none=>rw[e]at this;cases this
  |some E2=>rw[e]at this;exact this
 refine⟨hs,?_⟩;show Q (E.set i (some (.dp p,.list (((List.range m).map λi=>PyData.list (g i)).set a (.list (g a++[d])))))) .sh .none;rw[B0];have e:((List.range m).map λk=>if k=a then PyData.list (g a++[d])else .list (g k))=(List.range m).map λk=>PyData.list (if k=a then g k++[d]else g k):=by refine VX λk _=>?_;by_cases c:k=a;{rw[if_pos c,if_pos c,c]};rw[if_neg c,if_neg c]
 rw[e];exact q
abbrev ye (m:Nat)(es:Zv):PyData:=.list ((List.range m).map λi=>nD (Gr.gX es i))
def D4:bz:=λds Q x=>∃m es,ds=[wD m es]/\m<=60/\Gr.Good m es/\Q [] (.dp false) (ye m es)
def N4:∀ds Q x,D4 ds Q x->gO (aY [false] Q x) (ini [false] ds++List.replicate 6 none):=by
 rintro _ Q x⟨m,es,rfl,hm,gd,q⟩;unfold gO;rfl';rw[if_pos (by lia)];refine aA rfl (NX (λ_=>PyData.list []) rfl (λa ha I hI=>?_) ?_ (by rw[VD];lia));{rfl';exact⟨by lia,⟨false,rfl⟩,hI _ rfl⟩};rfl';refine vh (λi E=>BB λ(o4 o5:Option (Kd×PyData))=>EG (E=[some (.sh,wD m es),some (.sh,iD m),some (.sh,.tuple (es.map dW)),some (.dp false,ye m (es.take i)),o4,o5,none]) (bu o4=true) (bu o5=true)) ⟨none,none,rfl,rfl,rfl⟩ ?_ ?_
 .rintro i⟨a,b⟩_ hi⟨o4,o5,rfl,ho4,ho5⟩;have hab:=gd.lt _ (VZ hi);have hab:a<b/\b<m:=hab;simp![ho4,ho5,ES];have hn:∀k,(Gr.gX (es.take i) k).length<1000:=λk=>by have g2:Gr.Good m (es.take i):=⟨λe he=>gd.lt e (List.mem_of_mem_take he),List.Sublist.nodup (List.take_sublist _ _) gd.nd⟩;have:=g2.Lv k;lia
  refine FY (g:=λk=>(Gr.gX (es.take i) k).map iD) rfl rfl (by lia) (by lia) (by rw[V4];have:=hn a;lia) ?_;simp![ho4,ho5,ES];refine FY (g:=λk=>if k=a then(Gr.gX (es.take i) k).map iD++[iD b]else(Gr.gX (es.take i) k).map iD) rfl rfl (by lia) (by lia) (by rw[if_neg (by lia),V4];have:=hn b;lia) ?_;refine⟨some (.sh,iD a),some (.sh,iD b),?_,rfl,rfl⟩;simp only[List.set_cons_succ,List.set_cons_zero];have e:∀k,(if k=b then(if k=a then(Gr.gX (es.take i) k).map iD++[iD b]else(Gr.gX (es.take i) k).map iD)++[iD a]else if k=a then(Gr.gX (es.take i) k).map iD++[iD b]else(Gr.gX (es.take i) k).map iD)=(Gr.gX (es.take (i+1)) k).map iD:=λk=>by rw[take_snoc hi,Gr.MK,VR];unfold Gr.gX;rw[XR,List.filterMap_nil];unfold Gr.nb;simp only;by_cases c:k=a;{subst c;rw[if_neg (by lia),if_pos rfl,if_pos rfl];rfl};by_cases c2:k=b;{subst c2;rw[if_pos rfl,if_neg c,if_neg (Ne.symm c),if_pos rfl];rfl};rw[if_neg c2,if_neg c,if_neg (Ne.symm c),if_neg (Ne.symm c2)];exact(W9 _).symm
  rw[VX λk _=>congrArg PyData.list (e k)]
 rintro _⟨o4,o5,rfl,ho4,ho5⟩;rw[WU];rfl';exact q
open Classical in
def sj (es:Zv) (p x:Nat):Option Nat:=if ∃d,Gr.R (Gr.dM es) p d x then some (Gr.dst (Gr.dM es) p x)else none
def oD:Option Nat->PyData
 |none=>.none
 |some n=>iD n
abbrev t6 (f:Nat->Option Nat) (m:Nat):PyData:=.list ((List.range m).map λx=>oD (f x))
def EN{f:Nat->Option Nat}{m y d:Nat}:(((List.range m).map λx=>oD (f x)).set y (iD d))=(List.range m).map λx=>oD (if x=y then some d else f x):=by rw[B0];refine VX λk _=>?_;by_cases c:k=y;{rw[if_pos c,if_pos c];rfl};rw[if_neg c,if_neg c]
def Qh{m p r:Nat}{f:Nat->Option Nat}(B:Gr.nu (Gr.dM es) p r f []) (x:Nat):f x=sj es p x:=by
 unfold sj;split;{rename_i h;obtain⟨d,h⟩:=h;exact B.val h};rename_i h;cases e:f x with
 |none=>rfl
 |some d=>exact absurd ⟨d,(B.sound x d e).1⟩ h
def HQ{m p x:Nat}(cn:Gr.gM m es)(hp:p<m)(hx:x<m):sj es p x=some (Gr.dst (Gr.dM es) p x):=if_pos (cn p hp x hx)
def C8:bz:=λds Q x=>∃m es p,ds=[wD m es,iD p]/\m<=60/\Gr.Good m es/\p<m/\Q [] (.ow false) (t6 (sj es p) m)
def Nd:fm false [oD o,.none] P=P .sh (.bool o.isNone):=by cases o<;>simp[oD,fm,dx]
def QW:lf (oD o)=true:=by cases o<;>rfl
def Mx{y:Nat}:nD (l++[y])=.list (l.map iD++[iD y]):=by show PyData.list ((l++[y]).map iD)=_;rw[VR];rfl
def Oa:∀ds Q x,C8 ds Q x->jr D4 (aY [false,false] Q x) (ini [false,false] ds++List.replicate 6 none):=by
 rintro _ Q x⟨m,es,p,rfl,hm,gd,hp,q⟩;unfold jr;rfl';refine⟨m,es,rfl,hm,gd,?_⟩;rfl';have e0:(List.replicate m [PyData.none]).flatten=(List.range m).map λ_=>PyData.none:=by
  clear q hp gd hm;induction m with
  |zero=>rfl
  |succ k ih=>rw[List.replicate_succ',List.flatten_append,ih,WZ,VR];rfl
 rw[e0];refine⟨by lia,⟨by lia,by lia,by lia⟩,jt (by rw[V4,VD];exact hp) ?_⟩;rw[show PyData.int 0=iD 0 from rfl,show((List.range m).map λ_=>PyData.none)=(List.range m).map λx=>oD ((λ_=>none:Nat->Option Nat) x)from rfl,EN];refine⟨by lia,?_⟩;refine⟨λn E=>S3 λ(r:Nat)(g:Nat->Option Nat)(ed:A07)(k2 k4:Kd)(o5 o6 o7:Option (Kd×PyData))=>Qt (E=[some (.sh,wD m es),some (.sh,iD p),some (k2,ye m es),some (.ow false,t6 g m),some (k4,nD ed),o5,o6,o7]) ((k2=.dp false\/k2=.sh)) ((k4=.ow false\/k4=.sh)) (bu o5=true) (bu o6=true) (bu o7=true) (n=2*Gr.cnt g m+(if ed=[]then 0 else 1)) (Gr.nu (Gr.dM es) p r g ed) (∀x∈ed,x<m),?_,?_⟩;{exact⟨_,0,_,[p],_,_,none,none,none,rfl,.inl rfl,.inl rfl,rfl,rfl,rfl,rfl,Gr.nu.start,λx hx=>by rw[V7.mp hx];exact hp⟩};rintro n _⟨r,g,ed,k2,k4,o5,o6,o7,rfl,hk2,hk4,ho5,ho6,ho7,rfl,B,edm⟩;simp![List.isEmpty_map];refine⟨by rcases hk4 with rfl|rfl<;>rfl,?_⟩;cases ed with
 |nil=>simp![List.isEmpty_nil];have e:t6 g m=t6 (sj es p) m:=congrArg PyData.list (VX λx _=>congrArg oD (Qh (m:=m) B x));rw[e];exact q
 |cons e0 er=>
  simp![List.isEmpty_cons,ho5];have f4:k4.fz=true:=by rcases hk4 with rfl|rfl<;>rfl
  rw[if_pos f4];refine⟨by lia,aA rfl ?_⟩;have ne:e0::er≠[]:=YW _ _;generalize e0::er=ed at B edm ne⊢;have hE2:∀(k2:Kd),(k2=.dp false\/k2=.sh)->k2.rd=true/\k2.fz=true:=λk h=>by rcases h with rfl|rfl<;>exact⟨rfl,rfl⟩
  refine vh (λi E=>u5 λ(g':Nat->Option Nat)(rc:A07)(k2:Kd)(o6 o7:Option (Kd×PyData))=>Hx (E=[some (.sh,wD m es),some (.sh,iD p),some (k2,ye m es),some (.ow false,t6 g' m),some (.sh,nD ed),some (.ow false,nD rc),o6,o7]) ((k2=.dp false\/k2=.sh)) (bu o6=true) (bu o7=true) (Gr.gG (Gr.dM es) r g ed g' rc) ((∀j h,j<i->ed[j]?=some h->∀x,Gr.dM es h x->g' x≠none)) (rc.Nodup) (∀x∈rc,x<m)) ⟨g,[],k2,o6,o7,rfl,hk2,ho6,ho7,.start,λj h hj=>by lia,Wd,λ_ h=>absurd h W0⟩ ?_ ?_
  .rintro i h _ hi⟨g',rc,k2,o6,o7,rfl,hk2,ho6,ho7,BI,don,rcn,rcm⟩;have mh:h∈ed:=VZ hi;have hm':=edm h mh;obtain⟨rd2,fz2⟩:=hE2 k2 hk2;simp![ho6,rd2];rw[VF hm'];refine aA rfl ?_;simp![fz2];have loop:∀k2,(k2=.dp false\/k2=.sh)->yz (List.map iD (Gr.gX es h)) (Tg.nm 7) (b8 (bD (aa (fm false) [Arg.ev (aa aB [Arg.pk 3,Arg.pk 7]),Arg.ev (dC PyData.none)])) (ao (gS 3 (br 7) (aa cF [Arg.ev (aa aB [Arg.pk 3,Arg.pk 6]),Arg.ev (dC (PyData.int 1))])) (b6 (iR cy 5 [br 7]))) cU)
    { nx:=λE=>u5 λ(g':Nat->Option Nat)(rc:A07)(k2:Kd)(o6 o7:Option (Kd×PyData))=>Hx (E=[some (.sh,wD m es),some (.sh,iD p),some (k2,ye m es),some (.ow false,t6 g' m),some (.sh,nD ed),some (.ow false,nD rc),o6,o7]) ((k2=.dp false\/k2=.sh)) (bu o6=true) (bu o7=true) (Gr.gG (Gr.dM es) r g ed g' rc) ((∀j h,j<i+1->ed[j]?=some h->∀x,Gr.dM es h x->g' x≠none)) (rc.Nodup) (∀x∈rc,x<m),rt:=(aY [false,false] Q x).rt,xc:=x }
    [some (.sh,wD m es),some (.sh,iD p),some (k2,ye m es),some (.ow false,t6 g' m),some (.sh,nD ed),some (.ow false,nD rc),some (.sh,iD h),o7]:=by
    intro k2 hk2;refine vh (λi' E=>EX λ(g':Nat->Option Nat)(rc:A07)(o7:Option (Kd×PyData))=>Sv (E=[some (.sh,wD m es),some (.sh,iD p),some (k2,ye m es),some (.ow false,t6 g' m),some (.sh,nD ed),some (.ow false,nD rc),some (.sh,iD h),o7]) (bu o7=true) (Gr.gG (Gr.dM es) r g ed g' rc) ((∀j h,j<i->ed[j]?=some h->∀x,Gr.dM es h x->g' x≠none)) ((∀j y,j<i'->(Gr.gX es h)[j]?=some y->g' y≠none)) (rc.Nodup) (∀x∈rc,x<m)) ⟨g',rc,o7,rfl,ho7,BI,don,λj y hj=>by lia,rcn,rcm⟩ ?_ ?_
    .rintro i' y _ hy⟨g',rc,o7,rfl,ho7,BI,don,dni,rcn,rcm⟩;have hyE:Gr.dM es h y:=Gr.vA.mp (VZ hy);have ym:y<m:=(gd.SD hyE).2;have eh:=BI.at B mh;simp![ho7,VF ym,VF hm',QW,Nd];cases gy:g' y with
     |some d=>
      simp only[dw,Option.isNone_some];refine⟨g',rc,some (.sh,iD y),rfl,rfl,BI,don,λj z hj hz=>?_,rcn,rcm⟩
      by_cases c:j=i'
      .subst c;rw[hy]at hz;cases hz;rw[gy];simp
      .exact dni j z (by lia) hz
     |none=>
      have e1:oD (some r)=iD r:=rfl;have e2:(r:Int)+1=((r+1:Nat):Int):=rfl;simp![Option.isNone_none,eh,e1,e2];have yrc:y∉rc:=λh'=>by
       have:=((BI.got y).mp h').2;rw[gy]at this;cases this
      have rcl:=Gr.jN m rc rcn rcm;refine jt ym ⟨by lia,_,rc++[y],some (.sh,iD y),?_,rfl,BI.put mh hyE gy,λj h' hj he x hx=>?_,λj z hj hz=>?_,?_,λx hx=>?_⟩
      .rw[EN,Mx]
      .show(if x=y then some (r+1)else g' x)≠none
       split
       .exact λh=>(nomatch h)
       .exact don j h' hj he x hx
      .show(if z=y then some (r+1)else g' z)≠none
       split
       .exact λh=>(nomatch h)
       .rename_i c
        by_cases c2:j=i'
        .subst c2;rw[hy]at hz;cases hz;exact absurd rfl c
        .exact dni j z (by lia) hz
      .exact YU.mpr ⟨rcn,W6.mpr ⟨W0,Wd⟩,λa ha b hb e=>by
        cases V7.mp hb;exact yrc (e▸ha)⟩
      .rcases VS.mp hx with h'|h'
       .exact rcm x h'
       .rw[V7.mp h'];exact ym
    .rintro _⟨g',rc,o7,rfl,ho7,BI,don,dni,rcn,rcm⟩;refine⟨g',rc,k2,_,o7,rfl,hk2,rfl,ho7,BI,λj h' hj hh x hx=>?_,rcn,rcm⟩
     by_cases c:j=i
     .subst c;rw[hi]at hh;cases hh;obtain⟨l,hl⟩:=List.mem_iff_getElem?.mp (Gr.vA.mpr hx);exact dni l x (cG hl) hl
     .exact don j h' (by lia) hh x hx
   split;{exact aA rfl (loop _ hk2)};exact aA rfl (loop _ (.inr rfl))
  rintro _⟨g',rc,k2,o6,o7,rfl,hk2,ho6,ho7,BI,don,rcn,rcm⟩;rfl';have all:∀h,h∈ed->∀x,Gr.dM es h x->g' x≠none:=λh hh=>by obtain⟨j,hj⟩:=List.mem_iff_getElem?.mp hh;exact don j h (cG hj) hj
  refine⟨_,?_,r+1,g',rc,k2,.sh,some (.sh,nD rc),o6,o7,rfl,hk2,.inr rfl,rfl,ho6,ho7,rfl,B.next BI all,rcm⟩;rw[if_neg ne];cases rc with
  |nil=>have:=Gr.zq (f:=g) (g:=g') (λx h=>BI.none h) m;rw[if_pos rfl];lia
  |cons y rc=>obtain⟨h1,h2⟩:=(BI.got y).mp (V3 ..);have:=Gr.Fc (f:=g) (g:=g') (λx h=>BI.none h) h1 (by rw[h2];exact λh=>(nomatch h)) m (rcm y (V3 ..));rw[if_neg (YW _ _)];lia
structure cJ(m:Nat)(es:Zv):Prop where
 pos:1<=m
 le:m<=60
 gd:Gr.Good m es
 cn:Gr.gM m es
def cJ.few{m:Nat}(W:cJ m es):es.length<=1800:=by have h:=Gr.sO W.gd;have:=Z2 W.le W.le;lia
abbrev aD (es:Zv) (p x:Nat):Nat:=Gr.dst (Gr.dM es) p x
abbrev mC (m:Nat)(es:Zv) (p:Nat):PyData:=.list ((List.range m).map λx=>iD (aD es p x))
def QL{m p:Nat}(cn:Gr.gM m es)(hp:p<m):t6 (sj es p) m=mC m es p:=congrArg PyData.list (VX λx hx=>by rw[HQ cn hp (VU.mp hx)];rfl)
def DX:bz:=λds Q x=>∃m es,∃p:Int,ds=[wD m es,.int p]/\(0<=p/\p<m->Q [] .sh .none)/\(¬(0<=p/\p<m)->x "NoPlace" .none)
def P0:∀ds Q x,DX ds Q x->gJ (aY [false,false] Q x) (ini [false,false] ds++List.replicate 0 none):=by rintro _ Q x⟨m,es,p,rfl,q,r⟩;unfold gJ;rfl';split;{rename_i h;split;{rename_i h2;exact r λz=>h2 z.2};rename_i h2;exact q ⟨h,Decidable.of_not_not h2⟩};rename_i h;exact r λz=>h z.1
def Dr:bz:=λds Q x=>∃m es,∃p:Int,ds=[wD m es,.int p]/\cJ m es/\(∀k:Nat,p=k->k<m->Q [] (.ow false) (mC m es k))/\(¬(0<=p/\p<m)->x "NoPlace" .none)
def Ql:∀ds Q x,Dr ds Q x->mE DX C8 (aY [false,false] Q x) (ini [false,false] ds++List.replicate 0 none):=by
 rintro _ Q x⟨m,es,p,rfl,W,q,r⟩;unfold mE;rfl';refine⟨m,es,p,rfl,λhp=>?_,r⟩;rfl';obtain⟨k,rfl⟩:=Int.eq_ofNat_of_zero_le hp.1;have hk:k<m:=by lia
 refine⟨m,es,k,rfl,W.le,W.gd,hk,?_⟩;rfl';rw[QL W.cn hk];exact q k rfl hk
abbrev Th:=Nat ⊕ (Nat×Nat)
def b7:Th->PyData
 |.inl x=>iD x
 |.inr e=>dW e
def TV (m:Nat):Th->Prop
 |.inl x=>x<m
 |.inr e=>e.1<m/\e.2<m
def td (es:Zv) (p:Nat):Th->Nat
 |.inl x=>aD es p x
 |.inr e=>min (aD es p e.1) (aD es p e.2)
def y9:lf (b7 t)=true:=by cases t<;>rfl
def CM:bz:=λds Q x=>∃m es p,∃e:Nat×Nat,ds=[mC m es p,dW e]/\e.1<m/\e.2<m/\Q [] .sh (iD (td es p (.inr e)))
def MX:∀ds Q x,CM ds Q x->kZ (aY [false,false] Q x) (ini [false,false] ds++List.replicate 0 none):=by rintro _ Q x⟨m,es,p,e,rfl,h1,h2,q⟩;unfold kZ;simp![VF h1,VF h2];exact q
def CL:bz:=λds Q x=>∃m es p t,ds=[mC m es p,b7 t]/\TV m t/\Q [] .sh (iD (td es p t))
def Po:∀ds Q x,CL ds Q x->mL CM (aY [false,false] Q x) (ini [false,false] ds++List.replicate 0 none):=by
 rintro _ Q x⟨m,es,p,t,rfl,h,q⟩;unfold mL;cases t with
 |inl k=>have h:k<m:=h;simp![b7,VF h];exact q
 |inr e=>simp![b7];refine⟨m,es,p,e,rfl,h.1,h.2,?_⟩;rfl';exact q
def bw (k:Str) (m:Nat)(es:Zv):List Th:=(if k="ties" then []else(List.range m).map Sum.inl)++(if k="places" then []else es.map Sum.inr)
def oj{m:Nat}(g:Gr.Good m es):∀t∈bw k m es,TV m t:=by intro t ht;rcases VS.mp ht with h|h;{split at h;{cases h};obtain⟨x,hx,rfl⟩:=V8.mp h;exact VU.mp hx};split at h;{cases h};obtain⟨e,he,rfl⟩:=V8.mp h;have:=g.lt e he;exact⟨by show e.1<m;lia,this.2⟩
def DL:bz:=λds Q x=>∃m es k,ds=[wD m es,.str k]/\cJ m es/\Q [] (.ow false) (.list ((bw k m es).map b7))
def Qd:∀ds Q x,DL ds Q x->mD (aY [false,false] Q x) (ini [false,false] ds++List.replicate 4 none):=by
 rintro _ Q x⟨m,es,k,rfl,W,q⟩;have e:(bw k m es).map b7=(if k="ties" then []else(List.range m).map iD)++(if k="places" then []else es.map dW):=by unfold bw;rw[VR];congr 1;{split;{rfl};rw[VG];rfl};split;{rfl};rw[VG];rfl
 have hm:=W.le;have hf:=W.few;unfold mD;rfl';rw[e]at q;by_cases c1:k="ties";{by_cases c2:k="places";{subst c1;exact absurd c2 (by decide)};simp only[if_pos c1,if_neg c2,dv,dw,dx,dy,dz,Nat.reduceBEq]at q⊢;exact⟨by lia,by lia,q⟩};by_cases c2:k="places";{simp only[if_neg c1,if_pos c2,dv,dw,dx,dy,dz,Nat.reduceBEq,W9]at q⊢;exact⟨⟨by lia,by lia⟩,by lia,by lia,q⟩};simp only[if_neg c1,if_neg c2,dv,dw,dx,dy,dz,Nat.reduceBEq]at q⊢;exact⟨⟨by lia,by lia⟩,by lia,q⟩
def yh{ms:A07}{m:Nat}(pm:ms.Perm (List.range m)){a:Nat}(ha:a<m):ms[a]?=some (ms.getD a 0)/\ms.getD a 0<m:=by
 have h:a<ms.length:=by rw[pm.length_eq,VD];exact ha
 have e:ms.getD a 0=ms[a]:=by rw[VO,VP h];rfl
 rw[e];exact⟨VP h,VU.mp (pm.mem_iff.mp (Xp h))⟩
end PB
namespace Dv
open PySem L2
def dd:type_of%@put_kv2/\type_of%@kvP_len/\type_of%@in_ts/\type_of%@nin_ts/\type_of%@list_ts/\(∀{i:Int},mj (.int i)=true):=⟨@put_kv2,@kvP_len,@in_ts,@nin_ts,@list_ts,rfl⟩
def oY{α:Type}{l:List α}{enc:α->PyData}{tg:Tg}{b:DS}{D:fX}{E1:En}(I:Nat->En->Prop)(h0:I 0 E1)(hs:∀(J:En->Prop) i a E,l[i]?=some a->(∀E',I (i+1) E'->J E')->I i E->∃E2,cX tg (enc a) E=some E2/\b { D with nx:=J } E2)(he:∀E,I l.length E->D.nx E):yz (l.map enc) tg b D E1:=vh I h0 (λi a E ha hi=>hs (I (i+1)) i a E ha (λ_ h=>h) hi) he
def kD{n:Nat}{enc:Nat->PyData}{tg:Tg}{b:DS}{D:fX}{E1:En}(I:Nat->En->Prop)(h0:I 0 E1)(hs:∀(J:En->Prop) i E,i<n->(∀E',I (i+1) E'->J E')->I i E->∃E2,cX tg (enc i) E=some E2/\b { D with nx:=J } E2)(he:∀E,I n E->D.nx E):yz ((List.range n).map enc) tg b D E1:=OR I h0 (λi E ha hi=>hs (I (i+1)) i E ha (λ_ h=>h) hi) he
def kN{a b:DS}{D:fX}{E:En}(J0:En->Prop)(h1:∀J:En->Prop,(∀E',J0 E'->J E')->a { D with nx:=J } E)(h2:∀B:En->Prop,(∀E',B E'=b D E')->∀E',J0 E'->B E'):sL a b D E:=⟨J0,h1 J0 λ_ h=>h,λE' h=>h2 (b D) (λ_=>rfl) E' h⟩
def RZ{c:DT}{b:DS}{D:fX}{E:En}(W:Nat->En->Prop)(h0:∃m,W m E)(hs:∀(J:En->Prop) m E,(∀m' E',m'<m->W m' E'->J E')->W m E->c D.xc E λE1 t=>if t=true then b { D with nx:=J } E1 else D.nx E1):qC c b D E:=⟨W,h0,λm E h=>hs (λE'=>∃m',m'<m/\W m' E') m E (λm' E' l w=>⟨m',l,w⟩) h⟩
end Dv
namespace PB
open PySem L2 Dv Gr
abbrev inD (l:A08):PyData:=.list (l.map .int)
def tW(c:Int){d:Int}(h:0<d):∃mk:Nat,c%d=mk/\(mk:Int)<d:=by have h1:=Int.emod_nonneg c (show d≠0 by lia);have h2:=Int.emod_lt_of_pos c h;exact⟨(c%d).toNat,by lia,by lia⟩
def QZ{ns:A08}:dl 8 (.list (ns.map .int))=true:=by show((ns.map PyData.int).all (dl 7))=true;rw[VL];intro d h;obtain⟨c,_,rfl⟩:=V8.mp h;rfl
end PB
namespace PB
open PySem L2 Dv
theorem gh{α:Type}{f:α->PyData}{p:α->Bool}:∀{l:List α},(l.filterMap λt=>if p t=true then some (f t)else none)=(l.filter p).map f
 |[]=>rfl
 |a::l=>by
  rw[XR,List.filter_cons];cases h:p a with
  |true=>simp only[if_true];rw[gh];rfl
  |false=>simp only[if_neg (VV)];exact gh
end PB
namespace Gr
def wj (m:Nat)(es:Zv):Prop:=∀x,x<m->∃d,R (dM es) 0 d x
def R.mono{E F:Nat->Nat->Prop}(s:∀x y,E x y->F x y){p d x:Nat}(h:R E p d x):R F p d x:=by
 induction h with
 |zero=>exact .zero
 |step _ e ih=>exact ih.step (s _ _ e)
def wj.conn{m:Nat}(h:wj m es):gM m es:=λp hp x hx=>by obtain⟨d,hd⟩:=h p hp;obtain⟨e,he⟩:=h x hx;exact⟨d+e,(hd.symm sZ).trans he⟩
theorem wj.mono{m:Nat}(h:wj m es)(s:∀e,e∈es->e∈fs):wj m fs:=λx hx=>by obtain⟨d,hd⟩:=h x hx;exact⟨d,hd.mono λx y e=>e.imp (s _) (s _)⟩
def gM.UH{m:Nat}(h:gM m es):wj m es:=λx hx=>h 0 (by lia) x hx
def Good.put{m:Nat}(g:Good m es){x y:Nat}(l:x<y)(hy:y<m)(n:(x,y)∉es):Good m (es++[(x,y)]):=by refine⟨λe he=>?_,YU.mpr ⟨g.nd,W6.mpr ⟨W0,Wd⟩,λe he f hf h=>?_⟩⟩;{rcases VS.mp he with he|he;{exact g.lt e he};cases V7.mp he;exact⟨l,hy⟩};cases V7.mp hf;exact n (h▸he)
end Gr
namespace PB
open PySem L2 Dv Gr
def bf(h:∀B:En->Prop,(∀E',B E'=b D E')->a { D with nx:=B } E):ao a b D E:=h (b D) λ_=>rfl
end PB
local macro_rules | `(tactic| bv_omega) => do let ls ← (List.range 224).toArray.mapM fun k => `(Lean.Parser.Tactic.simpLemma| $(Lean.mkIdent (.str `Dv s!"rr{k}")):ident); `(tactic| dsimp only[$ls,*, Dv.dyr0, Dv.dyr1, Dv.dyr2, Dv.dyr3, Nat.reduceBEq, Dv.kJ, Dv.kI])
local macro_rules | `(tactic| symm) => do let h := Lean.mkIdent `hB; let b := Lean.mkIdent `B; `(tactic| (rw [$h:ident]; clear $h $b; refine PB.bf fun $b $h => ?_; rfl'))
local macro_rules | `(tactic| left) => do let h := Lean.mkIdent `hB; let b := Lean.mkIdent `B; `(tactic| (refine PB.bf fun $b $h => ?_; rfl'))
local macro_rules | `(tactic| right) => do let h := Lean.mkIdent `hB; let b := Lean.mkIdent `B; `(tactic| (rw [$h:ident]; clear $h $b; rfl'))
namespace PB
open PySem L2 Dv Gr
def DV:bz:=λdd Q x=>∃(ns:A08) (k:Nat),dd=[inD ns,iD k]/\k<=1000/\∀n:Nat,Q [] (.ow false) (nD [n])
def Pj:∀dd Q x,DV dd Q x->iB (aY [false,false] Q x) (ini [false,false] dd++List.replicate 2 none):=by
 rintro _ Q x⟨ns,k,rfl,hk,q⟩;unfold iB;rfl';refine kN (λE=>∃c:Int,E=[some (.sh,inD ns),some (.sh,iD k),some (.sh,.int c),none]) (λJ hJ=>?_) λB hB=>?_
 .rfl';split;{rename_i h;exact aA (VP h) (hJ _ ⟨_,rfl⟩)};refine⟨by lia,⟨QZ,rfl⟩,?_⟩;split
  .rename_i hne;have h1:0<ns.length:=by rcases ns with _|⟨a,t⟩;{exact absurd rfl hne};simp
   exact⟨h1,aA (VP (Yd _ h1)) ⟨by lia,.inl ⟨by lia,by lia⟩,hJ _ ⟨_,rfl⟩⟩⟩
  exact hJ _ ⟨_,rfl⟩
 rintro _⟨c,rfl⟩;rw[hB];rfl';clear hB;have p18:yU 10 18:=⟨by decide,by decide,by decide⟩;have p30:yU 10 30:=⟨by decide,by decide,by decide⟩;have eD:(10:Int)^Int.toNat 30+57=1000000000000000000000000000057:=by decide
 refine⟨p18,?_⟩;split;{rename_i hc;have hc0:(0:Int)<=c:=Xe (by decide) hc;obtain⟨n,rfl⟩:=Int.eq_ofNat_of_zero_le hc0;exact⟨by lia,q n⟩};rw[eD];obtain⟨a,ea,ha⟩:=tW c (d:=1000000000000000000000000000057) (by lia);rw[ea];obtain⟨b,eb,hb⟩:=tW (((a:Int)+7919*(k:Int)+101)^Int.toNat 2) (d:=1000000000000000000000000000057) (by lia);rw[eb];obtain⟨e,ee,he⟩:=tW (((b:Int)+977*(k:Int)+5)*618033988749894848204586834365) (d:=1000000000000000000000000000057) (by lia);rw[ee];exact⟨p30,by lia,.inl ⟨by lia,by lia⟩,⟨by lia,by lia,by lia⟩,p30,by lia,.inl ⟨by lia,by lia⟩,⟨by lia,by decide⟩,p30,by lia,by lia,q e⟩
def sC:bz:=λdd Q x=>∃(n m:Nat),dd=[nD [n],iD m]/\0<m/\m<2^200/\∀(r n':Nat),r<m->Q [nD [n']] .sh (iD r)
def Sb:∀dd Q x,sC dd Q x->iV (aY [true,false] Q x) (ini [true,false] dd++List.replicate 1 none):=by rintro _ Q x⟨n,m,rfl,hm,h2,q⟩;unfold iV;rfl';exact⟨hm,⟨by lia,by lia⟩,q (n%m) (n/m) (Yd _ hm)⟩
def Ko:bz:=λdd Q x=>∃(n m:Nat),dd=[nD [n],iD m]/\m<=1000/\∀(ms:A07) n',ms.Perm (List.range m)->Q [nD [n']] (.ow false) (nD ms)
def Q2:∀dd Q x,Ko dd Q x->iz sC (aY [true,false] Q x) (ini [true,false] dd++List.replicate 2 none):=by rintro _ Q x⟨n,m,rfl,h2,q⟩;unfold iz;rfl';refine⟨by lia,?_⟩;rw[if_pos ⟨by lia,by lia⟩];refine aA rfl ?_;refine kD (λi E=>EX λ(n:Nat)(ms:A07)(o:Option (Kd×PyData))=>EG (E=[some (.ow true,nD [n]),some (.sh,iD m),some (.ow false,nD ms),o]) (bu o=true) (ms.Perm (List.range i))) ⟨n,[],none,rfl,rfl,List.Perm.refl _⟩ ?_ ?_;{rintro J i _ hi hJ⟨n,ms,o,rfl,ho,hp⟩;simp![ho];refine⟨n,i+1,rfl,by lia,by lia,λr n' hr=>?_⟩;rfl';have hl:=hp.length_eq;rw[VD]at hl;refine⟨r,rfl,by rw[V4];lia,by rw[V4];show _<16777216;lia,hJ _ ⟨n',ms.take r++i::ms.drop r,some (.sh,iD i),?_,rfl,?_⟩⟩;{rw[<-Xy,<-List.map_drop,<-VN,<-VR]};rw[WZ];refine(List.perm_middle).trans ?_;rw[Xs];exact(List.Perm.cons i hp).trans (List.perm_append_singleton i _).symm};rintro _⟨n,ms,o,rfl,ho,hp⟩;simp![ho];exact q ms n hp
end PB
local macro_rules | `(tactic| bv_omega) => do let ls ← (List.range 224).toArray.mapM fun k => `(Lean.Parser.Tactic.simpLemma| $(Lean.mkIdent (.str `Dv s!"rr{k}")):ident); `(tactic| dsimp only[$ls,*, Dv.dyr0, Dv.dyr1, Dv.dyr2, Dv.dyr3, Nat.reduceBEq, Dv.kJ, Dv.kI, Dv.mX, Dv.m9])
namespace PB
open PySem L2 Dv Gr
structure PI(N m k:Nat)(ps:Zv):Prop where
 ne:∀e∈ps,e.1≠e.2/\e.1<m/\e.2<m
 tr:∀j,0<j->j<k->∃p,p<j/\(p,j)∈ps
 few:ps.length<=N
def PI.app{N M m k:Nat}(h:PI N m k ps)(hq:∀e∈qs,e.1≠e.2/\e.1<m/\e.2<m)(l:qs.length<=M):PI (N+M) m k (ps++qs):=
 ⟨λe he=>(VS.mp he).elim (h.ne e) (hq e),λj h0 hj=>by obtain⟨p,hp,hm⟩:=h.tr j h0 hj;exact⟨p,hp,VS.mpr (.inl hm)⟩,by have:=h.few;rw[VH];lia⟩
def PI.step{N m k p:Nat}{ps:Zv}(h:PI N m k ps)(hp:p<k)(hk:k<m):PI (N+1) m (k+1) (ps++[(p,k)]):=
 ⟨λe he=>(VS.mp he).elim (h.ne e) λz=>by rw[V7.mp z];exact⟨by show p≠k;lia,by show p<m;lia,hk⟩,
   λj h0 hj=>by
  by_cases c:j=k
  .subst c;exact⟨p,hp,VS.mpr (.inr (V7.mpr rfl))⟩
  .obtain⟨p,hp,hm⟩:=h.tr j h0 (by lia);exact⟨p,hp,VS.mpr (.inl hm)⟩,by have:=h.few;rw[VH];simp;lia⟩
def PI.mono{N M m k:Nat}(h:PI N m k ps)(l:N<=M):PI M m k ps:=⟨h.ne,h.tr,Vx h.few l⟩
def CN:bz:=λdd Q x=>∃(n m w:Nat),dd=[nD [n],iD m,iD w]/\1<=m/\m<=30/\w<=9/\∀(ps:Zv) n',PI 910 m m ps->Q [nD [n']] (.ow false) (.list (ps.map dW))
def N9:∀dd Q x,CN dd Q x->ig sC (aY [true,false,false] Q x) (ini [true,false,false] dd++List.replicate 6 none):=by
 rintro _ Q x⟨n,m,w,rfl,h1,h2,hw,q⟩;have em:((m:Int)-1).toNat=m-1:=by lia
 unfold ig;left;refine⟨by lia,?_⟩;show B _;symm;rw[em,if_pos ⟨by lia,by lia,by lia,by lia⟩];refine aA rfl ?_;refine kD (λk E=>JM λ(n:Nat)(ps:Zv)(o4 o5:Option (Kd×PyData))=>BL (E=[some (.ow true,nD [n]),some (.sh,iD m),some (.sh,iD w),some (.ow false,.list (ps.map dW)),o4,o5,none,none,none]) (bu o4=true) (bu o5=true) (PI (31*k) m (k+1) ps)) ⟨n,[],none,none,rfl,rfl,rfl,⟨(λ_ z=>nomatch z),λj h0 hj=>by lia,by simp⟩⟩ ?_ ?_
 .rintro J k _ hk hJ⟨n,ps,o4,o5,rfl,h4,h5,pi⟩;simp![h4,h5];refine⟨n,k+1,rfl,by lia,by lia,λr n hr=>?_⟩;simp![h4,h5,F7];obtain⟨p,hp,e⟩:∃p:Nat,p<=k/\dP [.int (((k+1:Nat):Int)-1),.int (((k+1:Nat):Int)-1),.int 0,iD r] (if(3:Int)<(w:Int)then 3 else(w:Int))=some (iD p):=by rw[show((k+1:Nat):Int)-1=(k:Int)by lia];rcases w with _|_|_|w;{exact⟨k,by lia,rfl⟩};{exact⟨k,by lia,rfl⟩};{exact⟨0,by lia,rfl⟩};refine⟨r,by lia,?_⟩;rw[show(if(3:Int)<((w+1+1+1:Nat):Int)then 3 else((w+1+1+1:Nat):Int))=3 by split<;>lia];rfl
  have pf:=pi.few;have pj:=pi.step (p:=p) (by lia) (show k+1<m by lia);refine⟨by lia,aA e ⟨by lia,by lia,?_⟩⟩;rw[show List.map dW ps++[PyData.tuple [iD p,iD (k+1)]]=(ps++[(p,k+1)]).map dW by rw[VR];rfl];split;{rw[if_pos ⟨by lia,by lia⟩];refine aA rfl (fM (λi=>dW (i,k+1)) rfl (λi hi I hI=>?_) ?_ (by rw[VD];lia));{rfl';exact⟨by lia,hI _ rfl⟩};rfl';have pf2:=pj.few;refine⟨by lia,hJ _ ⟨n,(ps++[(p,k+1)])++(List.range (k+1)).map λi=>(i,k+1),some (.sh,iD (k+1)),some (.sh,iD r),?_,rfl,rfl,(pj.app (M:=k+1) (λe he=>?_) (by rw[V4,VD];exact V5 _)).mono (by lia)⟩⟩;{rw[VR (l₁:=ps++[(p,k+1)]),VG];rfl};obtain⟨i,hi,rfl⟩:=V8.mp he;have:=VU.mp hi;exact⟨by show i≠k+1;lia,by show i<m;lia,by show k+1<m;lia⟩};exact hJ _ ⟨n,_,some (.sh,iD (k+1)),some (.sh,iD r),rfl,rfl,rfl,pj.mono (by lia)⟩
 rintro _⟨n,ps,o4,o5,rfl,h4,h5,pi⟩;show B _;rw[hB];clear hB B;rw[show m-1+1=m by lia]at pi;refine kN (λE=>∃(ps:Zv),E=[some (.ow true,nD [n]),some (.sh,iD m),some (.sh,iD w),some (.ow false,.list (ps.map dW)),o4,o5,none,none,none]/\PI 900 m m ps) (λJ hJ=>?_) λB hB=>?_;{have skip:=hJ _ ⟨ps,rfl,pi.mono (by lia)⟩;rfl';split;{split;{have pf:=pi.few;rw[show(m:Int)-1=((m-1:Nat):Int)by lia];refine⟨by lia,by lia,hJ _ ⟨ps++[(0,m-1)],by rw[VR];rfl,(pi.app (M:=1) (λe he=>?_) (V5 _)).mono (by lia)⟩⟩;rw[V7.mp he];exact⟨by show 0≠m-1;lia,by show 0<m;lia,by show m-1<m;lia⟩};exact skip};exact skip};clear pi ps;rintro _⟨ps,rfl,pi⟩;rw[hB];clear hB B;refine kN (λE=>u5 λ(n:Nat)(ps:Zv)(o4 o6 o7:Option (Kd×PyData))=>So (E=[some (.ow true,nD [n]),some (.sh,iD m),some (.sh,iD w),some (.ow false,.list (ps.map dW)),o4,o5,o6,o7,none]) (PI 910 m m ps)) (λJ hJ=>?_) λB hB=>?_;{have skip:=hJ _ ⟨n,ps,o4,none,none,rfl,pi.mono (by lia)⟩;rfl';split;{refine⟨n,7,rfl,by lia,by lia,λr n hr=>?_⟩;rfl';rw[if_pos ⟨by lia,by lia⟩];refine aA rfl ?_;refine kD (λk E=>u5 λ(n:Nat)(ps:Zv)(o4 o6 o7:Option (Kd×PyData))=>OO (E=[some (.ow true,nD [n]),some (.sh,iD m),some (.sh,iD w),some (.ow false,.list (ps.map dW)),o4,o5,o6,o7,none]) (bu o4=true) (bu o6=true) (bu o7=true) (PI (900+k) m m ps)) ⟨n,ps,o4,none,none,rfl,h4,rfl,rfl,pi⟩ ?_ ?_;{clear pi ps skip h4 o4;rintro J2 k _ hk hJ2⟨n,ps,o4,o6,o7,rfl,h4,h6,h7,pi⟩;simp![h4,h6,h7];refine⟨n,m,rfl,by lia,by lia,λr1 n hr1=>?_⟩;simp![h4,h6,h7];refine⟨n,m,rfl,by lia,by lia,λr2 n hr2=>?_⟩;simp![h4,h6,h7];have pf:=pi.few;by_cases c:r1=r2;{rw[if_neg (λz=>z c)];refine⟨by lia,by lia,⟨by decide,by decide,by decide⟩,by show ps.length+0<=_;lia,hJ2 _ ⟨n,ps,some (.sh,iD k),some (.sh,iD r1),some (.sh,iD r2),?_,rfl,rfl,rfl,pi.mono (by lia)⟩⟩;show [_,_,_,some (_,PyData.list (List.map dW ps++[])),_,_,_,_,_]=_;rw[W9]};rw[if_pos c];refine⟨by lia,by lia,⟨by decide,by decide,by decide⟩,by show ps.length+1<=_;lia,hJ2 _ ⟨n,ps++[(r1,r2)],some (.sh,iD k),some (.sh,iD r1),some (.sh,iD r2),by rw[VR];rfl,rfl,rfl,rfl,pi.app (M:=1) (λe he=>?_) (V5 _)⟩⟩;rw[V7.mp he];exact⟨c,hr1,hr2⟩};rintro _⟨n,ps,o4,o6,o7,rfl,h4,h6,h7,pi⟩;exact hJ _ ⟨n,ps,o4,o6,o7,rfl,pi.mono (by lia)⟩};exact skip};rintro _⟨n,ps,o4,o6,o7,rfl,pi⟩;right;exact q ps n pi
def MA{a b:Nat}:qV [.tuple [iD a,iD b]] P=P .sh (iD (min a b)):=by show P .sh (.int (if(b:Int)<(a:Int)then(b:Int)else(a:Int)))=_;rw[show(if(b:Int)<(a:Int)then(b:Int)else(a:Int))=((min a b:Nat):Int)by split<;>lia]
def Ls{a b:Nat}:rD [.tuple [iD a,iD b]] P=P .sh (iD (max a b)):=by show P .sh (.int (if(b:Int)>(a:Int)then(b:Int)else(a:Int)))=_;rw[show(if(b:Int)>(a:Int)then(b:Int)else(a:Int))=((max a b:Nat):Int)by split<;>lia]
def BP{fs:Zv}:dW e∈fs.map dW↔e∈fs:=by constructor;{intro h;obtain⟨f,hf,ef⟩:=V8.mp h;rw[<-K3.mp ef];exact hf};exact λh=>V8.mpr ⟨e,h,rfl⟩
def D0:bz:=λdd Q x=>∃(n a b:Nat),dd=[nD [n],iD a,iD b]/\1<=a/\a<=b/\b<=30/\∀m es n',a<=m->m<=b->cJ m es->Q [nD [n']] .sh (wD m es)
def MS:∀dd Q x,D0 dd Q x->i9 sC CN Ko (aY [true,false,false] Q x) (ini [true,false,false] dd++List.replicate 8 none):=by
 rintro _ Q x⟨n,a,b,rfl,h1,h2,h3,q⟩;unfold i9;left;refine⟨n,b+1-a,by rw[show((b:Int)+1-(a:Int))=((b+1-a:Nat):Int)by lia],by lia,by lia,λr n hr=>?_⟩;rfl';rw[show(a:Int)+(r:Int)=((a+r:Nat):Int)by lia];obtain⟨m,em⟩:∃m,m=a+r:=⟨_,rfl⟩;rw[<-em];have hm1:a<=m:=by lia
 have hm2:m<=b:=by lia
 clear em hr r;show B _;symm;refine⟨by lia,?_⟩;symm;refine⟨n,9,rfl,by lia,by lia,λw n hw=>?_⟩;rfl';refine⟨n,m,w,rfl,by lia,by lia,by lia,λps n pi=>?_⟩;rfl';symm;refine⟨n,m,rfl,by lia,λms n pm=>?_⟩;rfl';symm;refine oY (λi E=>u5 λ(fs:Zv)(o7 o8 o9 o10:Option (Kd×PyData))=>Hx (E=[some (.ow true,nD [n]),some (.sh,iD a),some (.sh,iD b),some (.sh,iD m),some (.ow false,.list (fs.map dW)),some (.sh,.list (ps.map dW)),some (.ow false,nD ms),o7,o8,o9,o10]) (bu o7=true) (bu o8=true) (bu o9=true) (bu o10=true) (Good m fs) (fs.length<=i) (∀e∈ps.take i,Gr.wJ ms e∈fs)) ⟨[],none,none,none,none,rfl,rfl,rfl,rfl,rfl,⟨(λ_ z=>nomatch z),Wd⟩,V5 _,λe he=>by simp at he⟩ ?_ ?_
 .rintro J i e _ hi hJ⟨fs,o7,o8,o9,o10,rfl,h7,h8,h9,h10,gd,fl,im⟩;have hl:=pi.ne e (VZ hi);have g1:=yh pm hl.2.1;have g2:=yh pm hl.2.2;have ts:ps.take (i+1)=ps.take i++[e]:=by rw[XF,hi];rfl
  simp![h7,h8,h9,h10,g1.1,g2.1];rw[MA,Ls];have ne:ms.getD e.1 0≠ms.getD e.2 0:=λz=>hl.1 (Gr.getD_inj (pm.nodup_iff.mpr Wv) (by rw[pm.length_eq,VD];exact hl.2.1) (by rw[pm.length_eq,VD];exact hl.2.2) z);have ad:(fs.all λa=>dl 8 (dW a))=true:=VL.mpr λ_ _=>rfl;refine⟨by lia,rfl,rfl,by lia,⟨ad,rfl⟩,?_⟩;rw[show PyData.tuple [iD (min (ms.getD e.1 0) (ms.getD e.2 0)),iD (max (ms.getD e.1 0) (ms.getD e.2 0))]=dW (Gr.wJ ms e)from rfl];have lti:=cG hi;have pf:=pi.few;split;{rename_i hn;replace hn:Gr.wJ ms e∉fs:=λz=>hn (BP.mpr z);refine⟨by lia,hJ _ ⟨fs++[Gr.wJ ms e],_,_,_,_,by rw[VR];rfl,rfl,rfl,rfl,rfl,gd.put (x:=min (ms.getD e.1 0) (ms.getD e.2 0)) (y:=max (ms.getD e.1 0) (ms.getD e.2 0)) (by lia) (by lia) hn,by rw[VH];simp;lia,?_⟩⟩;rw[ts];intro f hf;rcases VS.mp hf with hf|hf;{exact VS.mpr (.inl (im f hf))};rw[V7.mp hf];exact VS.mpr (.inr (V7.mpr rfl))};rename_i hn;refine hJ _ ⟨fs,_,_,_,_,rfl,rfl,rfl,rfl,rfl,gd,by lia,?_⟩;rw[ts];intro f hf;rcases VS.mp hf with hf|hf;{exact im f hf};rw[V7.mp hf];exact BP.mp (ZZ.mp hn)
 rintro _⟨fs,o7,o8,o9,o10,rfl,h7,h8,h9,h10,gd,fl,im⟩;show B _;rw[hB];clear hB B;rw[WU]at im;have pf:=pi.few;rfl';refine Lz (by lia) λqs pq=>?_;rfl';have cn:gM m fs:=by have c0:=Gr.CJ pm (Gr.Lg pi.tr);refine(c0.UH.mono λe he=>?_).conn;obtain⟨e0,h0,rfl⟩:=V8.mp he;exact im e0 h0
 exact⟨by lia,q m qs n hm1 hm2 ⟨by lia,by lia,Gr.Good.perm pq gd,Gr.G0 pq cn⟩⟩
end PB
namespace Dv
open PySem L2
def Ol{most i:Nat}:yW most i e D (o::E)=(jA (o::E) i=true/\e D.xc (o::E) λE1 k v=>k.fz=true/\JP most E1 i v D.nx):=by unfold yW;congr 1;congr 1;funext E1 k v;congr 1;unfold JP;refine propext ⟨λ⟨p,ds,es,e1,e2,h,q⟩=>by subst e2;rw[e1];exact⟨h,q⟩,λh=>?_⟩;split at h;{rename_i p ds es e1;exact⟨p,ds,es,e1,rfl,h.1,h.2⟩};exact h.elim
def Sg{most i:Nat}{p:Bool}(h:E[i]?=some (some (.ow p,.list ds)))(hl:ds.length+es.length<=most)(q:Q (E.set i (some (.ow p,.list (ds++es))))):JP most E i (.list es) Q:=by unfold JP;rw[h];exact⟨hl,q⟩
end Dv
namespace PB
open PySem L2 Dv Gr
end PB
local macro_rules | `(tactic| bv_omega) => do let ls ← (List.range 224).toArray.mapM fun k => `(Lean.Parser.Tactic.simpLemma| $(Lean.mkIdent (.str `Dv s!"rr{k}")):ident); `(tactic| dsimp only[$ls,*, Dv.dyr0, Dv.dyr1, Dv.dyr2, Dv.dyr3, Nat.reduceBEq])
namespace PB
open PySem L2 Dv Gr
section
variable{m:Nat}{es:Zv}{ls:A07}
def Aj{k:Str}(gd:Good m es):(bw k m es).Nodup:=by unfold bw;refine YU.mpr ⟨?_,?_,λa ha b hb e=>?_⟩;{split;{exact Wd};exact List.Pairwise.map _ (λa b h e=>h (by cases e;rfl)) Wv};{split;{exact Wd};exact List.Pairwise.map _ (λa b h e=>h (by cases e;rfl)) gd.nd};subst e;split at ha;{cases ha};obtain⟨x,_,rfl⟩:=V8.mp ha;split at hb;{cases hb};obtain⟨y,_,e⟩:=V8.mp hb;cases e
end
def Dq:bz:=λdd Q x=>∃m es,dd=[wD m es]/\cJ m es/\Q [] (.ow false) (.list ((List.range m).map λp=>mC m es p))
def MU:∀dd Q x,Dq dd Q x->nV Dr (aY [false] Q x) (ini [false] dd++List.replicate 1 none):=by
 rintro _ Q x⟨m,es,rfl,W,q⟩;have hm:=W.le;unfold nV;rfl';rw[if_pos (by lia)];refine aA rfl (fM (λp=>mC m es p) rfl (λp hp I hI=>?_) ?_ (by rw[VD];lia))
 .have hp:=VU.mp hp;rfl';refine⟨m,es,p,rfl,W,λk e hk=>?_,λz=>absurd ⟨by lia,by lia⟩ z⟩;have e:p=k:=by lia
  subst e;rfl';exact hI _ rfl
 rfl';exact q
def bT (m:Nat)(es:Zv)(t u:Th):A07:=(List.range m).filter λp=>decide (td es p t≠td es p u)
def DG:bz:=λdd Q x=>∃m es t u,dd=[.list ((List.range m).map λp=>mC m es p),b7 t,b7 u]/\m<=60/\TV m t/\TV m u/\Q [] (.ow false) (nD (bT m es t u))
def N1:∀dd Q x,DG dd Q x->lJ CL (aY [false,false,false] Q x) (ini [false,false,false] dd++List.replicate 2 none):=by
 rintro _ Q x⟨m,es,t,u,rfl,hm,ht,hu,q⟩;unfold lJ;rfl';have ez:(List.range m).zipIdx=(List.range m).map λp=>(p,p):=by refine WA λi=>?_;rw[Yu,VE];rcases WM i m with h|h;{rw[VF h];simp};rw[VY (by rw[VD];exact h)];rfl
 rw[ez,VG];refine ni (λp=>if decide (td es p t≠td es p u)=true then some (iD p)else none) rfl (λp hp I hI=>?_) ?_ (by rw[VD];lia);{simp![Function.comp];refine⟨m,es,p,t,rfl,ht,?_⟩;rfl';refine⟨m,es,p,u,rfl,hu,?_⟩;simp only[dv,dw,dx,dy,dz,Nat.reduceBEq]at hI⊢;split;{rename_i c;rw[if_pos c]at hI;exact hI _ rfl};rename_i c;rw[if_neg c]at hI;exact hI _ rfl};rw[gh];rfl';exact q
abbrev Ei (m:Nat)(es:Zv):PyData:=.list ((List.range m).map λp=>mC m es p)
def CF (k:Str):Prop:=k="places"\/k="ties"\/k="all"
end PB
local macro_rules | `(tactic| bv_omega) => do let ls ← (List.range 224).toArray.mapM fun k => `(Lean.Parser.Tactic.simpLemma| $(Lean.mkIdent (.str `Dv s!"rr{k}")):ident); `(tactic| dsimp only[$ls,*, Dv.dyr0, Dv.dyr1, Dv.dyr2, Dv.dyr3, Nat.reduceBEq, Dv.kJ, Dv.kI, Dv.mX, Dv.m9])
namespace PB
open PySem L2 Dv Gr
def lO:Option Nat->PyData
 |none=>.int (-1)
 |some d=>iD d
def Ke:lO none=.int (-1):=rfl
def KP{d:Nat}:lO (some d)=iD d:=rfl
abbrev Hs (m:Nat)(f:Nat->Option Nat):PyData:=.list ((List.range m).map λx=>lO (f x))
structure TR(es:Zv) (p r:Nat)(f:Nat->Option Nat):Prop where
 sound:∀x d,f x=some d->iP (dM es) p x d/\d<=r
 upto:∀x d,d<=r->R (dM es) p d x->f x≠none
structure TS(es:Zv) (r i:Nat)(f g:Nat->Option Nat):Prop where
 ext:∀x d,f x=some d->g x=some d
 new:∀x d,g x=some d->f x=some d\/(f x=none/\d=r+1/\∃h,f h=some r/\dM es h x)
 GK:∀e∈es.take i,(f e.1=some r->g e.2≠none)/\(f e.2=some r->g e.1≠none)
def TR.start{p:Nat}:TR es p 0 (λx=>if x=p then some 0 else none):=by
 refine⟨λx d h=>?_,λx d hd h=>?_⟩;{by_cases c:x=p;{simp only[if_pos c,Option.some.injEq]at h;subst h c;exact⟨⟨.zero,λe he=>absurd he (XO e)⟩,V5 _⟩};simp only[if_neg c]at h;cases h};obtain rfl:d=0:=by lia
 cases h;simp
def TS.start{r:Nat}{f:Nat->Option Nat}:TS es r 0 f f:=⟨λ_ _ h=>h,λ_ _ h=>.inl h,λe he=>by simp at he⟩
def TS.fin{p r:Nat}{f g:Nat->Option Nat}(t:TR es p r f)(h:TS es r es.length f g):TR es p (r+1) g:=by
 refine⟨λx d hx=>?_,λx d hd hr=>?_⟩;{rcases h.new x d hx with h1|⟨h1,rfl,k,h2,h3⟩;{have:=t.sound x d h1;exact⟨this.1,by lia⟩};exact⟨⟨(t.sound k r h2).1.1.step h3,λe he hr=>t.upto x e (by lia) hr h1⟩,V5 _⟩};have old:∀e,e<=r->R (dM es) p e x->g x≠none:=λe he hr z=>by obtain⟨d,hf⟩:=Za.mp (t.upto x e he hr);rw[h.ext x d hf]at z;cases z
 cases hr with
 |zero=>exact old 0 (W7 _) .zero
 |@step d y _ hy e=>obtain⟨k,hk⟩:=Za.mp (t.upto y d (by lia) hy);obtain⟨dk,lk⟩:=t.sound y k hk;by_cases c:k=r;{subst c;rcases e with e|e;{exact(h.GK _ (by rw[WU];exact e)).1 hk};exact(h.GK _ (by rw[WU];exact e)).2 hk};exact old (k+1) (by lia) (dk.1.step e)
def iw (g:Nat->Option Nat) (b v:Nat):Nat->Option Nat:=λx=>if x=b then some v else g x
def TS.one{r i a b:Nat}{f g:Nat->Option Nat}(h:TS es r i f g)(e:dM es a b)(c:g a=some r)(n:g b=none):TS es r i f (iw g b (r+1)):=by
 have fa:f a=some r:=by rcases h.new a r c with h1|⟨_,h2,_⟩;{exact h1};lia
 have fb:f b=none:=by
  cases hb:f b with
  |none=>rfl
  |some d=>rw[h.ext b d hb]at n;cases n
 have mono:∀x,g x≠none->iw g b (r+1) x≠none:=λx hx=>by unfold iw;split;{exact λz=>nomatch z};exact hx
 refine⟨λx d hx=>?_,λx d hx=>?_,λe he=>⟨λz=>mono _ ((h.GK e he).1 z),λz=>mono _ ((h.GK e he).2 z)⟩⟩;{unfold iw;rw[if_neg (λz=>by rw[z,fb]at hx;cases hx)];exact h.ext x d hx};unfold iw at hx;split at hx;{rename_i hb;cases hx;subst hb;exact .inr ⟨fb,rfl,a,fa,e⟩};exact h.new x d hx
def Ll{g:Nat->Option Nat}{b v x:Nat}(h:g x≠none):iw g b v x≠none:=by unfold iw;split;{exact λz=>nomatch z};exact h
def TS.next{r i:Nat}{f g:Nat->Option Nat}(h:TS es r i f g)(he:es[i]?=some e)(h1:f e.1=some r->g e.2≠none)(h2:f e.2=some r->g e.1≠none):TS es r (i+1) f g:=by
 refine⟨h.ext,h.new,λk hk=>?_⟩;rw[XF,he]at hk;rcases VS.mp hk with hk|hk;{exact h.GK k hk};have e1:k=e:=by simpa using hk
 rw[e1];exact⟨h1,h2⟩
def rw_set{m b:Nat}{g:Nat->Option Nat}{v:Nat}(hb:b<m):((List.range m).map λx=>lO (g x)).set b (iD v)=(List.range m).map λx=>lO (iw g b v x):=by apply WA;intro i;rw[Wa,V4,VD,VE,VE];by_cases hi:i<m;{rw[VF hi];by_cases c:b=i;{subst c;rw[if_pos rfl,if_pos hb];unfold iw;simp[lO]};rw[if_neg c];unfold iw;simp[Ne.symm c]};rw[VY (by rw[VD];lia),if_neg (by lia)];rfl
def LW{m:Nat}:(List.replicate m [PyData.int (-1)]).flatten=(List.range m).map λx=>lO ((λ_=>none:Nat->Option Nat) x):=by
 have e:∀m:Nat,(List.replicate m [PyData.int (-1)]).flatten=List.replicate m (PyData.int (-1)):=λm=>by
  induction m with
  |zero=>rfl
  |succ m ih=>rw[Wx,XW,ih,Wx];rfl
 rw[e];show _=(List.range m).map λ_=>PyData.int (-1);rw[List.map_const',VD]
def CG:bz:=λdd Q x=>∃m es,dd=[wD m es]/\cJ m es/\Q [] (.ow false) (Ei m es)
def N3:∀dd Q x,CG dd Q x->iG (aY [false] Q x) (ini [false] dd++List.replicate 6 none):=by
 rintro _ Q x⟨m,es,rfl,W,q⟩;have h1:=W.pos;have h2:=W.le;unfold iG;left;refine⟨by lia,?_⟩;symm;rw[if_pos ⟨by lia,by lia⟩];refine aA rfl ?_;refine kD (λi E=>u5 λ(o2 o3 o4 o5 o6:Option (Kd×PyData))=>PD (E=[some (.sh,wD m es),some (.ow false,.list ((List.range i).map λp=>mC m es p)),o2,o3,o4,o5,o6]) (bu o2=true) (bu o3=true) (bu o4=true) (bu o5=true) (bu o6=true)) ⟨none,none,none,none,none,rfl,rfl,rfl,rfl,rfl,rfl⟩ ?_ ?_
 .rintro J p _ hp hJ⟨o2,o3,o4,o5,o6,rfl,z2,z3,z4,z5,z6⟩;simp![z2,z3,z4,z5,z6];rw[LW,V4,VD];refine⟨by lia,⟨by lia,by lia,by lia⟩,jt hp ?_⟩;rw[show((List.range m).map λx=>lO ((λ_=>none:Nat->Option Nat) x)).set p (PyData.int 0)=(List.range m).map λx=>lO (iw (λ_=>none) p 0 x)from rw_set hp,if_pos ⟨by lia,by lia⟩];refine aA rfl ?_;clear z2 z3 o2 o3;refine kD (λr E=>JM λ(f:Nat->Option Nat)(o4 o5 o6:Option (Kd×PyData))=>OO (E=[some (.sh,wD m es),some (.ow false,.list ((List.range p).map λp=>mC m es p)),some (.sh,iD p),some (.ow false,Hs m f),o4,o5,o6]) (bu o4=true) (bu o5=true) (bu o6=true) (TR es p r f)) ⟨_,o4,o5,o6,rfl,z4,z5,z6,TR.start⟩ ?_ ?_
  .clear z4 z5 z6 o4 o5 o6;rintro J2 r _ hr hJ2⟨f,o4,o5,o6,rfl,z4,z5,z6,tr⟩;simp![z4];refine oY (λi E=>EX λ(g:Nat->Option Nat)(o5 o6:Option (Kd×PyData))=>BL (E=[some (.sh,wD m es),some (.ow false,.list ((List.range p).map λp=>mC m es p)),some (.sh,iD p),some (.ow false,Hs m g),some (.sh,iD r),o5,o6]) (bu o5=true) (bu o6=true) (TS es r i f g)) ⟨f,o5,o6,rfl,z5,z6,TS.start⟩ ?_ ?_
   .clear z5 z6 o5 o6;rintro J3 i e _ hi hJ3⟨g,o5,o6,rfl,z5,z6,ts⟩;have he:=W.gd.lt e (VZ hi);have hem:=VZ hi;have ge:∀y,y<m->((List.range m).map λx=>lO (g x))[y]?=some (lO (g y)):=λy hy=>by rw[VE,VF hy];rfl
    simp![z5,z6];refine kN (λE=>∃(g':Nat->Option Nat),E=[some (.sh,wD m es),some (.ow false,.list ((List.range p).map λp=>mC m es p)),some (.sh,iD p),some (.ow false,Hs m g'),some (.sh,iD r),some (.sh,iD e.1),some (.sh,iD e.2)]/\TS es r i f g'/\(f e.1=some r->g' e.2≠none)) (λJ4 hJ4=>?_) λB hB=>?_
    .skip
     rfl';refine aA (VF (by lia)) ?_;rcases ea:g e.1 with _|da;{rw[Ke];rfl';rw[if_neg (by lia)];exact hJ4 _ ⟨g,rfl,ts,λz=>by rw[ts.ext _ _ z]at ea;cases ea⟩};rw[KP];rfl';split;{rename_i hd;subst hd;refine aA (VF (by lia)) ?_;rcases eb:g e.2 with _|db;{rw[Ke];rfl';rw[if_pos (by lia)];refine jt (by lia) ?_;rw[show((List.range m).map λx=>lO (g x)).set e.2 (PyData.int ((da:Int)+1))=(List.range m).map λx=>lO (iw g e.2 (da+1) x)from rw_set (by lia)];exact hJ4 _ ⟨_,rfl,ts.one (.inl hem) ea eb,λ_=>by unfold iw;rw[if_pos rfl];exact λz=>nomatch z⟩};rw[KP];rfl';rw[if_neg (by lia)];exact hJ4 _ ⟨g,rfl,ts,λz y=>by rw[eb]at y;cases y⟩};rename_i hd;exact hJ4 _ ⟨g,rfl,ts,λz=>by rw[ts.ext _ _ z]at ea;cases ea;exact absurd rfl hd⟩
    clear ts ge g;rintro _⟨g,rfl,ts,n1⟩;rw[hB];clear hB;rfl';refine aA (VF (by lia)) ?_;rcases ea:g e.2 with _|da;{rw[Ke];rfl';rw[if_neg (by lia)];exact hJ3 _ ⟨g,(some (.sh,iD e.1)),(some (.sh,iD e.2)),rfl,rfl,rfl,ts.next hi n1 λz=>by rw[ts.ext _ _ z]at ea;cases ea⟩};rw[KP];rfl';split;{rename_i hd;subst hd;refine aA (VF (by lia)) ?_;rcases eb:g e.1 with _|db;{rw[Ke];rfl';rw[if_pos (by lia)];refine jt (by lia) ?_;rw[show((List.range m).map λx=>lO (g x)).set e.1 (PyData.int ((da:Int)+1))=(List.range m).map λx=>lO (iw g e.1 (da+1) x)from rw_set (by lia)];exact hJ3 _ ⟨_,(some (.sh,iD e.1)),(some (.sh,iD e.2)),rfl,rfl,rfl,(ts.one (.inr hem) ea eb).next hi (λz=>Ll (n1 z)) λ_=>by unfold iw;rw[if_pos rfl];exact λz=>nomatch z⟩};rw[KP];rfl';rw[if_neg (by lia)];exact hJ3 _ ⟨g,(some (.sh,iD e.1)),(some (.sh,iD e.2)),rfl,rfl,rfl,ts.next hi n1 λz y=>by rw[eb]at y;cases y⟩};rename_i hd;exact hJ3 _ ⟨g,(some (.sh,iD e.1)),(some (.sh,iD e.2)),rfl,rfl,rfl,ts.next hi n1 λz=>by rw[ts.ext _ _ z]at ea;cases ea;exact absurd rfl hd⟩
   rintro _⟨g,o5,o6,rfl,z5,z6,ts⟩;exact hJ2 _ ⟨g,some (.sh,iD r),o5,o6,rfl,rfl,z5,z6,ts.fin tr⟩
  clear z4 z5 z6 o4 o5 o6;rintro _⟨f,o4,o5,o6,rfl,z4,z5,z6,tr⟩;rfl';have ef:Hs m f=mC m es p:=congrArg PyData.list (VX λx hx=>by
   have hx:=VU.mp hx;obtain⟨d,hd⟩:=W.cn p hp x hx;have di:=G5 hd;have ls:=di.small (m:=m) (λx y z=>by rcases z with z|z<;>(have:=W.gd.lt _ z;lia)) hp
   obtain⟨k,hk⟩:=Za.mp (tr.upto x _ (by lia) di.1)
   rw[hk,(tr.sound x k hk).1.eq di];rfl)
  refine⟨by lia,hJ _ ⟨some (.sh,iD p),some (.sh,Hs m f),o4,o5,o6,?_,rfl,rfl,z4,z5,z6⟩⟩;rw[ef,WZ,VR];rfl
 rintro _⟨o2,o3,o4,o5,o6,rfl,z2,z3,z4,z5,z6⟩;show B _;right;exact q
end PB
local macro_rules | `(tactic| bv_omega) => do let ls ← (List.range 224).toArray.mapM fun k => `(Lean.Parser.Tactic.simpLemma| $(Lean.mkIdent (.str `Dv s!"rr{k}")):ident); `(tactic| dsimp only[$ls,*, Dv.dyr0, Dv.dyr1, Dv.dyr2, Dv.dyr3, Nat.reduceBEq, Dv.kJ, Dv.kI, Dv.mX, Dv.m9, Dv.mExtT_c])
namespace PB
open PySem L2 Dv Gr
def KH{c:Prop} [i:Decidable c]{α:Type}{a b:Option α}{Q:α->Prop}(h:c)(p:ay a Q):ay (if c then a else b) Q:=by rw[if_pos h];exact p
def rep1:(List.replicate (Int.toNat 1) l).flatten=l:=by show(List.replicate 1 l).flatten=l;simp
def CT:bz:=λdd Q x=>∃m es k,dd=[wD m es,.str k]/\cJ m es/\CF k/\Q [] (.ow false) (.list ((bw k m es).map b7))
def Nq:∀dd Q x,CT dd Q x->gQ (aY [false,false] Q x) (ini [false,false] dd++List.replicate 1 none):=by
 rintro _ Q x⟨m,es,k,rfl,W,hk,q⟩;have hm:=W.le;have hf:=W.few;unfold gQ;have e1:((List.range m).map Sum.inl:List Th).map b7=(List.range m).map iD:=by rw[VG];rfl
 have e2:(es.map Sum.inr:List Th).map b7=es.map dW:=by rw[VG];rfl
 unfold bw at q;rcases hk with rfl|rfl|rfl;{rw[if_neg (by decide),if_pos rfl,W9,e1]at q;rfl';rw[if_pos (by decide)];refine⟨⟨by lia,by lia⟩,⟨by decide,by decide,by show m*1<=_;lia⟩,?_⟩;rw[rep1];refine kN (λE=>E=[some (.sh,wD m es),some (.sh,.str "places"),some (.ow false,.list ((List.range m).map iD))]) (λJ hJ=>?_) λB hB=>?_;{rfl';exact hJ _ rfl};rintro _ rfl;rw[hB];rfl';exact q};{rw[if_pos rfl,if_neg (by decide),XJ,e2]at q;rfl';refine⟨⟨by lia,by lia⟩,⟨by decide,by decide,by show m*0<=_;lia⟩,?_⟩;rw[show(List.replicate (Int.toNat 0) (List.map iD (List.range m))).flatten=[]from rfl];refine kN (λE=>E=[some (.sh,wD m es),some (.sh,.str "ties"),some (.ow false,.list (es.map dW))]) (λJ hJ=>?_) λB hB=>?_;{rfl';rw[if_pos (by decide)];exact⟨by simp only[List.length_map,List.length_nil,List.length_range];show _<=16777216;omega,hJ _ rfl⟩};rintro _ rfl;rw[hB];rfl';exact q};rw[if_neg (by decide),if_neg (by decide),VR,e1,e2]at q;rfl';rw[if_pos (by decide)];refine⟨⟨by lia,by lia⟩,⟨by decide,by decide,by show m*1<=_;lia⟩,?_⟩;rw[rep1];refine kN (λE=>E=[some (.sh,wD m es),some (.sh,.str "all"),some (.ow false,.list ((List.range m).map iD++es.map dW))]) (λJ hJ=>?_) λB hB=>?_;{rfl';rw[if_pos (by decide)];exact⟨by simp only[List.length_map,List.length_nil,List.length_range];show _<=16777216;omega,hJ _ rfl⟩};rintro _ rfl;rw[hB];rfl';exact q
def Cs:bz:=λdd Q x=>∃m es p t,dd=[Ei m es,iD p,b7 t]/\p<m/\TV m t/\Q [] .sh (iD (td es p t))
def PX:∀dd Q x,Cs dd Q x->jF (aY [false,false,false] Q x) (ini [false,false,false] dd++List.replicate 1 none):=by
 rintro _ Q x⟨m,es,p,t,rfl,hp,ht,q⟩;unfold jF;cases t with
 |inl y=>have hy:y<m:=ht;rw[show b7 (.inl y)=iD y from rfl];rfl';refine aA (VF hp) ?_;rfl';refine aA (VF hy) ?_;rfl';exact q
 |inr e=>
  obtain⟨h1,h2⟩:e.1<m/\e.2<m:=ht;rw[show b7 (.inr e)=dW e from rfl];rfl';rw[show [iD e.1,iD e.2]=[e.1,e.2].map iD from rfl];refine fM (λy=>iD (aD es p y)) rfl (λy hy I hI=>?_) ?_ (by show 2<=16777216;lia)
  .have hy:y<m:=by simp only[VB,W0,Wo]at hy;lia
   rfl';refine aA (VF hp) ?_;rfl';refine aA (VF hy) ?_;rfl';exact hI _ rfl
  rfl';refine Ld (ns:=[aD es p e.1,aD es p e.2]) (YW _ _) λM m1 m2=>?_;have e3:M=td es p (.inr e):=by show M=min (aD es p e.1) (aD es p e.2);have a1:=m2 (aD es p e.1) (by simp);have a2:=m2 (aD es p e.2) (by simp);simp only[VB,W0,Wo]at m1;lia
  rw[e3];exact q
def CU:bz:=λdd Q x=>∃m es t u,dd=[Ei m es,b7 t,b7 u]/\m<=60/\TV m t/\TV m u/\Q [] (.ow false) (nD (bT m es t u))
def Ov:∀dd Q x,CU dd Q x->gx Cs (aY [false,false,false] Q x) (ini [false,false,false] dd++List.replicate 1 none):=by rintro _ Q x⟨m,es,t,u,rfl,hm,ht,hu,q⟩;unfold gx;rfl';rw[if_pos (by lia)];refine aA rfl ?_;refine ni (λp=>if decide (td es p t≠td es p u)=true then some (iD p)else none) rfl (λp hp I hI=>?_) ?_ (by rw[VD];lia);{have hp:=VU.mp hp;rfl';refine⟨m,es,p,t,rfl,hp,ht,?_⟩;rfl';refine⟨m,es,p,u,rfl,hp,hu,?_⟩;simp only[dv,dw,dx,dy,dz,Nat.reduceBEq]at hI⊢;split;{rename_i c;rw[if_pos c]at hI;exact hI _ rfl};rename_i c;rw[if_neg c]at hI;exact hI _ rfl};rw[gh];rfl';exact q
def gf (T:List Th):List (Th×Th):=(List.range T.length).flatMap λk=>(T.drop (k+1)).map λu=>(T.getD k (.inl 0),u)
abbrev uq (m:Nat)(es:Zv)(e:Th×Th):PyData:=.tuple [b7 e.1,b7 e.2,nD (bT m es e.1 e.2)]
def CW:bz:=λdd Q x=>∃m es k,dd=[wD m es,.str k]/\cJ m es/\es.length<=500/\CF k/\Q [] (.ow false) (.list ((gf (bw k m es)).map (uq m es)))
def Nk:∀dd Q x,CW dd Q x->gR CG CT CU (aY [false,false] Q x) (ini [false,false] dd++List.replicate 5 none):=by
 rintro _ Q x⟨m,es,k,rfl,W,few,hk,q⟩;have hm:=W.le;unfold gR;left;refine⟨m,es,rfl,W,?_⟩;rfl';symm;refine⟨m,es,k,rfl,W,hk,?_⟩;rfl';have hT:=oj (k:=k) W.gd;have lT:(bw k m es).length<=560:=by
  unfold bw;rw[VH];have a:(if k="ties" then []else(List.range m).map Sum.inl:List Th).length<=60:=by split<;>simp;lia
  have b:(if k="places" then []else es.map Sum.inr:List Th).length<=500:=by split<;>simp;lia
  lia
 generalize bw k m es=T at q hT lT⊢;symm;refine⟨by lia,?_⟩;symm;rw[if_pos (by lia)];refine aA rfl ?_;refine kD (λi E=>BB λ(o5 o6:Option (Kd×PyData))=>BL (E=[some (.sh,wD m es),some (.sh,.str k),some (.ow false,Ei m es),some (.ow false,.list (T.map b7)),some (.ow false,.list (((List.range i).flatMap λk=>(T.drop (k+1)).map λu=>(T.getD k (.inl 0),u)).map (uq m es))),o5,o6]) (bu o5=true) (bu o6=true) (((List.range i).flatMap λk=>(T.drop (k+1)).map λu=>(T.getD k (.inl 0),u)).length<=560*i)) ⟨none,none,rfl,rfl,rfl,by simp⟩ ?_ ?_
 .rintro J i _ hi hJ⟨o5,o6,rfl,z5,z6,fl⟩;have gi:T[i]?=some (T.getD i (.inl 0)):=by rw[VO,VP hi];rfl
  have ti:TV m (T.getD i (.inl 0)):=hT _ (VZ gi);simp![z5];rw[show((i:Int)+1)=((i+1:Nat):Int)by lia,ug,if_pos (show((T.drop (i+1)).map b7).all lf=true by rw[VL];intro d hd;obtain⟨t,_,rfl⟩:=V8.mp hd;exact y9)];refine aA rfl ?_;refine oY (λn E=>∃(o6:Option (Kd×PyData)),E=[some (.sh,wD m es),some (.sh,.str k),some (.ow false,Ei m es),some (.ow false,.list (T.map b7)),some (.ow false,.list (((((List.range i).flatMap λk=>(T.drop (k+1)).map λu=>(T.getD k (.inl 0),u))++((T.drop (i+1)).take n).map λu=>(T.getD i (.inl 0),u)).map (uq m es)))),some (.sh,iD i),o6]/\bu o6=true) ⟨o6,by rw[List.take_zero,Yo,W9],z6⟩ ?_ ?_;{clear z6 o6;rintro J2 n u _ hn hJ2⟨o6,rfl,z6⟩;have tu:TV m u:=hT _ (Zb (VZ hn));have hl2:=cG hn;rw[WO]at hl2;simp![z6];refine aA gi ?_;rfl';refine KH y9 (aA rfl ?_);rfl';refine aA gi ?_;rfl';refine KH y9 (aA rfl ?_);rfl';refine⟨m,es,T.getD i (.inl 0),u,rfl,hm,ti,tu,?_⟩;rfl';refine⟨by lia,?_,hJ2 _ ⟨some (.sh,b7 u),?_,rfl⟩⟩;{rw[VH,V4,Wj,WO];lia};rw[XF,hn,Option.toList_some,VR (f:=λu=>(T.getD i (Sum.inl 0),u)),<-Vz,VR (l₂:=[u].map _)];rfl};rintro _⟨o6,rfl,z6⟩;refine hJ _ ⟨some (.sh,iD i),o6,?_,rfl,z6,?_⟩;{rw[WU,WZ,Z3,Z4,Z5,W9]};rw[WZ,Z3,VH,Z4,Z5,W9,V4,WO];lia
 rintro _⟨o5,o6,rfl,z5,z6,fl⟩;show B _;right;exact q
end PB
local macro_rules | `(tactic| bv_omega) => do let ls ← (List.range 224).toArray.mapM fun k => `(Lean.Parser.Tactic.simpLemma| $(Lean.mkIdent (.str `Dv s!"rr{k}")):ident); `(tactic| dsimp only[$ls,*, Dv.dyr0, Dv.dyr1, Dv.dyr2, Dv.dyr3, Nat.reduceBEq])
namespace PB
open PySem L2 Dv Gr
def Dt:bz:=λdd Q x=>∃m es k,dd=[wD m es,.str k]/\cJ m es/\es.length<=500/\Q [] (.ow false) (.list ((gf (bw k m es)).map (uq m es)))
def Nf:∀dd Q x,Dt dd Q x->oF Dq DL DG (aY [false,false] Q x) (ini [false,false] dd++List.replicate 6 none):=by
 rintro _ Q x⟨m,es,k,rfl,W,few,q⟩;have hm:=W.le;unfold oF;left;refine⟨m,es,rfl,W,?_⟩;rfl';symm;refine⟨m,es,k,rfl,W,?_⟩;rfl';have hT:=oj (k:=k) W.gd;have lT:(bw k m es).length<=560:=by
  unfold bw;rw[VH];have a:(if k="ties" then []else(List.range m).map Sum.inl:List Th).length<=60:=by split<;>simp;lia
  have b:(if k="places" then []else es.map Sum.inr:List Th).length<=500:=by split<;>simp;lia
  lia
 generalize bw k m es=T at q hT lT⊢;symm;rw[hB];clear hB B;refine⟨by decide,?_⟩;left;refine oY (λi E=>BB λ(o5 o6:Option (Kd×PyData))=>BL (E=[some (.sh,wD m es),some (.sh,.str k),some (.ow false,.list ((List.range m).map λp=>mC m es p)),some (.sh,.list (T.map b7)),some (.ow false,.list (((List.range i).flatMap λk=>(T.drop (k+1)).map λu=>(T.getD k (.inl 0),u)).map (uq m es))),o5,o6,none]) (bu o5=true) (bu o6=true) (((List.range i).flatMap λk=>(T.drop (k+1)).map λu=>(T.getD k (.inl 0),u)).length<=i*560)) ⟨none,none,rfl,rfl,rfl,W7 _⟩ ?_ ?_
 .rintro J i⟨t,j⟩_ hi hJ⟨o5,o6,rfl,z5,z6,fl⟩;have⟨ti,ej⟩:T[i]?=some t/\j=i:=by
   rw[Yu]at hi;cases h:T[i]? with
   |none=>rw[h]at hi;cases hi
   |some u=>rw[h]at hi;cases hi;exact⟨rfl,by lia⟩
  subst ej;have tv:TV m t:=hT _ (VZ ti);have li:=cG ti;simp![z5,z6,Ol];rw[show((j:Int)+1)=((j+1:Nat):Int)by lia,ug];refine fM (λu=>uq m es (t,u)) rfl (λu hu I hI=>?_) ?_ (by rw[WO];lia);{have tu:TV m u:=hT _ (Zb hu);rfl';refine⟨m,es,t,u,rfl,hm,tv,tu,?_⟩;rfl';exact⟨by decide,hI _ rfl⟩};rfl';have gj:T.getD j (.inl 0)=t:=by rw[VO,ti];rfl
  have e1:(List.drop (j+1) T).map (λu=>uq m es (t,u))=((T.drop (j+1)).map λu=>(T.getD j (.inl 0),u)).map (uq m es):=by rw[VG,gj];rfl
  refine Sg rfl ?_ (hJ _ ⟨some (.sh,iD j),some (.sh,b7 t),?_,rfl,rfl,?_⟩);{rw[V4,V4,WO];lia};{rw[WZ,Z3,Z4,Z5,W9,VR,e1];rfl};rw[WZ,Z3,VH,Z4,Z5,W9,V4,WO];lia
 rintro _⟨o5,o6,rfl,z5,z6,fl⟩;show B _;right;rw[List.length_zipIdx];exact q
abbrev dD:=Th×Th×List Nat
abbrev p3 (e:dD):PyData:=.tuple [b7 e.1,b7 e.2.1,nD e.2.2]
open Classical in
def Cr (k:List dD)(e:dD):List dD:=if ∃f∈k,f.2.2=e.2.2 then k else k++[e]
def AG (l:List dD):List dD:=l.foldl Cr []
noncomputable def D8:bz:=λdd Q x=>∃(l:List dD),dd=[.list (l.map p3)]/\l.length<16777216/\∀k:List dD,k.length<=l.length->(∀e∈k,e∈l)->(∀e∈l,∃f∈k,f.2.2=e.2.2)->(k.map (·.2.2)).Nodup->k=AG l->Q [] (.ow false) (.list (k.map p3))
abbrev Hy (e:dD):PyData×PyData:=(.tuple (e.2.2.map iD),p3 e)
theorem x8:∀{a b:A07},a.map iD=b.map iD->a=b
 |[],[],_=>rfl
 |[],_::_,h=>by cases h
 |_::_,[],h=>by cases h
 |x::a,y::b,h=>by rw[VN,VN]at h;injection h with h1 h2;injection h1 with h1;rw[Int.ofNat.inj h1,x8 h2]
def Ie{ks:List dD}{a:A07}(h:∀e∈ks,e.2.2≠a):cN (ks.map Hy) (.tuple (a.map iD))=none:=by unfold cN;rw[Z6.mpr];{rfl};intro kv hk;obtain⟨e,he,rfl⟩:=V8.mp hk;rw[Wu];intro z;injection z with z;exact h e he (x8 z)
def Ir{ks:List dD}{a:A07}(h:∃e∈ks,e.2.2=a):∃v,cN (ks.map Hy) (.tuple (a.map iD))=some v:=by
 obtain⟨e,he,rfl⟩:=h;unfold cN;cases c:List.find? (λkv=>decide (kv.1=PyData.tuple (e.2.2.map iD))) (ks.map Hy)with
 |some v=>exact⟨_,rfl⟩
 |none=>have:=Z6.mp c (Hy e) (Ye he);exact absurd (Vw rfl) this
def Qn:∀dd Q x,D8 dd Q x->jv (aY [false] Q x) (ini [false] dd++List.replicate 4 none):=by
 rintro _ Q x⟨l,rfl,hl,q⟩;unfold jv;left;refine Or.inr ?_;rfl';symm;refine oY (λn E=>JM λ(ks:List dD)(o2 o3 o4:Option (Kd×PyData))=>Qt (E=[some (.sh,.list (l.map p3)),some (.dt false,.dict ((.none,.none)::ks.map Hy)),o2,o3,o4]) (bu o2=true) (bu o3=true) (bu o4=true) (ks.length<=n) ((∀e∈ks,e∈l)) ((∀e∈l.take n,∃f∈ks,f.2.2=e.2.2)) ((ks.map (·.2.2)).Nodup) (ks=AG (l.take n))) ⟨[],none,none,none,rfl,rfl,rfl,rfl,V5 _,(by simp),(by simp),Wd,rfl⟩ ?_ ?_
 .rintro J n e _ hn hJ⟨ks,o2,o3,o4,rfl,z2,z3,z4,kl,sub,all,BF,eu⟩;have ln:=cG hn;simp![z2,z3,z4];unfold C9;refine⟨rfl,.sh,e.2.2.map iD,rfl,rfl,by rw[VL];intro d hd;obtain⟨y,_,rfl⟩:=V8.mp hd;rfl,?_⟩;rfl';refine⟨by decide,_,rfl,by rw[V4];show _<16777216;lia,?_⟩;have tk:l.take (n+1)=l.take n++[e]:=by rw[XF,hn];rfl
  have tu:AG (l.take (n+1))=Cr ks e:=by rw[tk,AG,List.foldl_append,<-AG,<-eu];rfl
  by_cases c:∃f∈ks,f.2.2=e.2.2;{obtain⟨v,hv⟩:=Ir c;refine hJ _ ⟨ks,some (.sh,b7 e.1),some (.sh,b7 e.2.1),some (.sh,nD e.2.2),?_,rfl,rfl,rfl,by lia,sub,λg hg=>?_,BF,by rw[tu,Cr,if_pos c]⟩;{unfold F9;rw[hv]};rw[tk]at hg;rcases VS.mp hg with z|z;{exact all g z};rw[V7.mp z];exact c};have hv:=Ie (ks:=ks) (a:=e.2.2) λf hf z=>c ⟨f,hf,z⟩;refine hJ _ ⟨ks++[e],some (.sh,b7 e.1),some (.sh,b7 e.2.1),some (.sh,nD e.2.2),?_,rfl,rfl,rfl,?_,λg hg=>?_,λg hg=>?_,?_,by rw[tu,Cr,if_neg c]⟩;{unfold F9;rw[hv,VR];rfl};{rw[VH];exact Nat.add_le_add_right kl 1};{rcases VS.mp hg with z|z;{exact sub g z};rw[V7.mp z];exact VZ hn};{rw[tk]at hg;rcases VS.mp hg with z|z;{obtain⟨f,hf,e1⟩:=all g z;exact⟨f,ZG _ hf,e1⟩};rw[V7.mp z];exact⟨e,WN _ (V7.mpr rfl),rfl⟩};rw[VR];refine YU.mpr ⟨BF,W6.mpr ⟨W0,Wd⟩,λa ha b hb z=>?_⟩;obtain⟨f,hf,rfl⟩:=V8.mp ha;rw[V7.mp (show b∈[e.2.2]from hb)]at z;exact c ⟨f,hf,z⟩
 rintro _⟨ks,o2,o3,o4,rfl,z2,z3,z4,kl,sub,all,BF,eu⟩;show B _;right;unfold M1;refine⟨_,_,rfl,?_⟩;rw[WU]at all eu;have:=q ks kl sub all BF eu;rw[VG];exact this
end PB
namespace Lp
abbrev Vc:=Nat->Int
def sh (c:Vc):Vc:=λi=>c (i+1)
def ex (D:List Vc->Int):List Vc->List Vc->Int
 |_,[]=>0
 |pre,c::post=>c 0*D ((pre++post).map sh)-ex D (pre++[c]) post
def det:Nat->List Vc->Int
 |0,_=>1
 |m+1,cs=>ex (det m) [] cs
def M5 (D:List Vc->Int) (n:Nat):Prop:=∀(l1 l2:List Vc)(u v w:Vc) (a b:Int),l1.length+1+l2.length=n->(∀i,w i=a*u i+b*v i)->D (l1++w::l2)=a*D (l1++u::l2)+b*D (l1++v::l2)
def PN (D:List Vc->Int) (n:Nat):Prop:=∀(l1 l2:List Vc)(c:Vc),l1.length+2+l2.length=n->D (l1++c::c::l2)=0
section
variable{D:List Vc->Int}{n:Nat}
theorem B8(L:M5 D n)(p1 p2:List Vc)(u v w:Vc) (a b:Int)(e:∀i,w i=a*u i+b*v i):∀(post p2:List Vc),p1.length+1+p2.length+post.length=n+1->ex D (p1++w::p2) post=a*ex D (p1++u::p2) post+b*ex D (p1++v::p2) post
 |[],_,_=>by simp[ex]
 |c::post,p2,h=>by
  have h1:(List.map sh p1).length+1+(List.map sh (p2++post)).length=n:=by simp only[V4,VH,VI]at h⊢;lia
  have l:=L (p1.map sh) ((p2++post).map sh) (sh u) (sh v) (sh w) a b h1 (λi=>e (i+1));have r:=B8 L p1 p2 u v w a b e post (p2++[c]) (by simp only[VH,VI,WD]at h⊢;lia);simp only[ex,Vz,Xg,VR,VN]at l r⊢;rw[l,r,Int.mul_add,Y0,Y0];rw[X4 (c 0) a,X4 (c 0) b];lia
theorem BW(L:M5 D n)(u v w:Vc) (a b:Int)(e:∀i,w i=a*u i+b*v i)(q2:List Vc):∀(q1 pre:List Vc),pre.length+q1.length+1+q2.length=n+1->ex D pre (q1++w::q2)=a*ex D pre (q1++u::q2)+b*ex D pre (q1++v::q2)
 |[],pre,h=>by have r:=B8 L pre [] u v w a b e q2 [] (by simp only[WD]at h⊢;lia);simp only[ex,XJ]at r⊢;rw[r,e 0,Y0,Y0,Int.add_mul,Xh,Xh];lia
 |c::q1,pre,h=>by
  have h1:(List.map sh (pre++q1)).length+1+(List.map sh q2).length=n:=by simp only[V4,VH,VI]at h⊢;lia
  have l:=L ((pre++q1).map sh) (q2.map sh) (sh u) (sh v) (sh w) a b h1 (λi=>e (i+1));have r:=BW L u v w a b e q2 q1 (pre++[c]) (by simp only[VH,VI,WD]at h⊢;lia);simp only[ex,Vz,Xg,VR,VN]at l r⊢;rw[l,r,Int.mul_add,Y0,Y0];rw[X4 (c 0) a,X4 (c 0) b];lia
theorem BU(Z:PN D n)(p1:List Vc)(x:Vc):∀(post p2:List Vc),p1.length+2+p2.length+post.length=n+1->ex D (p1++x::x::p2) post=0
 |[],_,_=>rfl
 |c::post,p2,h=>by have l:=Z (p1.map sh) ((p2++post).map sh) (sh x) (by simp only[V4,VH,VI]at h⊢;lia);have r:=BU Z p1 x post (p2++[c]) (by simp only[VH,VI,WD]at h⊢;lia);simp only[ex,Vz,Xg,VR,VN]at l r⊢;rw[l,r];lia
theorem AM(Z:PN D n)(x:Vc)(q2:List Vc):∀(q1 pre:List Vc),pre.length+q1.length+2+q2.length=n+1->ex D pre (q1++x::x::q2)=0
 |[],pre,h=>by have r:=BU Z pre x q2 [] (by simp only[WD]at h⊢;lia);simp only[ex,XJ,Vz,Xg]at r⊢;rw[r];lia
 |c::q1,pre,h=>by have l:=Z ((pre++q1).map sh) (q2.map sh) (sh x) (by simp only[V4,VH,VI]at h⊢;lia);have r:=AM Z x q2 q1 (pre++[c]) (by simp only[VH,VI,WD]at h⊢;lia);simp only[ex,Vz,Xg,VR,VN]at l r⊢;rw[l,r];lia
end
theorem nC:∀n,M5 (det n) n
 |0=>λl1 l2 u v w a b h e=>by lia
 |n+1=>λl1 l2 u v w a b h e=>BW (nC n) u v w a b e l2 l1 [] (by simp only[WD];lia)
theorem nq:∀n,PN (det n) n
 |0=>λl1 l2 c h=>by lia
 |n+1=>λl1 l2 c h=>AM (nq n) c l2 l1 [] (by simp only[WD];lia)
def IA{n:Nat}(l1 l2:List Vc)(x y:Vc)(h:l1.length+2+l2.length=n):det n (l1++x::y::l2)=- det n (l1++y::x::l2):=by have z:=nq n l1 l2 (λi=>x i+y i) h;have e1:=nC n l1 ((λi=>x i+y i)::l2) x y (λi=>x i+y i) 1 1 (by simp only[VI];lia) (λi=>by lia);have e2:=nC n (l1++[x]) l2 x y (λi=>x i+y i) 1 1 (by simp only[VH,VI,WD];lia) (λi=>by lia);have e3:=nC n (l1++[y]) l2 x y (λi=>x i+y i) 1 1 (by simp only[VH,VI,WD];lia) (λi=>by lia);simp only[Vz,Xg,XJ]at e2 e3;have zx:=nq n l1 l2 x h;have zy:=nq n l1 l2 y h;lia
theorem Bt{n:Nat}(c:Vc)(l2:List Vc):∀(mid l1:List Vc),l1.length+2+mid.length+l2.length=n->det n (l1++c::(mid++c::l2))=0
 |[],l1,h=>nq n l1 l2 c (by simp only[WD]at h;lia)
 |d::mid,l1,h=>by have e:=IA l1 (mid++c::l2) c d (n:=n) (by simp only[VH,VI]at h⊢;lia);have r:=Bt c l2 mid (l1++[d]) (n:=n) (by simp only[VH,VI,WD]at h⊢;lia);simp only[Vz,Xg,XJ]at e r⊢;rw[e,r];rfl
def qx{B:List Vc}{i:Nat}(h:i<B.length)(w:Vc):B.set i w=B.take i++w::B.drop (i+1):=List.set_eq_take_append_cons_drop.trans (if_pos h)
def qX{B:List Vc}{i:Nat}(h:i<B.length){w:Vc}{a b:Int}(e:∀t,w t=a*u t+b*v t):det B.length (B.set i w)=a*det B.length (B.set i u)+b*det B.length (B.set i v):=by rw[qx h,qx h,qx h];exact nC _ _ _ _ _ _ _ _ (by rw[Wj,WO];lia) e
def BA{i j:Nat}(hij:i<j)(hj:j<B.length)(e:B[i]?=B[j]?):det B.length B=0:=by
 have hi:i<B.length:=by lia
 have e1:B=B.take i++B[i]::((B.drop (i+1)).take (j-i-1)++B[i]::B.drop (j+1)):=by
  have ej:B[i]=B[j]:=by rw[VP hi,VP hj]at e;exact Option.some.inj e
  have a1:B=B.take i++B[i]::B.drop (i+1):=by rw[List.getElem_cons_drop,Xs]
  have a2:B.drop (i+1)=(B.drop (i+1)).take (j-i-1)++B[j]::B.drop (j+1):=by
   have:B[j]::B.drop (j+1)=(B.drop (i+1)).drop (j-i-1):=by rw[List.drop_drop,show i+1+(j-i-1)=j by lia,List.getElem_cons_drop]
   rw[this,Xs]
  rw[<-ej]at a2;rw[<-a2];exact a1
 have l:(B.take i).length+2+((B.drop (i+1)).take (j-i-1)).length+(B.drop (j+1)).length=B.length:=by simp only[Wj,WO];lia
 have:=Bt B[i] (B.drop (j+1)) ((B.drop (i+1)).take (j-i-1)) (B.take i) l;rwa[<-e1]at this
def sm (n:Nat)(f:Nat->Int):Int:=match n with
 |0=>0
 |n+1=>sm n f+f n
def bP{n:Nat}{f g:Nat->Int}(h:∀k,k<n->f k=g k):sm n f=sm n g:=by
 induction n with
 |zero=>rfl
 |succ n ih=>rw[sm,sm,ih λk hk=>h k (by lia),h n (by lia)]
def u9{n:Nat}{f g:Nat->Int}:sm n (λk=>f k+g k)=sm n f+sm n g:=by
 induction n with
 |zero=>rfl
 |succ n ih=>rw[sm,sm,sm,ih];lia
def jR{n:Nat}{f:Nat->Int}{c:Int}:sm n (λk=>c*f k)=c*sm n f:=by
 induction n with
 |zero=>exact(WI c).symm
 |succ n ih=>rw[sm,sm,ih,Int.mul_add]
def kH{n:Nat}{f:Nat->Int}(h:∀k,k<n->f k=0):sm n f=0:=by
 induction n with
 |zero=>rfl
 |succ n ih=>rw[sm,ih λk hk=>h k (by lia),h n (by lia)];rfl
def qf{n i:Nat}{f:Nat->Int}(hi:i<n)(h:∀k,k<n->k≠i->f k=0):sm n f=f i:=by
 induction n with
 |zero=>lia
 |succ n ih=>rw[sm];by_cases c:i=n;{subst c;rw[kH λk hk=>h k (by lia) (by lia)];lia};rw[ih (by lia) λk hk=>h k (by lia),h n (by lia) (λz=>c z.symm)];lia
def Pq{n i j:Nat}{f:Nat->Int}(hi:i<n)(hj:j<n)(ne:i≠j)(h:∀k,k<n->k≠i->k≠j->f k=0):sm n f=f i+f j:=by
 have e:sm n f=sm n λk=>(if k=i then f k else 0)+(if k=i then 0 else f k):=bP λk _=>by split<;>lia
 rw[e,u9,qf (i:=i) hi λk _ z=>if_neg z,qf (i:=j) hj λk hk z=>by
  by_cases c:k=i
  .rw[if_pos c]
  .rw[if_neg c];exact h k hk c z]
 rw[if_pos rfl,if_neg (Ne.symm ne)]
def um{n:Nat}{f g:Nat->Int}(h:∀k,k<n->f k<=g k):sm n f<=sm n g:=by
 induction n with
 |zero=>exact XQ 0
 |succ n ih=>rw[sm,sm];have:=ih λk hk=>h k (by lia);have:=h n (by lia);lia
def LI{m n:Nat}{f:Nat->Nat->Int}:sm m (λi=>sm n (λj=>f i j))=sm n λj=>sm m λi=>f i j:=by
 induction m with
 |zero=>exact(kH λ_ _=>rfl).symm
 |succ m ih=>rw[sm,ih];exact u9.symm
def Oo{n:Nat}{f:Nat->Int}(h:0<sm n f):∃k,k<n/\0<f k:=by refine Xi λz=>?_;have:sm n f<=sm n λ_=>0:=um λk hk=>XN.mp λy=>z ⟨k,hk,y⟩;rw[kH (f:=λ_=>0) λ_ _=>rfl]at this;lia
def qI{B:List Vc}{i n:Nat}(h:i<B.length){cf:Nat->Int}{V:Nat->Vc}{w:Vc}(e:∀t,w t=sm n λk=>cf k*V k t):det B.length (B.set i w)=sm n λk=>cf k*det B.length (B.set i (V k)):=by
 induction n generalizing w with
 |zero=>have:=qX h (u:=λ_=>0) (v:=λ_=>0) (w:=w) (a:=0) (b:=0) (λt=>by rw[e t];rfl);rw[this,sm];lia
 |succ n ih=>have:=qX h (u:=λt=>sm n λk=>cf k*V k t) (v:=V n) (w:=w) (a:=1) (b:=cf n) (λt=>by rw[e t,sm];lia);rw[this,sm,ih λ_=>rfl,Int.one_mul]
def Bh{B:List Vc}{i:Nat}(h:i<B.length){c:Int}{w:Vc}(e:∀t,w t=c*v t):det B.length (B.set i w)=c*det B.length (B.set i v):=by have:=qI h (n:=1) (cf:=λ_=>c) (V:=λ_=>v) (w:=w) (λt=>by rw[e t,sm,sm];lia);rw[this,sm,sm];lia
def uJ{i j:Nat}(hi:i<B.length)(hj:j<B.length)(ne:i≠j)(e:B[i]?=B[j]?):det B.length B=0:=by rcases Nat.lt_or_gt_of_ne ne with h|h;{exact BA h hj e};exact BA h hi e.symm
def PY{B:List Vc}{i j:Nat}(hi:i<B.length)(hj:j<B.length)(ne:i≠j)(x y:Vc):det B.length ((B.set i x).set j y)=- det B.length ((B.set i y).set j x):=by
 have z:∀v:Vc,det B.length ((B.set i v).set j v)=0:=λv=>by have:=uJ (B:=(B.set i v).set j v) (i:=i) (j:=j) (by simpa using hi) (by simpa using hj) ne (by simp[Wa,ne,Ne.symm ne,hi,hj]);simpa using this
 have l1:∀(v:Vc),det B.length ((B.set i λt=>x t+y t).set j v)=det B.length ((B.set i x).set j v)+det B.length ((B.set i y).set j v):=λv=>by have:=qX (B:=B.set j v) (i:=i) (by simpa using hi) (u:=x) (v:=y) (w:=λt=>x t+y t) (a:=1) (b:=1) (λt=>by lia);simp only[VT]at this;rw[YY _ _ ne,this,YY _ _ ne,YY _ _ ne];lia
 have l2:∀(v:Vc),det B.length ((B.set i v).set j λt=>x t+y t)=det B.length ((B.set i v).set j x)+det B.length ((B.set i v).set j y):=λv=>by have:=qX (B:=B.set i v) (i:=j) (by simpa using hj) (u:=x) (v:=y) (w:=λt=>x t+y t) (a:=1) (b:=1) (λt=>by lia);simp only[VT]at this;rw[this];lia
 have h:=z λt=>x t+y t;rw[l1,l2,l2,z x,z y]at h;lia
def Mu{B:List Vc}{r i:Nat}(hr:r<B.length)(hi:i<B.length)(ne:r≠i)(J:∀t,det B.length B*y t=sm B.length λk=>det B.length (B.set k y)*(B.getD k (λ_=>0)) t) : det B.length B*det B.length ((B.set r x).set i y)=det B.length (B.set r x)*det B.length (B.set i y)-det B.length (B.set i x)*det B.length (B.set r y):=by
 have gd:∀{k:Nat},k<B.length->B[k]?=some (B.getD k (λ_=>0)):=λ{k} h=>by rw[VO,VP h];rfl
 have sd:∀{k:Nat},k<B.length->B.set k (B.getD k (λ_=>0))=B:=λ{k} h=>by refine WA λj=>?_;rw[Wa];by_cases c:k=j;{subst c;rw[if_pos rfl,if_pos h,gd h]};rw[if_neg c]
 have h1:=Bh (B:=B.set r x) (i:=i) (by simpa using hi) (c:=det B.length B) (v:=y) (w:=λt=>det B.length B*y t) (λ_=>rfl);have h2:=qI (B:=B.set r x) (i:=i) (by simpa using hi) (w:=λt=>det B.length B*y t) J;simp only[VT]at h1 h2;rw[<-h1,h2,Pq hi hr (Ne.symm ne) λk hk k1 k2=>?_]
 .have e1:(B.set r x).set i (B.getD i λ_=>0)=B.set r x:=by rw[YY _ _ ne,sd hi]
  have e2:det B.length ((B.set r x).set i (B.getD r λ_=>0))=- det B.length (B.set i x):=by rw[PY hr hi ne,sd hr]
  rw[e1,e2,We (det B.length (B.set i y)),Int.mul_neg,We (det B.length (B.set r y))];lia
 have:=uJ (B:=(B.set r x).set i (B.getD k λ_=>0)) (i:=i) (j:=k) (by simpa using hi) (by simpa using hk) (Ne.symm k1) (by
  rw[Wr (by simpa using hi),Wg (Ne.symm k1),Wg (Ne.symm k2),gd hk])
 simp only[VT]at this;rw[this,WI]
def un (i:Nat):Vc:=λt=>if t=i then 1 else 0
section
variable(m N:Nat)(A:Nat->Vc)
def Bm (b:A07):List Vc:=b.map A++[un m]
def dt (b:A07):Int:=det (m+1) (Bm m A b)
def T (b:A07) (k j:Nat):Int:=det (m+1) ((Bm m A b).set k (A j))
structure Bs(b:A07):Prop where
 len:b.length=m
 lt:∀c∈b,c<N
 pos:0<dt m A b
 J:∀j t,dt m A b*A j t=sm (m+1) λk=>T m A b k j*(Bm m A b).getD k (λ_=>0) t
 rhs:∀k,k<m->0<=T m A b k N
end
section
variable{m N:Nat}{A:Nat->Vc}{b:A07}
def nH(h:b.length=m):(Bm m A b).length=m+1:=by unfold Bm;rw[VH,V4,h];rfl
def nj(h:b.length=m){k:Nat}(hk:k<m):(Bm m A b).getD k (λ_=>0)=A (b.getD k 0):=by
 have hb:k<b.length:=by lia
 unfold Bm;rw[VO,Xn (by rw[V4];exact hb),VE,VO,VP hb];rfl
def kF(h:b.length=m):(Bm m A b).getD m (λ_=>0)=un m:=by unfold Bm;rw[VO,YB (by rw[V4];lia),V4,h,Nat.sub_self];rfl
def uh(h:b.length=m){r c:Nat}(hr:r<m):Bm m A (b.set r c)=(Bm m A b).set r (A c):=by unfold Bm;rw[List.map_set,List.set_append,if_pos (by rw[V4];lia)]
def yl{l:List Vc}{k:Nat}(h:k<l.length):l[k]?=some (l.getD k (λ_=>0)):=by rw[VO,VP h];rfl
def uT{l:List Vc}{k:Nat}(h:k<l.length):l.set k (l.getD k (λ_=>0))=l:=by refine WA λj=>?_;rw[Wa];by_cases c:k=j;{subst c;rw[if_pos rfl,if_pos h,yl h]};rw[if_neg c]
def uY(h:b.length=m){i k:Nat}(hi:i<m+1)(hk:k<m):T m A b i (b.getD k 0)=if i=k then dt m A b else 0:=by
 have l:=nH (A:=A) h;unfold T dt;rw[<-nj (A:=A) h hk];split;{rename_i e;subst e;rw[uT (by lia)]};rename_i ne;have:=uJ (B:=(Bm m A b).set i ((Bm m A b).getD k λ_=>0)) (i:=i) (j:=k) (by rw[VT];lia) (by rw[VT];lia) ne (by
  rw[Wr (by lia),Wg ne,yl (by lia)])
 rw[VT,l]at this;exact this
def Bs.nd(H:Bs m N A b){i k:Nat}(hi:i<m)(hk:k<m)(e:b.getD i 0=b.getD k 0):i=k:=by refine Xi λne=>?_;have h1:=uY (A:=A) H.len (i:=i) (k:=k) (by lia) hk;rw[if_neg ne,<-e,uY (A:=A) H.len (by lia) hi,if_pos rfl]at h1;have:=H.pos;lia
def gs{l:A07}{r c k:Nat}(hr:r<l.length):(l.set r c).getD k 0=if k=r then c else l.getD k 0:=by rw[VO,Wa];by_cases e:r=k;{rw[if_pos e,if_pos hr,if_pos e.symm];rfl};rw[if_neg e,if_neg (Ne.symm e),VO]
def xY(H:Bs m N A b){r c:Nat}(hr:r<m):dt m A (b.set r c)=T m A b r c:=by unfold dt T;rw[uh H.len hr]
def rF(H:Bs m N A b){r c:Nat}(hr:r<m) (j:Nat):T m A (b.set r c) r j=T m A b r j:=by unfold T;rw[uh H.len hr,YX]
def u7(H:Bs m N A b){r c k:Nat}(hr:r<m)(hk:k<m+1)(ne:k≠r) (j:Nat):dt m A b*T m A (b.set r c) k j=T m A b r c*T m A b k j-T m A b k c*T m A b r j:=by have l:=nH (A:=A) H.len;have:=Mu (B:=Bm m A b) (r:=r) (i:=k) (x:=A c) (y:=A j) (by lia) (by lia) (Ne.symm ne) (by rw[l];exact H.J j);rw[l]at this;unfold T dt;rw[uh H.len hr];exact this
def Vn(H:Bs m N A b){r c:Nat}(hr:r<m)(hc:c<N)(hp:0<T m A b r c)(rat:∀k,k<m->0<T m A b k c->T m A b r N*T m A b k c<=T m A b k N*T m A b r c):Bs m N A (b.set r c):=by
 have hb:r<b.length:=by rw[H.len];exact hr
 have dp:=H.pos;refine⟨by rw[VT];exact H.len,λx hx=>?_,by rw[xY H hr];exact hp,λj t=>?_,λk hk=>?_⟩;{rcases List.mem_or_eq_of_mem_set hx with z|z;{exact H.lt x z};rw[z];exact hc}
 .have hd:dt m A b≠0:=by lia
  refine Int.eq_of_mul_eq_mul_left hd ?_;have ls:(b.set r c).length=m:=by rw[VT];exact H.len
  rw[<-jR,xY H hr];have e:∀k,k<m+1->dt m A b*(T m A (b.set r c) k j*(Bm m A (b.set r c)).getD k (λ_=>0) t)=(T m A b r c*(T m A b k j*(Bm m A b).getD k (λ_=>0) t) + - T m A b r j*(T m A b k c*(Bm m A b).getD k (λ_=>0) t))+(if k=r then T m A b r j*(dt m A b*A c t)else 0):=λk hk=>by
   by_cases z:k=r
   .subst z;rw[if_pos rfl,rF H hr,nj ls hr,gs hb,if_pos rfl,X4 (dt m A b)];have:T m A b k c*(T m A b k j*(Bm m A b).getD k (λ_=>0) t) + - T m A b k j*(T m A b k c*(Bm m A b).getD k (λ_=>0) t)=0:=by rw[Int.neg_mul,X4 (T m A b k c)];lia
    rw[this,Z1]
   rw[if_neg z,Z7,<-Xh,u7 H hr hk z];have eB:(Bm m A (b.set r c)).getD k (λ_=>0)=(Bm m A b).getD k (λ_=>0):=by rw[uh H.len hr,VO,Wg (Ne.symm z),<-VO]
   rw[eB,Int.sub_mul,Int.neg_mul,Xh,<-Xh (T m A b r j),We (T m A b r j),Int.sub_eq_add_neg]
  rw[bP e,u9,u9,jR,jR,<-H.J j t,<-H.J c t,qf (i:=r) (by lia) λk _ z=>if_neg z,if_pos rfl,Int.neg_mul,X4 (dt m A b)];lia
 by_cases z:k=r;{subst z;rw[rF H hr];exact H.rhs k hk};have e:=u7 H hr (c:=c) (by lia) z N;have h1:=H.rhs k hk;have h2:=H.rhs r hr;refine Xi λneg=>?_;have neg:T m A (b.set r c) k N<0:=Int.not_le.mp neg;have h3:=Int.mul_neg_of_pos_of_neg dp neg;rw[e]at h3;by_cases q:0<T m A b k c;{have:=rat k hk q;rw[We (T m A b r c),We (T m A b k c)]at h3;lia};have a1:=Int.mul_nonneg (Y3 hp) h1;have a2:T m A b k c*T m A b r N<=0:=Z8 (XN.mp q) h2;lia
end
section
variable(m N:Nat)(A:Nat->Vc)
structure xy(b:A07) (s r:Nat):Prop where
 sN:s<N
 neg:T m A b m s<0
 fst:∀j,j<s->0<=T m A b m j
 rm:r<m
 pos:0<T m A b r s
 rat:∀k,k<m->0<T m A b k s->T m A b r N*T m A b k s<=T m A b k N*T m A b r s
 QB:∀k,k<m->0<T m A b k s->T m A b r N*T m A b k s=T m A b k N*T m A b r s->b.getD r 0<=b.getD k 0
end
section
variable{m N:Nat}{A:Nat->Vc}
def xy.bs{s r:Nat}(S:xy m N A b s r)(H:Bs m N A b):Bs m N A (b.set r s):=Vn H S.rm S.sN S.pos S.rat
def oU{a b c d e f:Int}(pd:0<d)(pf:0<f)(pb:0<b)(h1:a*d<=c*b)(h2:c*f<=e*d):a*f<=e*b:=by refine Int.le_of_mul_le_mul_left ?_ pd;have g1:=Z9 h1 (Y3 pf);have g2:=Z9 h2 (Y3 pb);rw[show d*(a*f)=a*d*f by rw[X4,Xh]];rw[show d*(e*b)=e*d*b by rw[X4,Xh]];rw[show c*b*f=c*f*b by rw[Int.mul_right_comm]]at g1;lia
structure gZ(m N:Nat)(A:Nat->Vc)(b:Nat->A07)(s r:Nat->Nat) (L:Nat):Prop where
 bs:∀t,Bs m N A (b t)
 st:∀t,xy m N A (b t) (s t) (r t)
 nx:∀t,b (t+1)=(b t).set (r t) (s t)
 pL:0<L
 pb:∀t,b (t+L)=b t
 ps:∀t,s (t+L)=s t
 pr:∀t,r (t+L)=r t
section
variable{b:Nat->A07}{s r:Nat->Nat}{L:Nat}
def gZ.dn(R:gZ m N A b s r L) (t:Nat):dt m A (b (t+1))=T m A (b t) (r t) (s t):=by rw[R.nx t];exact xY (R.bs t) (R.st t).rm
def gZ.zn(R:gZ m N A b s r L) (t:Nat):dt m A (b t)*T m A (b (t+1)) m N=T m A (b t) m N*dt m A (b (t+1))-T m A (b t) m (s t)*T m A (b t) (r t) N:=by have e:=u7 (R.bs t) (R.st t).rm (c:=s t) (k:=m) (by lia) (by have:=(R.st t).rm;lia) N;rw[<-R.nx t]at e;rw[e,R.dn t,We (T m A (b t) m N)]
def gZ.up1(R:gZ m N A b s r L) (t:Nat):T m A (b t) m N*dt m A (b (t+1))<=T m A (b (t+1)) m N*dt m A (b t):=by have e:=R.zn t;have h:=Z8 (Y3 (R.st t).neg) ((R.bs t).rhs _ (R.st t).rm);rw[We (T m A (b (t+1)) m N),e];lia
theorem gZ.up(R:gZ m N A b s r L) (t:Nat):∀k,T m A (b t) m N*dt m A (b (t+k))<=T m A (b (t+k)) m N*dt m A (b t)
 |0=>XQ _
 |k+1=>oU (R.bs (t+k)).pos (R.bs (t+k+1)).pos (R.bs t).pos (R.up t k) (R.up1 (t+k))
def gZ.yc(R:gZ m N A b s r L) (t:Nat):T m A (b t) (r t) N=0:=by
 refine Xi λne=>?_;have p:0<T m A (b t) (r t) N:=by have:=(R.bs t).rhs _ (R.st t).rm;lia
 have h:=R.up (t+1) (L-1);have pL:=R.pL;rw[show t+1+(L-1)=t+L by lia,R.pb t]at h;have e:=R.zn t;have g:=Int.mul_neg_of_neg_of_pos (R.st t).neg p;rw[We (T m A (b (t+1)) m N)]at h;lia
def gZ.Tq(R:gZ m N A b s r L) (t:Nat){k:Nat}(hk:k<m)(h:T m A (b t) k N=0):T m A (b (t+1)) k N=0:=by by_cases c:k=r t;{rw[R.nx t,c,rF (R.bs t) (R.st t).rm];exact R.yc t};have e:=u7 (R.bs t) (R.st t).rm (c:=s t) (k:=k) (by lia) c N;rw[<-R.nx t,R.yc t,h,WI,WI]at e;have:=(R.bs t).pos;rcases Int.mul_eq_zero.mp e with z|z<;>lia
theorem gZ.row(R:gZ m N A b s r L) (t k:Nat)(hk:k<m):∀n,(b (t+n)).getD k 0=(b t).getD k 0\/∃u,u<n/\(b (t+n)).getD k 0=s (t+u)/\T m A (b (t+n)) k N=0
 |0=>.inl rfl
 |n+1=>by have hl:=(R.bs (t+n)).len;have hr:=(R.st (t+n)).rm;rw[<-X3,R.nx (t+n),gs (by lia)];by_cases c:k=r (t+n);{rw[if_pos c];refine .inr ⟨n,by lia,rfl,?_⟩;rw[c,rF (R.bs _) hr];exact R.yc _};rw[if_neg c,<-R.nx (t+n)];rcases R.row t k hk n with h|⟨u,hu,h,z⟩;{exact .inl h};exact .inr ⟨u,by lia,h,R.Tq (t+n) hk z⟩
theorem first{P:Nat->Prop}:∀n,P n->∃k,k<=n/\P k/\∀j,j<k->¬P j
 |0,h=>⟨0,V5 0,h,λj hj=>by lia⟩
 |n+1,h=>by
  by_cases c:∃j,j<=n/\P j
  .obtain⟨j,hj,pj⟩:=c;have⟨k,hk,pk,f⟩:=first (P:=P) j pj
   exact⟨k,by lia,pk,f⟩
  exact⟨n+1,V5 _,h,λj hj pj=>c ⟨j,by lia,pj⟩⟩
termination_by n=>n
theorem gZ.keep(R:gZ m N A b s r L) (t k:Nat):∀n,(∀j,j<n->r (t+j)≠k)->(b (t+n)).getD k 0=(b t).getD k 0
 |0,_=>rfl
 |n+1,h=>by have hl:=(R.bs (t+n)).len;have hr:=(R.st (t+n)).rm;rw[<-X3,R.nx (t+n),gs (by lia),if_neg (λe=>h n (by lia) e.symm)];exact R.keep t k n λj hj=>h j (by lia)
theorem gZ.Tf(R:gZ m N A b s r L) (t:Nat):∀n,s (t+n*L)=s t
 |0=>by rw[Nat.zero_mul];rfl
 |n+1=>by rw[Nat.add_mul,Nat.one_mul,<-X3,R.ps,R.Tf t n]
theorem most(f:Nat->Nat):∀L,0<L->∃p,p<L/\∀t,t<L->f t<=f p
 |1,_=>⟨0,by lia,λt ht=>by rw[show t=0 by lia];exact V5 _⟩
 |L+2,_=>by have⟨p,hp,h⟩:=most f (L+1) (by lia);by_cases c:f (L+1)<=f p;{exact⟨p,by lia,λt ht=>if e:t=L+1 then e▸c else h t (by lia)⟩};exact⟨L+1,by lia,λt ht=>if e:t=L+1 then e▸V5 _ else by have:=h t (by lia);lia⟩
def two(P:Bs m N A p)(Q:Bs m N A q) (x:Nat):dt m A q*T m A p m x=sm m (λk=>T m A q k x*T m A p m (q.getD k 0))+T m A q m x*dt m A p:=by
 have lp:=nH (A:=A) P.len;have h1:=Bh (B:=Bm m A p) (i:=m) (by lia) (c:=dt m A q) (v:=A x) (w:=λt=>dt m A q*A x t) (λ_=>rfl);have h2:=qI (B:=Bm m A p) (i:=m) (by lia) (w:=λt=>dt m A q*A x t) (Q.J x);rw[lp]at h1 h2;have e:T m A p m x=det (m+1) ((Bm m A p).set m (A x)):=rfl;rw[e,<-h1,h2,sm];have e1:det (m+1) ((Bm m A p).set m ((Bm m A q).getD m λ_=>0))=dt m A p:=by rw[kF Q.len,<-kF (A:=A) P.len,uT (by lia)];rfl
 rw[e1,bP λk hk=>by rw[nj Q.len hk]];rfl
def gZ.no(R:gZ m N A b s r L):False:=by
 have pL:=R.pL;have⟨p,hp,hm⟩:=most s L pL;have hmax:∀t,s t<=s p:=λt=>by have:=R.Tf (t%L) (t/L);rw[Nat.mul_comm,Nat.mod_add_div]at this;rw[this];exact hm _ (Yd _ pL)
 have⟨n,hn,en,fn⟩:=first (P:=λn=>r (p+1+n)=r p) (L-1) (by
  show r (p+1+(L-1))=r p;rw[show p+1+(L-1)=p+L by lia,R.pr])
 have Sp:=R.st p;have Bp:=R.bs p;have Bq:=R.bs (p+1+n);have Sq:=R.st (p+1+n);have lp:=Bp.len;have lq:=Bq.len;have hc:(b (p+1+n)).getD (r p) 0=s p:=by rw[R.keep (p+1) (r p) n fn,R.nx p,gs (by have:=Sp.rm;lia),if_pos rfl]
 have sN:s (p+1+n)≠s p:=λe=>by have:=uY (A:=A) Bq.len (i:=m) (k:=r p) (by lia) Sp.rm;rw[hc,<-e,if_neg (by have:=Sp.rm;lia)]at this;have:=Sq.neg;lia
 have sl:s (p+1+n)<s p:=by have:=hmax (p+1+n);lia
 have h:=two Bp Bq (s (p+1+n));have h1:=Int.mul_nonneg (Y3 Bq.pos) (Sp.fst _ sl);have h2:=Int.mul_neg_of_neg_of_pos Sq.neg Bp.pos;have⟨k,hk,pk⟩:=Oo (n:=m) (f:=λk=>T m A (b (p+1+n)) k (s (p+1+n))*T m A (b p) m ((b (p+1+n)).getD k 0)) (by lia);have nb:T m A (b p) m ((b (p+1+n)).getD k 0)≠0:=λz=>by rw[z,WI]at pk;lia
 rcases R.row p k hk (1+n)with z|⟨u,hu,z,yc⟩;{rw[<-X3]at z;rw[z]at nb;refine nb ?_;rw[uY (A:=A) Bp.len (by lia) hk,if_neg (by lia)]};rw[<-X3]at z yc;have le:=hmax (p+u);rw[<-z]at le;by_cases c:(b (p+1+n)).getD k 0=s p;{have ek:=Bq.nd hk Sp.rm (c.trans hc.symm);subst ek;rw[c]at pk;have s1:=Sq.pos;rw[en]at s1;have:=Int.mul_neg_of_pos_of_neg s1 Sp.neg;lia};have a1:=Sp.fst _ (show(b (p+1+n)).getD k 0<s p by lia);have a2:0<T m A (b (p+1+n)) k (s (p+1+n)):=by refine Int.not_le.mp λy=>?_;have:=Z8 y a1;lia
 have:=Sq.QB k hk a2 (by rw[R.yc,yc,Xj,Xj]);rw[en,hc]at this;lia
end
end
def cd (N:Nat):A07->Nat
 |[]=>0
 |x::l=>x+N*cd N l
theorem KN{N:Nat}:∀l:A07,(∀x∈l,x<N)->cd N l<N^l.length
 |[],_=>by show 0<1;decide
 |x::l,h=>by have h1:=KN l λy hy=>h y (VA _ hy);have h2:=h x V3;have h3:=Nat.mul_le_mul_left N (show cd N l+1<=N^l.length by lia);rw[VI,Nat.pow_succ,Nat.mul_comm _ N];rw[Nat.mul_add]at h3;show x+N*cd N l<_;lia
theorem Ez{N:Nat}:∀l k:A07,l.length=k.length->(∀x∈l,x<N)->(∀x∈k,x<N)->cd N l=cd N k->l=k
 |[],[],_,_,_,_=>rfl
 |x::l,y::k,e,h1,h2,h=>by
  have x1:=h1 x V3;have y1:=h2 y V3;have h:x+N*cd N l=y+N*cd N k:=h;have ex:x=y:=by have:=congrArg (·%N) h;rwa[Zc,Zc,ZA x1,ZA y1]at this
  subst ex;have:cd N l=cd N k:=Nat.eq_of_mul_eq_mul_left (show 0<N by lia) (by lia);rw[Ez l k (by simpa using e) (λz hz=>h1 z (VA _ hz)) (λz hz=>h2 z (VA _ hz)) this]
theorem S5:∀(n:Nat)(f:Nat->Nat) (t:Nat),(∀u,u<t->f u<n)->n<t->∃i j,i<j/\j<t/\f i=f j
 |0,f,t,h,ht=>absurd (h 0 ht) (XO _)
 |n+1,f,t+1,h,ht=>by
  by_cases c:∃i,i<t/\f i=f t;{obtain⟨i,hi,e⟩:=c;exact⟨i,t,hi,by lia,e⟩};have⟨i,j,hij,hj,e⟩:=S5 n (λu=>if f u=n then f t else f u) t (λu hu=>by
   have h1:=h u (by lia)
   have h2:=h t (by lia)
   have h3:f u≠f t:=λe=>c ⟨u,hu,e⟩
   split<;>lia) (by lia)
  have n1:f i≠f t:=λe=>c ⟨i,by lia,e⟩;have n2:f j≠f t:=λe=>c ⟨j,by lia,e⟩;refine⟨i,j,hij,by lia,?_⟩;split at e<;>split at e<;>lia
section
variable{m N:Nat}{A:Nat->Vc}
inductive Run(m N:Nat)(A:Nat->Vc)(b0:A07) (t:Nat)(b:A07):Prop
 |mk (f s r:Nat->Nat->Nat)(g:Nat->A07)(e0:g 0=b0)(et:g t=b)(st:∀u,u<t->xy m N A (g u) (s u 0) (r u 0))(nx:∀u,u<t->g (u+1)=(g u).set (r u 0) (s u 0)):Run m N A b0 t b
def Run.zero(b0:A07):Run m N A b0 0 b0:=⟨λ_ _=>0,λ_ _=>0,λ_ _=>0,λ_=>b0,rfl,rfl,λu h=>by lia,λu h=>by lia⟩
def Run.snoc{t s r:Nat}(R:Run m N A b0 t b)(S:xy m N A b s r):Run m N A b0 (t+1) (b.set r s):=by obtain⟨_,s',r',g,e0,et,st,nx⟩:=R;refine⟨λ_ _=>0,λu _=>if u=t then s else s' u 0,λu _=>if u=t then r else r' u 0,λu=>if u=t+1 then b.set r s else g u,?_,?_,λu hu=>?_,λu hu=>?_⟩;{rw[if_neg (by lia)];exact e0};{rw[if_pos rfl]};{rw[if_neg (show ¬u=t+1 by lia)];by_cases c:u=t;{subst c;rw[if_pos rfl,if_pos rfl,et];exact S};rw[if_neg c,if_neg c];exact st u (by lia)};rw[if_neg (show ¬u=t+1 by lia)];by_cases c:u=t;{subst c;rw[if_pos rfl,if_pos rfl,if_pos rfl,et]};rw[if_neg c,if_neg c,if_neg (by lia)];exact nx u (by lia)
def Run.short{t:Nat}(R:Run m N A b0 t b)(B:Bs m N A b0):t<N^m/\Bs m N A b:=by
 obtain⟨_,s,r,g,e0,et,st,nx⟩:=R;have bs:∀u,u<=t->Bs m N A (g u):=λu=>by
  induction u with
  |zero=>intro _;rw[e0];exact B
  |succ u ih=>intro hu;rw[nx u (by lia)];exact(st u (by lia)).bs (ih (by lia))
 refine⟨Nat.not_le.mp λh=>?_,et▸bs t (V5 _)⟩;have⟨i,j,hij,hj,e⟩:=S5 (N^m) (λu=>cd N (g u)) (t+1) (λu hu=>by
  have b:=bs u (by lia)
  have:=KN (g u) b.lt;rwa[b.len]at this) (by lia)
 have bi:=bs i (by lia);have bj:=bs j (by lia);have eg:g i=g j:=Ez _ _ (bi.len.trans bj.len.symm) bi.lt bj.lt e;have pL:0<j-i:=by lia
 have md:∀u,i+u%(j-i)<j:=λu=>by have:=Yd u pL;lia
 refine gZ.no (m:=m) (N:=N) (A:=A) (b:=λu=>g (i+u%(j-i))) (s:=λu=>s (i+u%(j-i)) 0) (r:=λu=>r (i+u%(j-i)) 0) (L:=j-i) ⟨λu=>bs _ (by have:=md u;lia),λu=>st _ (by have:=md u;lia),λu=>?_,pL,λu=>?_,λu=>?_,λu=>?_⟩
 .rw[<-nx _ (by have:=md u;lia)];by_cases c:u%(j-i)+1<j-i
  .have:(u+1)%(j-i)=u%(j-i)+1:=by rw[Nat.add_mod,ZA (show 1<j-i by lia),ZA c]
   rw[this];rfl
  have h1:u%(j-i)+1=j-i:=by have:=Yd u pL;lia
  have:(u+1)%(j-i)=0:=by rw[<-Nat.mod_add_div u (j-i),Nat.add_right_comm,h1,Zc,Nat.mod_self]
  rw[this,show i+0=i from rfl,eg,show i+u%(j-i)+1=j by lia]
 all_goals rw[Nat.add_mod_right]
theorem BH:∀(post pre:List Vc),(∀c∈post,c 0=0)->ex D pre post=0
 |[],_,_=>rfl
 |c::post,pre,h=>by rw[ex,h c V3,BH post _ λx hx=>h x (VA _ hx)];lia
theorem zc:∀n:Nat,det n ((List.range n).map un)=1
 |0=>rfl
 |n+1=>by
  rw[List.range_succ_eq_map,VN,VG,det,ex,BH _ _ λc hc=>by
   obtain⟨k,_,e⟩:=V8.mp hc;rw[<-e];rfl]
  have:List.map sh ([]++List.map (un∘Nat.succ) (List.range n))=(List.range n).map un:=by
   rw[XJ,VG];refine VX λk _=>funext λt=>?_;show(if t+1=k+1 then(1:Int)else 0)=if t=k then 1 else 0
   by_cases c:t=k;{rw[if_pos c,if_pos (by lia)]};rw[if_neg c,if_neg (by lia)]
  rw[this,zc n];rfl
def Dg{n:Nat}{v:Vc}{t:Nat}(h:t<n\/v t=0):v t=sm n λk=>v k*un k t:=by by_cases c:t<n;{rw[qf c λk _ z=>by rw[un,if_neg (Ne.symm z),WI],un,if_pos rfl,Wm]};rw[kH λk hk=>by rw[un,if_neg (by lia),WI]];exact h.resolve_left c
def zU{n k:Nat}(h:k<n):((List.range n).map un).getD k (λ_=>0)=un k:=by rw[VO,VE,VF h];rfl
def MB{n k:Nat}(hk:k<n)(h:∀t,n<=t->v t=0):det n (((List.range n).map un).set k v)=v k:=by
 have l:((List.range n).map un).length=n:=by rw[V4,VD]
 have:=qI (B:=(List.range n).map un) (i:=k) (by lia) (n:=n) (cf:=v) (V:=un) (w:=v) (λt=>Dg (by
  by_cases c:t<n
  .exact .inl c
  .exact .inr (h t (by lia))))
 rw[l]at this;rw[this,qf hk λi hi z=>?_]
 .have e:((List.range n).map un).set k (un k)=(List.range n).map un:=by have:=uT (l:=(List.range n).map un) (k:=k) (by lia);rwa[zU hk]at this
  rw[e,zc,Wm]
 have:=uJ (B:=((List.range n).map un).set k (un i)) (i:=k) (j:=i) (by rw[VT];lia) (by rw[VT];lia) (Ne.symm z) (by
  rw[Wr (by lia),Wg (Ne.symm z),yl (by lia),zU hi])
 rw[VT,l]at this;rw[this,WI]
structure Pb(m n:Nat)(A:Nat->Vc):Prop where
 out:∀j t,m<t->A j t=0
 bin:∀j t,j<n->t<m->A j t=0\/A j t=1
 nz:∀j,j<n->∃t,t<m/\A j t=1
 gl:∀j,j<n->A j m=-1
 un:∀k,k<m->A (n+k)=un k
 one:∀t,t<m->A (n+m) t=1
 top:A (n+m) m=0
variable{n:Nat}
def Pb.ON(P:Pb m n A):Bm m A ((List.range m).map (n+·))=(List.range (m+1)).map Lp.un:=by rw[Bm,WZ,VR,VG];congr 1;exact VX λk hk=>P.un k (VU.mp hk)
def Pb.t0(P:Pb m n A){k:Nat}(hk:k<m+1) (j:Nat):T m A ((List.range m).map (n+·)) k j=A j k:=by rw[T,P.ON,MB hk λt ht=>P.out j t (by lia)]
def Pb.d0(P:Pb m n A):dt m A ((List.range m).map (n+·))=1:=by rw[dt,P.ON,zc]
def Pb.Su(P:Pb m n A):Bs m (n+m) A ((List.range m).map (n+·)):=by refine⟨by rw[V4,VD],λc hc=>?_,by rw[P.d0];decide,λj t=>?_,λk hk=>?_⟩;{obtain⟨k,hk,e⟩:=V8.mp hc;have:=VU.mp hk;lia};{rw[P.d0,Int.one_mul,P.ON,bP λk hk=>by rw[P.t0 hk,zU hk]];refine Dg ?_;by_cases c:t<m+1;{exact .inl c};exact .inr (P.out j t (by lia))};rw[P.t0 (by lia),P.one k hk];decide
variable{b:A07}
def Pb.Qg(P:Pb m n A)(B:Bs m (n+m) A b) (j:Nat):T m A b m j=sm m (λk=>A j k*T m A b m (n+k))+A j m*dt m A b:=by
 have l:=nH (A:=A) B.len;have:=qI (B:=Bm m A b) (i:=m) (by lia) (n:=m+1) (cf:=A j) (V:=Lp.un) (w:=A j) (λt=>Dg (by
  by_cases c:t<m+1
  .exact .inl c
  .exact .inr (P.out j t (by lia))))
 rw[l]at this;have e:T m A b m j=det (m+1) ((Bm m A b).set m (A j)):=rfl;rw[e,this,sm,<-kF (A:=A) B.len,uT (by lia)];congr 1;refine bP λk hk=>?_;rw[<-P.un k hk];rfl
def Pb.Oj(P:Pb m n A)(B:Bs m (n+m) A b){j:Nat}(hj:j<n):T m A b m j=sm m (λk=>A j k*T m A b m (n+k))-dt m A b:=by rw[P.Qg B,P.gl j hj];lia
def Pb.Tt(P:Pb m n A)(B:Bs m (n+m) A b):T m A b m (n+m)=sm m λk=>T m A b m (n+k):=by rw[P.Qg B,P.top,bP λk hk=>by rw[P.one k hk,Int.one_mul]];lia
def Pb.goal(P:Pb m n A)(B:Bs m (n+m) A b):T m A b m (n+m)=sm m λk=>if b.getD k 0<n then T m A b k (n+m)else 0:=by
 have h:=B.J (n+m) m;rw[P.top,WI,sm,kF B.len,Lp.un,if_pos rfl,Wm,bP λk hk=>by rw[nj B.len hk]]at h;have e:(sm m λk=>T m A b k (n+m)*A (b.getD k 0) m)=- sm m λk=>if b.getD k 0<n then T m A b k (n+m)else 0:=by
  rw[show(- sm m λk=>if b.getD k 0<n then T m A b k (n+m)else 0)=(-1)*sm m λk=>if b.getD k 0<n then T m A b k (n+m)else 0 by lia,<-jR];refine bP λk hk=>?_;have hb:=B.lt (b.getD k 0) (by
   rw[VO,VP (by rw[B.len];exact hk)]
   exact Xp _)
  by_cases c:b.getD k 0<n;{rw[if_pos c,P.gl _ c];lia};rw[if_neg c,show b.getD k 0=n+(b.getD k 0-n)by lia,P.un _ (by lia),Lp.un,if_neg (by lia)];lia
 lia
def Pb.place(P:Pb m n A)(B:Bs m (n+m) A b){t:Nat}(ht:t<m):(sm m λk=>if b.getD k 0<n then T m A b k (n+m)*A (b.getD k 0) t else 0)<=dt m A b:=by
 have h:=B.J (n+m) t;rw[P.one t ht,Wm,sm,kF B.len,Lp.un,if_neg (by lia),WI,Z7,bP λk hk=>by rw[nj B.len hk]]at h;rw[h];refine um λk hk=>?_;have hb:=B.lt (b.getD k 0) (by
  rw[VO,VP (by rw[B.len];exact hk)]
  exact Xp _)
 by_cases c:b.getD k 0<n;{rw[if_pos c];exact XQ _};rw[if_neg c,show b.getD k 0=n+(b.getD k 0-n)by lia,P.un _ (by lia),Lp.un];split;{rw[Wm];exact B.rhs k hk};rw[WI];exact XQ _
def Pb.bound(P:Pb m n A)(B:Bs m (n+m) A b){s:Nat}(hs:s<n+m):∃k,k<m/\0<T m A b k s:=by
 refine Xi λz=>?_;have⟨t,ht,e⟩:∃t,t<m/\A s t=1:=by by_cases c:s<n;{exact P.nz s c};exact⟨s-n,by lia,by rw[show A s=A (n+(s-n))by rw[show n+(s-n)=s by lia],P.un _ (by lia),Lp.un,if_pos rfl]⟩
 have h:=B.J s t;rw[e,Wm,sm,kF B.len,Lp.un,if_neg (by lia),WI,Z7,bP λk hk=>by rw[nj B.len hk]]at h;have le:(sm m λk=>T m A b k s*A (b.getD k 0) t)<=sm m λ_=>0:=um λk hk=>by
  refine Z8 (XN.mp λy=>z ⟨k,hk,y⟩) ?_;have hb:=B.lt (b.getD k 0) (by
   rw[VO,VP (by rw[B.len];exact hk)]
   exact Xp _)
  by_cases c:b.getD k 0<n;{rcases P.bin _ t c ht with y|y<;>rw[y]<;>decide};rw[show b.getD k 0=n+(b.getD k 0-n)by lia,P.un _ (by lia),Lp.un];split<;>decide
 rw[kH (f:=λ_=>0) λ_ _=>rfl]at le;have:=B.pos;lia
def By:Nat->Int
 |0=>1
 |n+1=>((n+1:Nat):Int)*By n
def yX (c:Vc):Prop:=∀t,-1<=c t/\c t<=1
theorem KU{q:Int}:∀(post pre:List Vc),(∀l:List Vc,l.length+1=pre.length+post.length->(∀c∈l,yX c)->-q<=D l/\D l<=q)->(∀c∈pre,yX c)->(∀c∈post,yX c)->-((post.length:Int)*q)<=ex D pre post/\ex D pre post<=(post.length:Int)*q
 |[],_,_,_,_=>by rw[ex];simp
 |c::post,pre,hD,h1,h2=>by
  have r:=KU post (pre++[c]) (λl hl=>hD l (by simp only[VH,VI,WD]at hl⊢;lia)) (λx hx=>(VS.mp hx).elim (h1 x) λy=>V7.mp y▸h2 c V3) (λx hx=>h2 x (VA _ hx));have d:=hD ((pre++post).map sh) (by simp only[V4,VH,VI];lia) (λx hx=>by
   obtain⟨y,hy,e⟩:=V8.mp hx;rw[<-e];exact λt=>((VS.mp hy).elim (h1 y) λz=>h2 y (VA _ z)) (t+1))
  have c0:=h2 c V3 0;have e:c 0=-1\/c 0=0\/c 0=1:=by lia
  rw[ex,VI,Int.natCast_add,Int.add_mul];rcases e with e|e|e<;>rw[e]<;>lia
theorem yd:∀(n:Nat)(cs:List Vc),cs.length=n->(∀c∈cs,yX c)->- By n<=det n cs/\det n cs<=By n
 |0,_,_,_=>by rw[det,By];decide
 |n+1,cs,h,hs=>by have:=KU (D:=det n) (q:=By n) cs [] (λl hl hc=>yd n l (by simp only[WD]at hl;lia) hc) (λc hc=>by simp at hc) hs;rw[h]at this;exact this
end
end Lp
namespace PB
open PySem L2 Dv Gr
def Em{c:Prop} [i:Decidable c]{α:Type}{a b:Option α}{Q:α->Prop}(h:¬c)(p:ay b Q):ay (if c then a else b) Q:=by rw[if_neg h];exact p
abbrev wY (F:Nat->Int) (c:Nat):PyData:=.list ((List.range c).map λj=>PyData.int (F j))
abbrev tb (F:Nat->Nat->Int) (m c:Nat):PyData:=.list ((List.range m).map λk=>wY (F k) c)
noncomputable def mA (l:List dD) (m:Nat):Nat->Lp.Vc:=λj t=>if j<l.length then(if t<m then(if t∈(l.getD j (.inl 0,.inl 0,[])).2.2 then 1 else 0)else if t=m then-1 else 0)else if j<l.length+m then(if t=j-l.length then 1 else 0)else(if t<m then 1 else 0)
def AW{α β:Type}{f:α->β}{d:α}:∀{l:List α},l.map f=(List.range l.length).map λj=>f (l.getD j d):=λ{l}=>by refine WA λi=>?_;rw[VE,VE];by_cases h:i<l.length;{rw[VF h,VP h];show some (f l[i])=some (f (l.getD i d));rw[VO,VP h];rfl};rw[VY (by lia),VY (by rw[VD];lia)];rfl
def mR{α:Type}{f:Nat->α}{a b:Nat}:(List.range (a+b)).map f=(List.range a).map f++(List.range b).map λj=>f (a+j):=by rw[List.range_add,VR,VG];rfl
def F8{l:List dD}{m i:Nat}(hi:i<m):(l.map λe=>PyData.int (if i∈e.2.2 then 1 else 0))++(List.range m).map (λj=>PyData.int (if i=j then 1 else 0))++[.int 1]=(List.range (l.length+m+1)).map λj=>PyData.int (mA l m j i):=by rw[mR,mR,AW (d:=(.inl 0,.inl 0,[]))];congr 1;{congr 1;{refine VX λj hj=>?_;have hj:=VU.mp hj;unfold mA;rw[if_pos hj,if_pos hi]};refine VX λj hj=>?_;have hj:=VU.mp hj;unfold mA;rw[if_neg (show ¬l.length+j<l.length by lia),if_pos (show l.length+j<l.length+m by lia),Xu]};show _=[PyData.int (mA l m (l.length+m+0) i)];unfold mA;rw[if_neg (show ¬l.length+m+0<l.length by lia),if_neg (show ¬l.length+m+0<l.length+m by lia),if_pos hi]
def IJ{l:List dD}{m:Nat}:List.replicate l.length (PyData.int (-1))++List.replicate (m+1) (PyData.int 0)=(List.range (l.length+m+1)).map λj=>PyData.int (mA l m j m):=by rw[X3,mR];congr 1;{refine WA λj=>?_;rw[VE];by_cases h:j<l.length;{rw[VF h,Yk,if_pos h];show some _=some (PyData.int (mA l m j m));unfold mA;rw[if_pos h,if_neg (WB m),if_pos rfl]};rw[VY (by rw[Wk];lia),VY (by rw[VD];lia)];rfl};refine WA λj=>?_;rw[VE];by_cases h:j<m+1;{rw[VF h,Yk,if_pos h];show some _=some (PyData.int (mA l m (l.length+j) m));unfold mA;rw[if_neg (show ¬l.length+j<l.length by lia)];by_cases c:l.length+j<l.length+m;{rw[if_pos c,if_neg (by lia)]};rw[if_neg c,if_neg (WB m)]};rw[VY (by rw[Wk];lia),VY (by rw[VD];lia)];rfl
def Ck:bz:=λdd Q x=>∃(l:List dD) (m:Nat),dd=[.list (l.map p3),iD m]/\l.length<=100000/\m<=7/\Q [] (.ow false) (tb (λk j=>mA l m j k) (m+1) (l.length+m+1))
def O8:∀dd Q x,Ck dd Q x->kY (aY [false,false] Q x) (ini [false,false] dd++List.replicate 7 none):=by
 rintro _ Q x⟨l,m,rfl,hl,hm,q⟩;unfold kY;left;refine⟨by decide,?_⟩;symm;rw[if_pos (by lia)];refine aA rfl ?_;refine kD (λi E=>EX λ(o3 o4 o5:Option (Kd×PyData))=>BL (E=[some (.sh,.list (l.map p3)),some (.sh,iD m),some (.ow false,tb (λk j=>mA l m j k) i (l.length+m+1)),o3,o4,o5,none,none,none]) (bu o3=true) (bu o4=true) (bu o5=true)) ⟨none,none,none,rfl,rfl,rfl,rfl⟩ ?_ ?_
 .rintro J i _ hi hJ⟨o3,o4,o5,rfl,z3,z4,z5⟩;simp![z3];refine fM (λe:dD=>PyData.int (if i∈e.2.2 then 1 else 0)) rfl (λe he I hI=>?_) ?_ (by lia)
  .rfl';refine⟨⟨by rw[VL];intro y _;rfl,rfl⟩,?_⟩;have em:(iD i∈e.2.2.map iD)=(i∈e.2.2):=propext ⟨λz=>by
    obtain⟨y,hy,ey⟩:=V8.mp z;rw[<-M0.mp ey];exact hy,λz=>Ye z⟩
   by_cases c:i∈e.2.2;{rw[if_pos (by rw[em];exact c)];rw[if_pos c]at hI;exact hI _ rfl};rw[if_neg (by rw[em];exact c)];rw[if_neg c]at hI;exact hI _ rfl
  rfl';refine⟨z4,?_⟩;rw[if_pos (by lia)];refine aA rfl (fM (λj=>PyData.int (if i=j then 1 else 0)) rfl (λj hj I hI=>?_) ?_ (by rw[VD];lia));{rfl';by_cases c:i=j;{rw[if_pos c];rw[if_pos c]at hI;exact hI _ rfl};rw[if_neg c];rw[if_neg c]at hI;exact hI _ rfl};rfl';refine⟨z5,by lia,by decide,by rw[VH,V4,V4,VD];lia,by lia,hJ _ ⟨some (.sh,iD i),some (.ow false,.list (l.map λe=>PyData.int (if i∈e.2.2 then 1 else 0))),some (.ow false,.list ((List.range m).map λj=>PyData.int (if i=j then 1 else 0))),?_,rfl,rfl,rfl⟩⟩;rw[F8 hi];show _=[_,_,some (Kd.ow false,PyData.list ((List.range (i+1)).map λk=>wY (λj=>mA l m j k) (l.length+m+1))),_,_,_,_,_,_];rw[WZ (n:=i),VR];rfl
 rintro _⟨o3,o4,o5,rfl,z3,z4,z5⟩;show B _;right;have t1:((m:Int)+1).toNat=m+1:=by lia
 rw[t1,Zd,Zd,IJ];refine⟨by decide,⟨by lia,by lia,by lia⟩,by decide,⟨by lia,by lia,by lia⟩,by rw[Wk,Wk];lia,by decide,by lia,Em (by rw[XY];decide) (aA rfl ?_)⟩;have e:tb (λk j=>mA l m j k) (m+1) (l.length+m+1)=.list (((List.range m).map λk=>wY (λj=>mA l m j k) (l.length+m+1))++[PyData.list ((List.range (l.length+m+1)).map λj=>PyData.int (mA l m j m))]):=by show PyData.list _=_;rw[WZ (n:=m),VR];rfl
 rw[e]at q;exact q
def Bd (F:Nat->Nat->Int):Prop:=∀k j,-100000<=F k j/\F k j<=100000
def nK (F:Nat->Nat->Int)(b:A07) (c s p q:Nat):Prop:=F p c*F q s<F q c*F p s\/(F p c*F q s=F q c*F p s/\b.getD p 0<b.getD q 0)
instance {F:Nat->Nat->Int}{b:A07}{c s p q:Nat}:Decidable (nK F b c s p q):=inferInstanceAs (Decidable (_\/_))
def jB{f:Nat->PyData}{c:Nat}:dP ((List.range (c+1)).map f) (-1)=some (f c):=by
 have e:l0 ((List.range (c+1)).map f).length (-1)=some c:=by rw[V4,VD];unfold l0;rw[if_neg (by decide),if_pos (by lia)];exact congrArg some (by lia)
 unfold dP;rw[e];show((List.range (c+1)).map f)[c]?=_;rw[VE,VF (by lia)];rfl
noncomputable def C0:bz:=λdd Q x=>∃(F:Nat->Nat->Int)(b:A07) (m c s p q:Nat),dd=[tb F m (c+1),nD b,iD s,iD p,iD q]/\Bd F/\m<=b.length+1/\s<c/\p<b.length/\q<b.length/\p<m/\q<m/\Q [] .sh (.bool (decide (nK F b c s p q)))
def O7:∀dd Q x,C0 dd Q x->kP (aY [false,false,false,false,false] Q x) (ini [false,false,false,false,false] dd++List.replicate 2 none):=by
 rintro _ Q x⟨F,b,m,c,s,p,q,rfl,bd,hb,hs,hpb,hqb,hp,hq,hQ⟩;unfold kP;left;refine aA (VF hp) (aA jB (aA (VF hq) (aA (VF (show s<c+1 by lia)) ⟨.inl ⟨by have:=bd p c;lia,by have:=bd p c;lia⟩,?_⟩)));show B _;symm;refine aA (VF hq) (aA jB (aA (VF hp) (aA (VF (show s<c+1 by lia)) ⟨.inl ⟨by have:=bd q c;lia,by have:=bd q c;lia⟩,?_⟩)));show B _;right;have gp:b[p]?=some (b.getD p 0):=by rw[VO,VP hpb];rfl
 have gq:b[q]?=some (b.getD q 0):=by rw[VO,VP hqb];rfl
 by_cases c1:F p c*F q s<F q c*F p s;{rw[if_pos c1];rwa[Vw (show nK F b c s p q from .inl c1)]at hQ};rw[if_neg c1];by_cases c2:F p c*F q s=F q c*F p s
 .rw[if_pos c2];refine aA gp (aA gq ?_);have e:decide (nK F b c s p q)=decide (b.getD p 0<b.getD q 0):=by refine decide_eq_decide.mpr ⟨λh=>h.elim (λz=>absurd z c1) λz=>z.2,λh=>.inr ⟨c2,h⟩⟩
  rwa[e]at hQ
 rw[if_neg c2];rwa[Vy (show ¬nK F b c s p q from λh=>h.elim c1 λz=>c2 z.1)]at hQ
def A8{F:Nat->Nat->Int}{c s p:Nat}:¬nK F b c s p p:=λh=>h.elim (Int.lt_irrefl _) λz=>WB _ z.2
def GO{F:Nat->Nat->Int}{c s p q r:Nat}(hp:0<F p s)(hq:0<F q s)(hr:0<F r s)(h1:nK F b c s p q)(h2:nK F b c s q r):nK F b c s p r:=by have w:∀{x y:Nat},nK F b c s x y->F x c*F y s<=F y c*F x s:=λ{x y} h=>h.elim Y3 λz=>Xk z.1;have w1:=w h1;have w2:=w h2;have w3:=Lp.oU hq hr hp w1 w2;by_cases e:F p c*F r s=F r c*F p s;{have b1:=Lp.oU hr hp hq w2 (Xk e.symm);have b2:=Lp.oU hp hq hr (Xk e.symm) w1;rcases h1 with h1|h1;{lia};rcases h2 with h2|h2;{lia};exact .inr ⟨e,by lia⟩};exact .inl (Int.lt_iff_le_and_ne.mpr ⟨w3,e⟩)
noncomputable def Dk:bz:=λdd Q x=>∃(F:Nat->Nat->Int)(b:A07) (m c s:Nat),dd=[tb F m (c+1),nD b,iD s]/\Bd F/\m=b.length+1/\m<=100/\s<c/\(∃k,k<b.length/\0<F k s)/\∀r,r<b.length->0<F r s->(∀k,k<b.length->0<F k s->¬nK F b c s k r)->Q [] .sh (iD r)
def Vg (F:Nat->Nat->Int)(b:A07) (c s i:Nat)(d:PyData):Prop:=(d=.none/\∀k,k<i->¬0<F k s)\/∃r,r<i/\d=iD r/\0<F r s/\∀k,k<i->0<F k s->¬nK F b c s k r
def NI:∀dd Q x,Dk dd Q x->oW C0 (aY [false,false,false] Q x) (ini [false,false,false] dd++List.replicate 2 none):=by rintro _ Q x⟨F,b,m,c,s,rfl,bd,hb,hm,hs,some1,hQ⟩;unfold oW;left;symm;rw[if_pos (by lia)];refine aA rfl ?_;refine kD (λi E=>BB λ(d:PyData)(o4:Option (Kd×PyData))=>EG (E=[some (.sh,tb F m (c+1)),some (.sh,nD b),some (.sh,iD s),some (.sh,d),o4]) (bu o4=true) (Vg F b c s i d)) ⟨.none,none,rfl,rfl,.inl ⟨rfl,λk hk=>by lia⟩⟩ ?_ ?_;{rintro J i _ hi hJ⟨d,o4,rfl,z4,hd⟩;simp![z4];refine aA (VF (show i<m by lia)) (aA (VF (show s<c+1 by lia)) ?_);by_cases pi:0<F i s;{rw[if_pos pi];rcases hd with⟨rfl,h⟩|⟨r,hr,rfl,pr,h⟩;{rfl';refine hJ _ ⟨iD i,some (.sh,iD i),rfl,rfl,.inr ⟨i,YM i,rfl,pi,λk hk pk z=>?_⟩⟩;by_cases e:k=i;{subst e;exact A8 z};exact h k (by lia) pk};rfl';refine⟨F,b,m,c,s,i,r,rfl,bd,by lia,hs,hi,by lia,by lia,by lia,?_⟩;rfl';by_cases t:nK F b c s i r;{rw[if_pos t];refine hJ _ ⟨iD i,some (.sh,iD i),rfl,rfl,.inr ⟨i,YM i,rfl,pi,λk hk pk z=>?_⟩⟩;by_cases e:k=i;{subst e;exact A8 z};exact h k (by lia) pk (GO pk pi pr z t)};rw[if_neg t];refine hJ _ ⟨iD r,some (.sh,iD i),rfl,rfl,.inr ⟨r,by lia,rfl,pr,λk hk pk z=>?_⟩⟩;by_cases e:k=i;{subst e;exact t z};exact h k (by lia) pk z};rw[if_neg pi];refine hJ _ ⟨d,some (.sh,iD i),rfl,rfl,?_⟩;rcases hd with⟨rfl,h⟩|⟨r,hr,rfl,pr,h⟩;{refine .inl ⟨rfl,λk hk pk=>?_⟩;by_cases e:k=i;{subst e;exact pi pk};exact h k (by lia) pk};refine .inr ⟨r,by lia,rfl,pr,λk hk pk z=>?_⟩;by_cases e:k=i;{subst e;exact pi pk};exact h k (by lia) pk z};rintro _⟨d,o4,rfl,z4,hd⟩;show B _;right;rcases hd with⟨_,h⟩|⟨r,hr,rfl,pr,h⟩;{obtain⟨k,hk,pk⟩:=some1;exact absurd pk (h k hk)};exact hQ r hr pr h
def xj (F:Nat->Nat->Int) (d:Int) (r s:Nat):Nat->Nat->Int:=λk j=>if k=r then F r j else(F k j*F r s-F k s*F r j)/d
def SR{m:Nat}:(List.range m).zipIdx=(List.range m).map λp=>(p,p):=by refine WA λi=>?_;rw[Yu,VE];by_cases h:i<m;{rw[VF h];show some (i,0+i)=some (i,i);rw[Nat.zero_add]};rw[VY (by rw[VD];lia)];rfl
def IV{l:A07}:l.zip l=l.map λp=>(p,p):=by rw[List.zip_eq_zipWith,List.zipWith_self]
def Bg{F:Nat->Nat->Int}{m c:Nat}:tb F (m+1) c=.list (((List.range m).map λk=>wY (F k) c)++[wY (F m) c]):=by show PyData.list _=_;rw[WZ (n:=m),VR];rfl
noncomputable def Dw:bz:=λdd Q x=>∃(F:Nat->Nat->Int) (d:Int) (m c r s:Nat),dd=[tb F m (c+1),.int d,iD r,iD s]/\Bd F/\0<d/\d<=100000/\m<=100/\r<m/\s<c/\c<=200000/\Q [] (.ow false) (tb (xj F d r s) m (c+1))
def Ox:∀dd Q x,Dw dd Q x->tK (aY [false,false,false,false] Q x) (ini [false,false,false,false] dd++List.replicate 6 none):=by rintro _ Q x⟨F,d,m,c,r,s,rfl,bd,pd,hd,hm,hr,hs,hc,hQ⟩;unfold tK;left;refine aA (VF hr) ?_;rfl';symm;refine⟨by decide,?_⟩;symm;rw[SR,VG];refine kD (λi E=>BB λ(o6 o7:Option (Kd×PyData))=>EG (E=[some (.sh,tb F m (c+1)),some (.sh,.int d),some (.sh,iD r),some (.sh,iD s),some (.sh,wY (F r) (c+1)),some (.ow false,tb (xj F d r s) i (c+1)),o6,o7,none,none]) (bu o6=true) (bu o7=true)) ⟨none,none,rfl,rfl,rfl⟩ ?_ ?_;{rintro J i _ hi hJ⟨o6,o7,rfl,z6,z7⟩;simp![z6,z7,Function.comp];by_cases e:i=r;{rw[if_pos e];refine⟨by lia,hJ _ ⟨some (.sh,iD i),some (.sh,wY (F i) (c+1)),?_,rfl,rfl⟩⟩;rw[Bg,show xj F d r s i=F r from funext λj=>if_pos e]};rw[if_neg e,IV,VG];refine fM (λj=>PyData.int (xj F d r s i j)) rfl (λj hj I hI=>?_) ?_ (by rw[VD];lia);{have hj:=VU.mp hj;simp![Function.comp];refine aA (VF (show s<c+1 by lia)) ?_;have b1:=bd r s;have b2:=bd i s;refine⟨.inr ⟨by lia,by lia⟩,aA (VF (show s<c+1 by lia)) ⟨.inl ⟨by lia,by lia⟩,⟨pd,by lia⟩,?_⟩⟩;have et:xj F d r s i j=(F i j*F r s-F i s*F r j)/d:=if_neg e;rw[et]at hI;exact hI _ rfl};rfl';refine⟨by lia,hJ _ ⟨some (.sh,iD i),some (.sh,wY (F i) (c+1)),?_,rfl,rfl⟩⟩;rw[Bg]};rintro _⟨o6,o7,rfl,z6,z7⟩;show B _;right;exact hQ
def Fe{m j:Nat}:Lp.yX (mA l m j):=λt=>by unfold mA;split;{split;{split<;>decide};split<;>decide};split;{split<;>decide};split<;>decide
def P4{i:Nat}:Lp.yX (Lp.un i):=λt=>by unfold Lp.un;split<;>decide
def G8:∀{m:Nat},m<=8->Lp.By m<=100000
 |0,_=>by decide
 |1,_=>by decide
 |2,_=>by decide
 |3,_=>by decide
 |4,_=>by decide
 |5,_=>by decide
 |6,_=>by decide
 |7,_=>by decide
 |8,_=>by decide
def Ge{m:Nat}:∀c∈Lp.Bm m (mA l m) b,Lp.yX c:=λc hc=>by unfold Lp.Bm at hc;rcases VS.mp hc with h|h;{obtain⟨j,_,rfl⟩:=V8.mp h;exact Fe};rw[V7.mp h];exact P4
def N6{m:Nat}(hb:b.length=m)(hm:m<=7):Bd (Lp.T m (mA l m) b):=λk j=>by
 have h:=Lp.yd (m+1) ((Lp.Bm m (mA l m) b).set k (mA l m j)) (by rw[VT,Lp.nH hb]) λc hc=>by rcases List.mem_or_eq_of_mem_set hc with z|z;{exact Ge c z};rw[z];exact Fe
 have:=G8 (m:=m+1) (by lia);unfold Lp.T;lia
def QK{m:Nat}(hb:b.length=m)(hm:m<=7):Lp.dt m (mA l m) b<=100000:=by have h:=Lp.yd (m+1) (Lp.Bm m (mA l m) b) (Lp.nH hb) Ge;have:=G8 (m:=m+1) (by lia);unfold Lp.dt;lia
def JF (m:Nat)(l:List dD):Prop:=∀e∈l,(∃t,t<m/\t∈e.2.2)
def qU{m:Nat}(h:JF m l):Lp.Pb m l.length (mA l m):=by
 refine⟨λj t ht=>?_,λj t hj ht=>?_,λj hj=>?_,λj hj=>?_,λk hk=>funext λt=>?_,λt ht=>?_,?_⟩;{unfold mA;split;{rw[if_neg (by lia),if_neg (by lia)]};split;{rw[if_neg (by lia)]};rw[if_neg (by lia)]};{unfold mA;rw[if_pos hj,if_pos ht];split;{exact .inr rfl};exact .inl rfl}
 .have gj:l[j]?=some (l.getD j (.inl 0,.inl 0,[])):=by rw[VO,VP hj];rfl
  obtain⟨t,ht,mt⟩:=h _ (VZ gj);refine⟨t,ht,?_⟩;unfold mA;rw[if_pos hj,if_pos ht,if_pos mt]
 .unfold mA;rw[if_pos hj,if_neg (WB m),if_pos rfl]
 .unfold mA Lp.un;rw[if_neg (show ¬l.length+k<l.length by lia),if_pos (show l.length+k<l.length+m by lia),Xu]
 .unfold mA;rw[if_neg (by lia),if_neg (by lia),if_pos ht]
 unfold mA;rw[if_neg (by lia),if_neg (by lia),if_neg (WB m)]
def RL{m s r:Nat}(H:Lp.Bs m (l.length+m) (mA l m) b)(hr:r<m):∀k j,k<m+1->xj (Lp.T m (mA l m) b) (Lp.dt m (mA l m) b) r s k j=Lp.T m (mA l m) (b.set r s) k j:=λk j hk=>by unfold xj;by_cases e:k=r;{rw[if_pos e,e];exact(Lp.rF H hr j).symm};rw[if_neg e];have h:=Lp.u7 H hr (c:=s) hk e j;have p:=H.pos;rw[show Lp.T m (mA l m) b k j*Lp.T m (mA l m) b r s-Lp.T m (mA l m) b k s*Lp.T m (mA l m) b r j=Lp.dt m (mA l m) b*Lp.T m (mA l m) (b.set r s) k j by rw[h,We (Lp.T m (mA l m) b k j)]];exact Int.mul_ediv_cancel_left _ (by lia)
structure ko(l:List dD) (m:Nat)(b:A07):Prop where
 bs:Lp.Bs m (l.length+m) (mA l m) b
 nn:∀j,j<l.length+m->0<=Lp.T m (mA l m) b m j
noncomputable def Cz:bz:=λdd Q x=>∃(l:List dD) (m:Nat),dd=[.list (l.map p3),iD m]/\l.length<=100000/\1<=m/\m<=7/\JF m l/\∀b,ko l m b->(∃t,Lp.Run m (l.length+m) (mA l m) ((List.range m).map (l.length+·)) t b)->Q [] .sh (.tuple [.int (Lp.dt m (mA l m) b),nD b,tb (Lp.T m (mA l m) b) (m+1) (l.length+m+1)])
def tY{f:Nat->PyData}{c:Nat}:cutD ((List.range (c+1)).map f) none (some (-1))=(List.range c).map f:=by
 unfold cutD;have e1:HT.aL ((List.range (c+1)).map f).length ((List.range (c+1)).map f).length (some (-1))=c:=by rw[V4,VD];show(if(-1:Int)<0 then((-1:Int)+((c+1:Nat):Int)).toNat else min (-1:Int).toNat (c+1))=c;rw[if_pos (by decide)];lia
 have e2:HT.aL ((List.range (c+1)).map f).length 0 none=0:=rfl;rw[e1,e2,YJ,Yt,<-Xy,List.take_range,Xf (by lia)]
def Vr{F:Nat->Nat->Int}{m c:Nat}{k2:Kd}{o0 o1:Option (Kd×PyData)}{os:En}{x:XC}{f:En->Bool->Prop}(bd:Bd F)(pc:0<c)(hk:k2=.sh\/k2=.ow false)(G:∀t:Bool,(t=true->∃j,j<c/\F m j<0)->(t=false->∀j,j<c->0<=F m j)->f (o0::o1::some (.sh,tb F (m+1) (c+1))::os) t) : bD (aa kr [.ev (aa lY [.ev (aa (ku false true) [.ev (aa aB [.pk 2,.ev (aa fZ [.ev (dC (.int 1))])]),.ev (aa fZ [.ev (dC (.int 1))])])]),.ev (dC (.int 0))]) x (o0::o1::some (k2,tb F (m+1) (c+1))::os) f:=by
 have fin:∀{P:Kd->PyData->Prop},(∀M:Int,(∃j,j<c/\F m j=M)->(∀j,j<c->M<=F m j)->P .sh (.int M))->lY [.list ((List.range c).map λj=>.int (F m j))] P:=λ{P} h=>by
  have e:(List.range c).map (λj=>PyData.int (F m j))=((List.range c).map (F m)).map .int:=by rw[VG];rfl
  rw[e];refine⟨_,rfl,λz=>?_,λM h1 h2=>h M ?_ λj hj=>h2 _ (Ye (VU.mpr hj))⟩;{have:=congrArg List.length z;rw[V4,VD]at this;exact absurd this (show c≠0 by lia)};obtain⟨j,hj,e⟩:=V8.mp h1;exact⟨j,VU.mp hj,e⟩
 rcases hk with rfl|rfl
 .rfl';refine aA jB ?_;rfl';rw[tY];refine fin λM hM hall=>?_;rfl';by_cases c1:M<0
  .have g:=G true (λ_=>by
    obtain⟨j,hj,e⟩:=hM;exact⟨j,hj,by lia⟩) (λz=>by cases z)
   rw[<-Vw c1]at g;exact g
  have g:=G false (λz=>by cases z) (λ_ j hj=>by
   have:=hall j hj;lia)
  rw[<-Vy c1]at g;exact g
 rfl';refine aA jB (Em VV (aA rfl ?_));rfl';rw[tY];refine fin λM hM hall=>?_;rfl';by_cases c1:M<0
 .have g:=G true (λ_=>by
   obtain⟨j,hj,e⟩:=hM;exact⟨j,hj,by lia⟩) (λz=>by cases z)
  rw[<-Vw c1]at g;exact g
 have g:=G false (λz=>by cases z) (λ_ j hj=>by
  have:=hall j hj;lia)
 rw[<-Vy c1]at g;exact g
def FG{p:Nat->Bool}{c s:Nat}(hs:s<c)(ps:p s=true)(h:∀j,j<s->p j=false):∃r,(List.range c).filter p=s::r:=by
 refine⟨((List.range (c-s-1)).map λj=>s+(j+1)).filter p,?_⟩;have e:List.range c=List.range s++s::(List.range (c-s-1)).map λj=>s+(j+1):=by have:=mR (f:=id) (a:=s) (b:=c-s-1+1);rw[List.map_id,List.map_id,show s+(c-s-1+1)=c by lia,List.range_succ_eq_map,VN,VG]at this;exact this
 rw[e,List.filter_append,Ze.mpr λj hj=>by rw[h j (VU.mp hj)];decide,XJ,Y4 ps]
def Pc:∀dd Q x,Cz dd Q x->j9 Ck Dk Dw (aY [false,false] Q x) (ini [false,false] dd++List.replicate 7 none):=by
 rintro _ Q x⟨l,m,rfl,hl,m1,hm,P,q⟩;unfold j9;have pb:=qU P;left;refine⟨l,m,rfl,hl,hm,?_⟩;rfl';symm;rw[if_pos (by lia)];refine aA rfl (fM (λj=>iD (l.length+j)) rfl (λj hj I hI=>?_) ?_ (by rw[VD];lia));{rfl';refine hI _ rfl};rfl';symm;rw[hB];clear hB B;refine bf λB hB=>?_;have b0e:PyData.list (List.map (λj=>iD (l.length+j)) (List.range m))=nD ((List.range m).map (l.length+·)):=by show _=PyData.list (((List.range m).map (l.length+·)).map iD);rw[VG];rfl
 have t0e:tb (λk j=>mA l m j k) (m+1) (l.length+m+1)=tb (Lp.T m (mA l m) ((List.range m).map (l.length+·))) (m+1) (l.length+m+1):=by refine congrArg PyData.list (VX λk hk=>?_);refine congrArg PyData.list (VX λj _=>?_);rw[pb.t0 (VU.mp hk)]
 rw[b0e,t0e];refine RZ (λw E=>u5 λ(b:A07) (t:Nat)(k2:Kd)(o5 o6:Option (Kd×PyData))=>PD (Lp.Run m (l.length+m) (mA l m) ((List.range m).map (l.length+·)) t b) (w+t=(l.length+m)^m) ((k2=.sh\/k2=.ow false)) (bu o5=true) (bu o6=true) (E=[some (.sh,.list (l.map p3)),some (.sh,iD m),some (k2,tb (Lp.T m (mA l m) b) (m+1) (l.length+m+1)),some (.ow false,nD b),some (.sh,.int (Lp.dt m (mA l m) b)),o5,o6,none,none])) ⟨(l.length+m)^m,(List.range m).map (l.length+·),0,.ow false,none,none,.zero _,rfl,.inr rfl,rfl,rfl,by rw[pb.d0]⟩ ?_;rintro J w _ hJ⟨b,t,k2,o5,o6,R,hw,hk2,z5,z6,rfl⟩;obtain⟨tl,H⟩:=R.short pb.Su;have bl:=H.len;have dp:=H.pos;have bd:=N6 (l:=l) bl hm;have db:=QK (l:=l) bl hm;refine Vr bd (show 0<l.length+m by lia) hk2 λt h1 h2=>?_;rcases t with _|_;{rw[if_neg (by decide)];show B _;right;exact⟨by decide,q b ⟨H,h2 rfl⟩ ⟨_,R⟩⟩};rw[if_pos rfl];obtain⟨s,_,⟨hs,ng⟩,fst⟩:=Lp.first (P:=λj=>j<l.length+m/\Lp.T m (mA l m) b m j<0) _ (h1 rfl).choose_spec;have fst':∀j,j<s->0<=Lp.T m (mA l m) b m j:=λj hj=>XN.mp λz=>fst j hj ⟨by lia,z⟩;left;refine aA jB ?_;rfl';rw[tY,tT,SR,VG];refine ni (λj=>if decide (Lp.T m (mA l m) b m j<0)=true then some (iD j)else none) rfl (λj hj I hI=>?_) ?_ (by rw[VD];lia);{simp![Function.comp];by_cases c1:Lp.T m (mA l m) b m j<0;{rw[if_pos c1];rw[if_pos (Vw c1)]at hI;exact hI _ rfl};rw[if_neg c1];rw[if_neg (by rw[Vy c1];decide)]at hI;exact hI _ rfl};obtain⟨rs,er⟩:=FG (p:=λj=>decide (Lp.T m (mA l m) b m j<0)) hs (Vw ng) λj hj=>Vy (XN.mpr (fst' j hj));rw[gh,er,VN];simp![z5];symm;refine⟨_,b,m+1,l.length+m,s,rfl,bd,by rw[bl],by lia,hs,?_,λr hr pr tr=>?_⟩;{rw[bl];exact pb.bound H hs};simp![z6];rw[bl]at hr tr;have S:Lp.xy m (l.length+m) (mA l m) b s r:=by refine⟨hs,ng,fst',hr,pr,λk hk pk=>?_,λk hk pk e=>?_⟩;{exact XN.mp λz=>tr k hk pk (.inl z)};exact Nat.not_lt.mp λz=>tr k hk pk (.inr ⟨e.symm,z⟩)
 symm;refine⟨_,_,m+1,l.length+m,r,s,rfl,bd,dp,db,by lia,by lia,hs,by lia,?_⟩;have et:tb (xj (Lp.T m (mA l m) b) (Lp.dt m (mA l m) b) r s) (m+1) (l.length+m+1)=tb (Lp.T m (mA l m) (b.set r s)) (m+1) (l.length+m+1):=by refine congrArg PyData.list (VX λk hk=>?_);refine congrArg PyData.list (VX λj _=>?_);rw[RL H hr k j (VU.mp hk)]
 rw[et];rfl';symm;refine aA (VF (show r<m+1 by lia)) (aA (VF (show s<l.length+m+1 by lia)) ?_);rw[hB,Lp.rF H hr,<-Lp.xY H hr];clear hB B;rfl';refine jt (by lia) (hJ (w-1) _ (by lia) ⟨b.set r s,t+1,.sh,some (.sh,iD s),some (.sh,iD r),R.snoc S,by lia,.inl rfl,rfl,rfl,?_⟩);rw[show PyData.list ((List.map iD b).set r (iD s))=nD (b.set r s)from congrArg PyData.list List.map_set.symm]
end PB
local macro_rules | `(tactic| bv_omega) => do let ls ← (List.range 224).toArray.mapM fun k => `(Lean.Parser.Tactic.simpLemma| $(Lean.mkIdent (.str `Dv s!"rr{k}")):ident); `(tactic| dsimp only[$ls,*, Dv.dyr0, Dv.dyr1, Dv.dyr2, Dv.dyr3, Nat.reduceBEq, Dv.kJ, Dv.kI, Dv.mX, Dv.m9, Dv.mExtT_c, Dv.gEqE_c, Dv.gAddU_c, Dv.iEz_c, Dv.tuK_c, Dv.setNt_c, Dv.dIdxE_c])
namespace PB
open PySem L2 Dv Gr
def La:(gf T).length<=T.length*T.length:=by
 unfold gf;rw[List.length_flatMap];have h:∀(n:Nat),((List.range n).map λk=>((T.drop (k+1)).map λu=>(T.getD k (.inl 0),u)).length).sum<=n*T.length:=λn=>by
  induction n with
  |zero=>exact W7 _
  |succ n ih=>rw[WZ,VR,Xw,Nat.succ_mul];refine Nat.add_le_add ih ?_;simp
 exact h _
end PB
local macro_rules | `(tactic| bv_omega) => do let ls ← (List.range 224).toArray.mapM fun k => `(Lean.Parser.Tactic.simpLemma| $(Lean.mkIdent (.str `Dv s!"rr{k}")):ident); `(tactic| dsimp only[$ls,*, Dv.dyr0, Dv.dyr1, Dv.dyr2, Dv.dyr3, Nat.reduceBEq])
namespace PB
open PySem L2 Dv Gr
def sG{m p x:Nat}(cn:gM m es)(hp:p<m)(hx:x<m):aD es p x=0↔x=p:=by obtain⟨d,hd⟩:=cn p hp x hx;have h:=G5 hd;refine⟨λz=>?_,λz=>?_⟩;{have h1:=h.1;rw[show dst (dM es) p x=0 from z]at h1;cases h1;rfl};subst z;exact zh ⟨.zero,λe he=>absurd he (XO e)⟩
def rT:Th->A07
 |.inl x=>[x]
 |.inr e=>[e.1,e.2]
def AA{m p:Nat}(cn:gM m es)(hp:p<m)(ht:TV m t):td es p t=0↔p∈rT t:=by
 cases t with
 |inl x=>show aD es p x=0↔p∈[x];rw[sG cn hp ht,V7];exact⟨λh=>h.symm,λh=>h.symm⟩
 |inr e=>have h1:=sG cn hp ht.1;have h2:=sG cn hp ht.2;show min (aD es p e.1) (aD es p e.2)=0↔p∈[e.1,e.2];simp only[VB,W0,Wo];refine⟨λh=>?_,λh=>?_⟩;{by_cases c:aD es p e.1=0;{exact .inl (h1.mp c).symm};exact .inr (h2.mp (by lia)).symm};rcases h with h|h;{have:=h1.mpr h.symm;lia};have:=h2.mpr h.symm;lia
def v8{m:Nat}(g:Good m es)(h:Sum.inr e∈bw k m es):e.1<e.2:=by rcases VS.mp h with h|h;{split at h;{cases h};obtain⟨_,_,z⟩:=V8.mp h;cases z};split at h;{cases h};obtain⟨f,hf,z⟩:=V8.mp h;cases z;exact(g.lt _ hf).1
def apart{k:Str}{m:Nat}{es:Zv}{t u:Th}(W:cJ m es)(ht:t∈bw k m es)(hu:u∈bw k m es)(ne:t≠u):∃p,p<m/\p∈bT m es t u:=by
 refine Xi λz=>ne ?_;have vt:=oj W.gd t ht;have vu:=oj W.gd u hu;have h:∀p,p<m->(p∈rT t↔p∈rT u):=λp hp=>by rw[<-AA W.cn hp vt,<-AA W.cn hp vu];have:td es p t=td es p u:=Xi λy=>z ⟨p,hp,Wf.mpr ⟨VU.mpr hp,Vw y⟩⟩;rw[this]
 cases t with
 |inl x=>
  cases u with
  |inl y=>have:=(h x vt).mp (V7.mpr rfl);rw[V7.mp this]
  |inr f=>have l:=v8 W.gd hu;have a1:=(h f.1 vu.1).mpr (by simp[rT]);have a2:=(h f.2 vu.2).mpr (by simp[rT]);have a1:=V7.mp a1;have a2:=V7.mp a2;lia
 |inr e=>
  have le:=v8 W.gd ht;cases u with
  |inl y=>have a1:=(h e.1 vt.1).mp (by simp[rT]);have a2:=(h e.2 vt.2).mp (by simp[rT]);have a1:=V7.mp a1;have a2:=V7.mp a2;lia
  |inr f=>have lf:=v8 W.gd hu;have a1:=(h e.1 vt.1).mp (by simp[rT]);have a2:=(h e.2 vt.2).mp (by simp[rT]);simp only[rT,VB,W0,Wo]at a1 a2;exact congrArg Sum.inr (X7 (by lia) (by lia))
def LU(h:e∈gf T):e.1∈T/\e.2∈T/\(T.Nodup->e.1≠e.2):=by
 obtain⟨i,hi,he⟩:=W2.mp h;have hi:=VU.mp hi;obtain⟨u,hu,rfl⟩:=V8.mp he;have gi:T[i]?=some (T.getD i (.inl 0)):=by rw[VO,VP hi];rfl
 refine⟨VZ gi,Zb hu,λnd z=>?_⟩;obtain⟨j,hj⟩:=Wz hu;rw[List.getElem?_drop]at hj;have z:T.getD i (.inl 0)=u:=z;rw[<-z]at hj;have:=(ZC hi nd).mp (gi.trans hj.symm);lia
def Mj{f:Nat->PyData}{n m:Nat}:cutD ((List.range (n+m+1)).map f) (some (n:Int)) (some (-1))=(List.range m).map λk=>f (n+k):=by
 unfold cutD;have ln:((List.range (n+m+1)).map f).length=n+m+1:=by rw[V4,VD]
 have e1:HT.aL ((List.range (n+m+1)).map f).length ((List.range (n+m+1)).map f).length (some (-1))=n+m:=by rw[ln];show(if(-1:Int)<0 then((-1:Int)+((n+m+1:Nat):Int)).toNat else min (-1:Int).toNat (n+m+1))=n+m;rw[if_pos (by decide)];lia
 have e2:HT.aL ((List.range (n+m+1)).map f).length 0 (some (n:Int))=n:=by rw[HT.mV,ln];lia
 rw[e1,e2,X3,mR,List.drop_left' (by rw[V4,VD]),Xu,<-Xy,List.take_range,Xf (by lia)]
def IZ{b:A07}:b.zip (List.range (b.length+1))=(List.range b.length).map λi=>(b.getD i 0,i):=by refine WA λi=>?_;rw[VE];by_cases h:i<b.length;{rw[VF h,(List.getElem?_zip_eq_some (z:=(b.getD i 0,i))).mpr ⟨by rw[VO,VP h];rfl,VF (by lia)⟩];rfl};rw[VY (by rw[List.length_zip];lia),VY (by rw[VD];lia)];rfl
abbrev t3 (m:Nat)(es:Zv)(e:Th×Th):dD:=(e.1,e.2,bT m es e.1 e.2)
structure mS(m:Nat)(es:Zv) (k:Str)(l:List dD):Prop where
 sub:∀e∈l,∃f∈gf (bw k m es),e=t3 m es f
 all:∀f∈gf (bw k m es),∃e∈l,e.2.2=bT m es f.1 f.2
 few:l.length<=100000
 BF:(l.map (·.2.2)).Nodup
def mS.prs{m:Nat}(R:mS m es k l)(W:cJ m es):JF m l:=λe he=>by obtain⟨f,hf,rfl⟩:=R.sub e he;obtain⟨h1,h2,h3⟩:=LU hf;exact apart W h1 h2 (h3 (Aj W.gd))
noncomputable abbrev Jz (l:List dD) (m:Nat)(b:A07) (i:Nat):PyData:=.tuple [b7 (l.getD (b.getD i 0) (.inl 0,.inl 0,[])).1,b7 (l.getD (b.getD i 0) (.inl 0,.inl 0,[])).2.1,.int (Lp.T m (mA l m) b i (l.length+m))]
noncomputable abbrev Ow (l:List dD) (m:Nat)(b:A07):PyData:=.tuple [.int (Lp.dt m (mA l m) b),.list ((List.range m).map λk=>.int (Lp.T m (mA l m) b m (l.length+k))),.list (((List.range m).filter λi=>decide (0<Lp.T m (mA l m) b i (l.length+m))&&decide (b.getD i 0<l.length)).map (Jz l m b))]
abbrev zD (ns:A08):PyData:=.list (ns.map .int)
def qP (m:Nat)(es:Zv)(ns:A08)(e:Th×Th):Int:=Lp.sm m λp=>if p∈bT m es e.1 e.2 then ns.getD p 0 else 0
theorem q8{f:Nat->Int}{p:Nat->Bool}:∀m:Nat,(((List.range m).filter p).map f).sum=Lp.sm m λk=>if p k=true then f k else 0
 |0=>rfl
 |m+1=>by rw[WZ,List.filter_append,VR,Xw,q8 m,Lp.sm];congr 1;by_cases c:p m=true;{rw[Y4 c,if_pos c];show f m+0=f m;lia};rw[ZD c,if_neg c];rfl
def zL{m:Nat}:((bT m es e.1 e.2).map λp=>ns.getD p 0).sum=qP m es ns e:=by unfold qP bT;rw[q8];refine Lp.bP λk hk=>?_;by_cases c:decide (td es k e.1≠td es k e.2)=true;{rw[if_pos c,if_pos (Wf.mpr ⟨VU.mpr hk,c⟩)]};have nm:k∉(List.range m).filter λp=>decide (td es p e.1≠td es p e.2):=λz=>c (Wf.mp z).2;rw[if_neg c,if_neg nm]
def HP{α:Type}{f:Nat->α}{m y:Nat}{v:α}(hy:y<m):((List.range m).map f).set y v=(List.range m).map λp=>if p=y then v else f p:=by refine WA λi=>?_;rw[Wa,VE,VE];by_cases c:y=i;{subst c;rw[if_pos rfl,if_pos (by rw[V4,VD];exact hy),VF hy];show some v=some (if y=y then v else f y);rw[if_pos rfl]};rw[if_neg c];by_cases h:i<m;{rw[VF h];show some (f i)=some (if i=y then v else f i);rw[if_neg (Ne.symm c)]};rw[VY (by rw[VD];lia)];rfl
abbrev jg:dD:=(.inl 0,.inl 0,[])
def shr (l:List dD) (m:Nat)(b:A07) (p:Nat):Int:=Lp.T m (mA l m) b m (l.length+p)
def pK (l:List dD) (m:Nat)(b:A07) (i:Nat):Int:=if b.getD i 0<l.length then Lp.T m (mA l m) b i (l.length+m)else 0
section
variable{m:Nat}{es:Zv}{k:Str}{l:List dD}{b:A07}
def rC{α:Type}{l:List α}{d:α}{j:Nat}(h:j<l.length):l[j]?=some (l.getD j d):=by rw[VO,VP h];rfl
def G4{α:Type}{l:List α}{d:α}{j:Nat}(h:j<l.length):l.getD j d∈l:=VZ (rC h)
def Kz{j p:Nat}(hj:j<l.length)(hp:p<m):mA l m j p=if p∈(l.getD j jg).2.2 then 1 else 0:=by unfold mA;rw[if_pos hj,if_pos hp]
def NJ(O:ko l m b){p:Nat}(hp:p<m):0<=shr l m b p:=O.nn _ (by lia)
def Nh(O:ko l m b){i:Nat}(hi:i<m):0<=pK l m b i:=by unfold pK;split;{exact O.bs.rhs i hi};exact XQ 0
def L7(W:cJ m es)(R:mS m es k l)(O:ko l m b):Lp.T m (mA l m) b m (l.length+m)=Lp.sm m (shr l m b):=(qU (R.prs W)).Tt O.bs
def AQ(W:cJ m es)(R:mS m es k l)(O:ko l m b):Lp.T m (mA l m) b m (l.length+m)=Lp.sm m (pK l m b):=(qU (R.prs W)).goal O.bs
def HW(W:cJ m es)(R:mS m es k l)(O:ko l m b){f:Th×Th}(hf:f∈gf (bw k m es)):Lp.dt m (mA l m) b<=Lp.sm m λp=>if p∈bT m es f.1 f.2 then shr l m b p else 0:=by
 obtain⟨e,he,ee⟩:=R.all f hf;obtain⟨j,hj⟩:=Wz he;have lj:=cG hj;have gj:l.getD j jg=e:=Option.some.inj ((rC lj).symm.trans hj);have h:=(qU (R.prs W)).Oj O.bs lj;have n:=O.nn j (by lia);have e2:(Lp.sm m λp=>mA l m j p*Lp.T m (mA l m) b m (l.length+p))=Lp.sm m λp=>if p∈bT m es f.1 f.2 then shr l m b p else 0:=Lp.bP λp hp=>by rw[Kz lj hp,gj,ee];split;{rw[Int.one_mul];rfl};rw[Xj]
 rw[e2]at h;lia
def xw(W:cJ m es)(R:mS m es k l)(O:ko l m b){p:Nat}(hp:p<m):(Lp.sm m λi=>if p∈(l.getD (b.getD i 0) jg).2.2 then pK l m b i else 0)<=Lp.dt m (mA l m) b:=by
 have h:=(qU (R.prs W)).place O.bs hp;have e:(Lp.sm m λi=>if b.getD i 0<l.length then Lp.T m (mA l m) b i (l.length+m)*mA l m (b.getD i 0) p else 0)=Lp.sm m λi=>if p∈(l.getD (b.getD i 0) jg).2.2 then pK l m b i else 0:=Lp.bP λi hi=>by unfold pK;by_cases c:b.getD i 0<l.length;{rw[if_pos c,if_pos c,Kz c hp];split;{rw[Wm]};rw[WI]};rw[if_neg c,if_neg c];split<;>rfl
 rw[e]at h;exact h
def lN(R:mS m es k l){i:Nat}(h:b.getD i 0<l.length):∃f∈gf (bw k m es),l.getD (b.getD i 0) jg=t3 m es f:=R.sub _ (G4 h)
def Jp{n:Nat}{f:Nat->Int}{c:Int}:(Lp.sm n λk=>f k*c)=Lp.sm n f*c:=by rw[We,<-Lp.jR];exact Lp.bP λk _=>We _ _
def Nn(W:cJ m es)(R:mS m es k l)(O:ko l m b){y:Nat->Int}{M:Int}(hy:∀p,p<m->0<=y p)(hM:∀f∈gf (bw k m es),M<=Lp.sm m λp=>if p∈bT m es f.1 f.2 then y p else 0):M*Lp.T m (mA l m) b m (l.length+m)<=Lp.sm m y*Lp.dt m (mA l m) b:=by
 have h1:M*Lp.T m (mA l m) b m (l.length+m)<=Lp.sm m λi=>Lp.sm m λp=>if p∈(l.getD (b.getD i 0) jg).2.2 then pK l m b i*y p else 0:=by
  rw[AQ W R O,<-Lp.jR];refine Lp.um λi hi=>?_;by_cases c:b.getD i 0<l.length
  .obtain⟨f,hf,e⟩:=lN (m:=m) (es:=es) R c;have h2:=Zm (hM f hf) (Nh O hi);rw[We M];refine Xe h2 (Xk ?_);rw[<-Lp.jR];refine Lp.bP λp _=>?_;rw[e];show _=if p∈bT m es f.1 f.2 then pK l m b i*y p else 0
   split;{rfl};exact WI _
  have z:pK l m b i=0:=if_neg c;rw[z,WI,Lp.kH λp _=>by
   split
   .exact Xj _
   .rfl]
  exact XQ 0
 refine Xe h1 ?_;rw[Lp.LI,<-Jp];refine Lp.um λp hp=>?_;have h3:=Zm (xw W R O hp) (hy p hp);refine Xe (Xk ?_) h3;rw[<-Lp.jR];refine Lp.bP λi _=>?_;split;{exact We _ _};exact(WI _).symm
def O5{T:List Th}(nd:T.Nodup):(gf T).Nodup:=by unfold gf;refine List.pairwise_flatMap.mpr ⟨λi hi=>?_,?_⟩;{exact List.pairwise_map.mpr ((nd.sublist (List.drop_sublist _ _)).imp λh z=>h (Prod.mk.inj z).2)};refine List.pairwise_lt_range.imp_of_mem λ{i j} hi hj hij x hx y hy z=>?_;obtain⟨u,_,rfl⟩:=V8.mp hx;obtain⟨v,_,rfl⟩:=V8.mp hy;have e:=(Prod.mk.inj z).1;have hi:=VU.mp hi;have hj:=VU.mp hj;have g1:=rC (d:=Sum.inl 0) hi;have g2:=rC (d:=Sum.inl 0) hj;rw[e]at g1;have:=(ZC hi nd).mp (g1.trans g2.symm);lia
end
abbrev wo:=(Th×Th)×Int
abbrev Um (r:wo):PyData:=.tuple [b7 r.1.1,b7 r.1.2,.int r.2]
theorem vV{f:Nat->Int}:∀m:Nat,((List.range m).map f).sum=Lp.sm m f
 |0=>rfl
 |m+1=>by rw[WZ,VR,Xw,vV m,Lp.sm];congr 1;show f m+0=f m;lia
def OJ{ys:A08}:ys.sum=Lp.sm ys.length λp=>ys.getD p 0:=by
 have h:ys=(List.range ys.length).map λp=>ys.getD p 0:=by have:=AW (f:=id) (d:=(0:Int)) (l:=ys);rwa[List.map_id]at this
 have:=vV (f:=λp=>ys.getD p 0) ys.length;rw[<-h]at this;exact this
section
variable{m:Nat}{es:Zv}{k:Str}{l:List dD}{b:A07}
noncomputable def rls (l:List dD) (m:Nat)(b:A07):List wo:=((List.range m).filter λi=>decide (0<Lp.T m (mA l m) b i (l.length+m))&&decide (b.getD i 0<l.length)).map λi=>(((l.getD (b.getD i 0) jg).1,(l.getD (b.getD i 0) jg).2.1),Lp.T m (mA l m) b i (l.length+m))
def Ek(O:ko l m b){i:Nat}(hi:i<m):(if(decide (0<Lp.T m (mA l m) b i (l.length+m))&&decide (b.getD i 0<l.length))=true then Lp.T m (mA l m) b i (l.length+m)else 0)=pK l m b i:=by have h:=O.bs.rhs i hi;unfold pK;by_cases c:b.getD i 0<l.length;{by_cases c2:0<Lp.T m (mA l m) b i (l.length+m);{rw[if_pos (by rw[Vw c,Vw c2];rfl),if_pos c]};rw[if_neg (by rw[Vy c2,Bool.false_and];decide),if_pos c];lia};rw[if_neg (by rw[Vy c,XY];decide),if_neg c]
def LM(O:ko l m b):((rls l m b).map (·.2)).sum=Lp.sm m (pK l m b):=by unfold rls;rw[VG];have:=q8 (f:=λi=>Lp.T m (mA l m) b i (l.length+m)) (p:=λi=>decide (0<Lp.T m (mA l m) b i (l.length+m))&&decide (b.getD i 0<l.length)) m;refine Eq.trans this (Lp.bP λi hi=>Ek O hi)
end
def yw:Th->SM.Ty
 |.inl x=>.inl (x:Int)
 |.inr e=>.inr ((e.1:Int),(e.2:Int))
def cY (f:Th×Th):Ky:=(yw f.1,yw f.2)
def BN(h:yw a=yw b):a=b:=by
 cases a with
 |inl x=>
  cases b with
  |inl y=>injection h with h;rw[Int.ofNat.inj h]
  |inr e=>cases h
 |inr e=>
  cases b with
  |inl y=>cases h
  |inr f=>injection h with h;have h1:=congrArg Prod.fst h;have h2:=congrArg Prod.snd h;rw[X7 (Int.ofNat.inj h1) (Int.ofNat.inj h2)]
def vX(h:cY a=cY b):a=b:=X7 (BN (congrArg Prod.fst h)) (BN (congrArg Prod.snd h))
def tZ(t:Th):iL (yw t)=b7 t:=by cases t<;>rfl
abbrev eL:=Ky×Int
abbrev mG (r:eL):PyData:=.tuple [iL r.1.1,iL r.1.2,.int r.2]
abbrev Sw (m:Nat)(es:Zv)(L:List (Th×Th)):List (Ky×PyData):=L.map λf=>(cY f,nD (bT m es f.1 f.2))
def zE (m:Nat)(es:Zv)(L:List (Th×Th))(k:Ky):A07:=((L.find? λf=>decide (cY f=k)).map λf=>bT m es f.1 f.2).getD []
def ldK (m:Nat)(es:Zv)(L:List (Th×Th))(rows:List eL) (p:Nat):Int:=(rows.map λr=>if p∈zE m es L r.1 then r.2 else 0).sum
section
variable{m:Nat}{es:Zv}{L:List (Th×Th)}
def QS:Qj (Sw m es L) k=(L.find? λf=>decide (cY f=k)).map λf=>nD (bT m es f.1 f.2):=by unfold Qj;rw[List.find?_map,Option.map_map];rfl
def Ul(h:∃f∈L,cY f=k):∃f∈L,cY f=k/\Qj (Sw m es L) k=some (nD (bT m es f.1 f.2))/\zE m es L k=bT m es f.1 f.2:=by
 obtain⟨f0,hf0,e0⟩:=h;unfold zE;rw[QS];cases c:L.find? λf=>decide (cY f=k)with
 |none=>have:=Z6.mp c f0 hf0;exact absurd (Vw e0) this
 |some f=>refine⟨f,List.mem_of_find?_eq_some c,?_,rfl,rfl⟩;have:=List.find?_some c;exact WV this
end
structure QH(m:Nat)(es:Zv)(L:List (Th×Th)) (d:Int)(rows:List eL):Prop where
 pos:∀r∈rows,1<=r.2
 sub:∀r∈rows,∃f∈L,cY f=r.1
 nd:(rows.map (·.1)).Nodup
 load:∀p,p<m->ldK m es L rows p<=d
structure Pu(m:Nat)(es:Zv)(L:List (Th×Th)) (d S:Int)(ns:A08)(rl:List wo):Prop where
 d1:1<=d
 len:ns.length=m
 nn:∀x∈ns,0<=x
 least:∀f∈L,d<=qP m es ns f
 pos:∀r∈rl,1<=r.2
 sub:∀r∈rl,r.1∈L
 nd:(rl.map (·.1)).Nodup
 load:∀p,p<m->(rl.map λr=>if p∈bT m es r.1.1 r.1.2 then r.2 else 0).sum<=d
 sn:ns.sum=S
 sr:(rl.map (·.2)).sum=S
 few:rl.length<=7
 du:d<=100000
 s0:-100000<=S
 s1:S<=100000
 Nn:∀ys:A08,ys.length=m->(∀y∈ys,0<=y)->∀M:Int,(∀f∈L,M<=qP m es ys f)->M*S<=ys.sum*d
theorem D5{α β:Type}{f:α->β}:∀{l:List α},l.Nodup->(∀a∈l,∀b∈l,f a=f b->a=b)->(l.map f).Nodup
 |[],_,_=>Wd
 |a::l,h,i=>by obtain⟨h1,h2⟩:=W6.mp h;rw[VN];refine W6.mpr ⟨λz=>?_,D5 h2 λx hx y hy=>i x (VA _ hx) y (VA _ hy)⟩;obtain⟨b,hb,e⟩:=V8.mp z;have:=i b (VA _ hb) a V3 e;exact h1 (this▸hb)
def QM{m:Nat}{l:List dD}(W:cJ m es)(hm:m<=7)(R:mS m es k l)(O:ko l m b):Pu m es (gf (bw k m es)) (Lp.dt m (mA l m) b) (Lp.T m (mA l m) b m (l.length+m)) ((List.range m).map (shr l m b)) (rls l m b):=by
 have tb:=N6 (l:=l) O.bs.len hm m (l.length+m);have fil:∀i,i∈(List.range m).filter (λi=>decide (0<Lp.T m (mA l m) b i (l.length+m))&&decide (b.getD i 0<l.length))->i<m/\0<Lp.T m (mA l m) b i (l.length+m)/\b.getD i 0<l.length:=λi hi=>by obtain⟨h1,h2⟩:=Wf.mp hi;rw[V9,Xx,Xx]at h2;exact⟨VU.mp h1,h2.1,h2.2⟩
 refine⟨O.bs.pos,by rw[V4,VD],λx hx=>?_,λf hf=>?_,λr hr=>?_,λr hr=>?_,?_,λp hp=>?_,by rw[vV,L7 W R O],by rw[LM O,AQ W R O],?_,QK O.bs.len hm,tb.1,tb.2,λys hl hy M hM=>?_⟩;{obtain⟨p,hp,rfl⟩:=V8.mp hx;exact NJ O (VU.mp hp)}
 .refine Xe (HW W R O hf) (Xk (Lp.bP λp hp=>?_));have e:((List.range m).map (shr l m b)).getD p 0=shr l m b p:=by rw[VO,VE,VF hp];rfl
  rw[e]
 .obtain⟨i,hi,rfl⟩:=V8.mp hr;exact(fil i hi).2.1
 .obtain⟨i,hi,rfl⟩:=V8.mp hr;obtain⟨f,hf,e⟩:=lN (m:=m) (es:=es) R (fil i hi).2.2;show((l.getD (b.getD i 0) jg).1,(l.getD (b.getD i 0) jg).2.1)∈_;rw[e];exact hf
 .unfold rls;rw[VG];refine D5 (Wv.sublist List.filter_sublist) λi hi j hj z=>?_;obtain⟨i1,_,i2⟩:=fil i hi;obtain⟨j1,_,j2⟩:=fil j hj;obtain⟨f,_,e⟩:=lN (m:=m) (es:=es) R i2;obtain⟨g,_,e'⟩:=lN (m:=m) (es:=es) R j2;have z:((l.getD (b.getD i 0) jg).1,(l.getD (b.getD i 0) jg).2.1)=((l.getD (b.getD j 0) jg).1,(l.getD (b.getD j 0) jg).2.1):=z;rw[e,e']at z;have fg:f=g:=X7 (congrArg Prod.fst z) (congrArg Prod.snd z);refine O.bs.nd i1 j1 ((ZC (by rw[V4];exact i2) R.BF).mp ?_);rw[VE,VE,rC (d:=jg) i2,rC (d:=jg) j2,e,e',fg]
 .refine Xe (Xk ?_) (xw W R O hp);unfold rls;rw[VG];refine Eq.trans (q8 (f:=λi=>if p∈bT m es (l.getD (b.getD i 0) jg).1 (l.getD (b.getD i 0) jg).2.1 then Lp.T m (mA l m) b i (l.length+m)else 0) (p:=λi=>decide (0<Lp.T m (mA l m) b i (l.length+m))&&decide (b.getD i 0<l.length)) m) (Lp.bP λi hi=>?_);rw[<-Ek O hi];by_cases c:b.getD i 0<l.length
  .obtain⟨f,_,e⟩:=lN (m:=m) (es:=es) R c;rw[e];show(if _ then(if p∈bT m es f.1 f.2 then _ else _)else _)=if p∈bT m es f.1 f.2 then _ else _
   split<;>split<;>rfl
  have z:¬(decide (0<Lp.T m (mA l m) b i (l.length+m))&&decide (b.getD i 0<l.length))=true:=by rw[Vy c,XY];decide
  rw[if_neg z,if_neg z];split<;>rfl
 .unfold rls;rw[V4];refine Vx (Zf _ _) ?_;rw[VD];exact hm
 have:=Nn W R O (y:=λp=>ys.getD p 0) (M:=M) (λp hp=>hy _ (G4 (by lia))) hM;rwa[<-hl,<-OJ,hl]at this
structure Oc(m:Nat)(es:Zv) (k:Str) (d:Int)(ns:A08)(rows:List eL):Prop where
 d1:1<=d
 len:ns.length=m
 nn:∀x∈ns,0<=x
 least:∀f∈gf (bw k m es),d<=qP m es ns f
 pk:QH m es (gf (bw k m es)) d rows
 eq:ns.sum=(rows.map (·.2)).sum
def bA (rows:List eL)(f:Th×Th):A08:=(rows.filter λr=>decide (r.1=cY f)).map (·.2)
theorem sU{α β:Type}{a:α->β->Int}{B:List β}:∀{A:List α},(A.map λx=>(B.map λy=>a x y).sum).sum=(B.map λy=>(A.map λx=>a x y).sum).sum
 |[]=>by
  show 0=(B.map λ_=>0).sum;induction B with
  |nil=>rfl
  |cons b B ih=>rw[VN,WK,<-ih];rfl
 |x::A=>by
  rw[VN,WK,sU];induction B with
  |nil=>rfl
  |cons b B ih=>simp only[VN,WK]at ih⊢;lia
theorem tP{α:Type}{h:α->Int}{q:α->Prop} [DecidablePred q]:∀{L:List α},L.Nodup->(∀a∈L,∀b∈L,q a->q b->a=b)->(L.map λf=>if q f then h f else 0).sum=((L.find? λf=>decide (q f)).map h).getD 0
 |[],_,_=>rfl
 |a::L,nd,iq=>by
  obtain⟨n1,n2⟩:=W6.mp nd;rw[VN,WK];by_cases c:q a
  .rw[if_pos c,YQ (p:=λf=>decide (q f)) (Vw c)];have z:(L.map λf=>if q f then h f else 0)=L.map λ_=>0:=VX λf hf=>if_neg λy=>n1 (iq a V3 f (VA _ hf) c y▸hf);rw[z];have z2:∀L:List α,(L.map λ_=>(0:Int)).sum=0:=λL=>by
    induction L with
    |nil=>rfl
    |cons b L ih=>rw[VN,WK,ih];rfl
   rw[z2];show h a+0=h a;lia
  rw[if_neg c,YR (p:=λf=>decide (q f)) (by rw[Vy c];decide),Z1];exact tP n2 λx hx y hy=>iq x (VA _ hx) y (VA _ hy)
theorem oV{α:Type}{h:α->Int}{q:α->Prop} [DecidablePred q]:∀{L:List α},((L.filter λa=>decide (q a)).map h).sum=(L.map λa=>if q a then h a else 0).sum
 |[]=>rfl
 |a::L=>by rw[VN,WK];by_cases c:q a;{rw[Y4 (p:=λa=>decide (q a)) (Vw c),VN,WK,if_pos c,oV]};rw[ZD (p:=λa=>decide (q a)) (by rw[Vy c];decide),if_neg c,oV,Z1]
theorem oG{α:Type} [DecidableEq α]:∀{l:List α},l.Nodup↔∀a,(l.filter λx=>decide (x=a)).length<=1
 |[]=>⟨λ_ _=>W7 _,λ_=>Wd⟩
 |b::l=>by
  rw[W6,oG];constructor
  .rintro⟨h1,h2⟩a;by_cases c:b=a
   .rw[Y4 (p:=λx=>decide (x=a)) (Vw c)];have:l.filter (λx=>decide (x=a))=[]:=Ze.mpr λx hx=>by rw[Xx];intro z;exact h1 (by rw[c,<-z];exact hx)
    rw[this];exact V5 _
   rw[ZD (p:=λx=>decide (x=a)) (by rw[Vy c];decide)];exact h2 a
  intro h;refine⟨λhb=>?_,λa=>?_⟩;{have:=h b;rw[Y4 (p:=λx=>decide (x=b)) (Vw rfl),VI]at this;have z:b∈l.filter λx=>decide (x=b):=Wf.mpr ⟨hb,Vw rfl⟩;have:=List.length_pos_of_mem z;lia};have:=h a;by_cases c:b=a;{rw[Y4 (p:=λx=>decide (x=a)) (Vw c),VI]at this;lia};rw[ZD (p:=λx=>decide (x=a)) (by rw[Vy c];decide)]at this;exact this
section
variable{m:Nat}{es:Zv}{L:List (Th×Th)}{rows:List eL}
def Fy:∀a∈L,∀b∈L,k=cY a->k=cY b->a=b:=λa _ b _ h1 h2=>vX (h1.symm.trans h2)
def JI(nd:L.Nodup) (p:Nat):(L.map λf=>if p∈bT m es f.1 f.2 then(bA rows f).sum else 0).sum=ldK m es L rows p:=by
 have e:(L.map λf=>if p∈bT m es f.1 f.2 then(bA rows f).sum else 0)=L.map λf=>(rows.map λr=>if r.1=cY f then(if p∈bT m es f.1 f.2 then r.2 else 0)else 0).sum:=VX λf _=>by
  unfold bA;rw[oV];by_cases c:p∈bT m es f.1 f.2;{rw[if_pos c];exact congrArg List.sum (VX λr _=>by rw[if_pos c])};rw[if_neg c];have:rows.map (λr=>if r.1=cY f then(if p∈bT m es f.1 f.2 then r.2 else 0)else 0)=rows.map λ_=>0:=VX λr _=>by rw[if_neg c];split<;>rfl
  rw[this];have z2:∀L:List eL,(L.map λ_=>(0:Int)).sum=0:=λL=>by
   induction L with
   |nil=>rfl
   |cons b L ih=>rw[VN,WK,ih];rfl
  exact(z2 _).symm
 rw[e,sU];unfold ldK;refine congrArg List.sum (VX λr _=>?_);rw[tP nd Fy];unfold zE;have e2:(L.find? λf=>decide (r.1=cY f))=L.find? λf=>decide (cY f=r.1):=congrArg (λz=>L.find? z) (funext λf=>by rw[decide_eq_decide];exact⟨Eq.symm,Eq.symm⟩);rw[e2];cases L.find? λf=>decide (cY f=r.1)with
 |none=>rfl
 |some f=>rfl
def PC(nd:L.Nodup):(L.map λf=>((bA rows f).length:Int)).sum=(rows.map λr=>if ∃f∈L,cY f=r.1 then(1:Int)else 0).sum:=by
 have e:(L.map λf=>((bA rows f).length:Int))=L.map λf=>(rows.map λr=>if r.1=cY f then(1:Int)else 0).sum:=VX λf _=>by
  unfold bA;rw[V4,<-oV];have z:∀l:List eL,(l.length:Int)=(l.map λ_=>(1:Int)).sum:=λl=>by
   induction l with
   |nil=>rfl
   |cons b l ih=>rw[VN,WK,<-ih,VI];lia
  exact z _
 rw[e,sU];refine congrArg List.sum (VX λr _=>?_);rw[tP nd Fy];by_cases c:∃f∈L,cY f=r.1
 .rw[if_pos c];obtain⟨f,hf,h⟩:=c;cases c2:L.find? λf=>decide (r.1=cY f)with
  |none=>exact absurd (Vw h.symm) (Z6.mp c2 f hf)
  |some g=>rfl
 rw[if_neg c];cases c2:L.find? λf=>decide (r.1=cY f)with
 |none=>rfl
 |some g=>have h2:=List.find?_some c2;exact absurd ⟨g,List.mem_of_find?_eq_some c2,(WV h2).symm⟩ c
theorem AZ[DecidablePred q]:∀{rows:List eL},(rows.map λr=>if q r then(1:Int)else 0).sum<=rows.length/\((rows.map λr=>if q r then(1:Int)else 0).sum=rows.length↔∀r∈rows,q r)
 |[]=>⟨XQ _,⟨λ_ _ h=>(nomatch h),λ_=>rfl⟩⟩
 |r::rows=>by obtain⟨h1,h2⟩:=AZ (q:=q) (rows:=rows);rw[VN,WK,VI];by_cases c:q r;{rw[if_pos c];refine⟨by lia,λz x hx=>?_,λz=>?_⟩;{rcases VB.mp hx with rfl|hx;{exact c};exact h2.mp (by lia) x hx};have:=h2.mpr λx hx=>z x (VA _ hx);lia};rw[if_neg c];exact⟨by lia,λz=>by lia,λz=>absurd (z r V3) c⟩
def MO{d:Int}(nd:L.Nodup):QH m es L d rows↔(∀f∈L,(bA rows f).length<=1/\((bA rows f).length:Int)<=(bA rows f).sum)/\(L.map λf=>((bA rows f).length:Int)).sum=rows.length/\∀p,p<m->(L.map λf=>if p∈bT m es f.1 f.2 then(bA rows f).sum else 0).sum<=d:=by
 have lenf:∀f,(bA rows f).length=((rows.map (·.1)).filter λx=>decide (x=cY f)).length:=λf=>by unfold bA;rw[V4,List.filter_map,V4];rfl
 have inh:∀r∈rows,∀f,cY f=r.1->r.2∈bA rows f:=λr hr f e=>V8.mpr ⟨r,Wf.mpr ⟨hr,Vw e.symm⟩,rfl⟩;rw[PC nd,AZ.2];constructor
 .intro z;have a:=oG.mp z.nd;refine⟨λf hf=>⟨by rw[lenf];exact a _,?_⟩,z.sub,λp hp=>by rw[JI nd];exact z.load p hp⟩;have b:=a (cY f);rw[<-lenf]at b;have all:∀v∈bA rows f,1<=v:=λv hv=>by obtain⟨r,hr,rfl⟩:=V8.mp hv;exact z.pos r (Wf.mp hr).1
  match bA rows f,b,all with
  |[],_,_=>exact XQ _
  |[v],_,all=>have:=all v V3;show((1:Nat):Int)<=v+0;lia
  |v::w::l,b,_=>exact absurd b (by rw[VI,VI];lia)
 rintro⟨h1,h2,h3⟩;refine⟨λr hr=>?_,h2,oG.mpr λa=>?_,λp hp=>by rw[<-JI nd];exact h3 p hp⟩
 .obtain⟨f,hf,e⟩:=h2 r hr;obtain⟨a,b⟩:=h1 f hf;have c:=inh r hr f e
  match bA rows f,a,b,c with
  |[v],_,b,c=>rw[V7.mp c];have b:((1:Nat):Int)<=v+0:=b;lia
  |v::w::l,a,_,_=>exact absurd a (by rw[VI,VI];lia)
 by_cases c:a∈rows.map (·.1);{obtain⟨r,hr,rfl⟩:=V8.mp c;obtain⟨f,hf,e⟩:=h2 r hr;rw[<-e,<-lenf];exact(h1 f hf).1};have:(rows.map (·.1)).filter (λx=>decide (x=a))=[]:=Ze.mpr λx hx=>by rw[Xx];exact λz=>c (z▸hx)
 rw[this];exact W7 _
end
abbrev told (d:Int)(ns:A08)(rows:List eL):PyData:=.tuple [.int d,zD ns,.list (rows.map mG)]
noncomputable def Cp:bz:=λdd Q x=>∃(m:Nat)(es:Zv) (k:Str) (d:Int)(ns:A08)(rows:List eL),dd=[wD m es,.str k,told d ns rows]/\cJ m es/\m<=7/\CF k/\rows.length<=90/\∀b:Bool,(b=true↔Oc m es k d ns rows)->Q [] .sh (.bool b)
def EE(h:iL a=iL b):a=b:=by
 cases a with
 |inl x=>
  cases b with
  |inl y=>have h:PyData.int x=.int y:=h;injection h with h;rw[h]
  |inr e=>cases h
 |inr e=>
  cases b with
  |inl y=>cases h
  |inr f=>have h:(PyData.tuple [.int e.1,.int e.2])=.tuple [.int f.1,.int f.2]:=h;injection h with h;injection h with h1 h;injection h with h2 h;injection h1 with h1;injection h2 with h2;rw[show e=f from X7 h1 h2]
def NG(q:P (decide (k=cY f))):EU (.tuple [iL k.1,iL k.2]) (.tuple [b7 f.1,b7 f.2]) P:=by
 show(dl 8 _=true/\dl 8 _=true)/\P (decide _);have e:(PyData.tuple [iL k.1,iL k.2]=.tuple [b7 f.1,b7 f.2])↔k=cY f:=by rw[<-tZ,<-tZ];constructor;{intro h;injection h with h;injection h with h1 h;injection h with h2 h;exact X7 (EE h1) (EE h2)};intro h;rw[h];rfl
 refine⟨⟨?_,?_⟩,by rw[decide_eq_decide.mpr e];exact q⟩;{rcases k with⟨a|a,b|b⟩<;>rfl};rcases f with⟨a|a,b|b⟩<;>rfl
def L4(q:P .sh (.bool (decide (k=cY f)))):iK [.tuple [iL k.1,iL k.2],.tuple [b7 f.1,b7 f.2]] P:=NG (P:=λc=>P .sh (.bool c)) q
def MR:∀dd Q x,Cp dd Q x->iy CW (aY [false,false,false] Q x) (ini [false,false,false] dd++List.replicate 11 none):=by
 rintro _ Q x⟨m,es,k,d,ns,rows,rfl,W,hm,hk,hr,q⟩;have gl:=sO W.gd;have m1:=W.pos;have m49:m*m<=49:=Z2 hm hm;have few:es.length<=25:=by lia
 have knd:(bw k m es).Nodup:=Aj W.gd;have pnd:=O5 knd;unfold iy;left;symm;by_cases c1:d<1;{rw[if_pos c1];exact q false ⟨(λz=>by cases z),λz=>by have:=z.d1;lia⟩};rw[if_neg c1];by_cases c2:¬ns.length=m;{rw[if_pos c2];exact q false ⟨(λz=>by cases z),λz=>absurd z.len c2⟩};rw[if_neg c2];have c2:=ZZ.mp c2;refine⟨ns,rfl,(λz=>by rw[z]at c2;exact absurd c2 (show ¬0=m by lia)),λM h1 h2=>?_⟩;rfl';by_cases c3:M<0;{rw[if_pos c3];exact q false ⟨(λz=>by cases z),λz=>by have:=z.nn M h1;lia⟩};rw[if_neg c3];have nn:∀x∈ns,0<=x:=λx hx=>by have:=h2 x hx;lia
 clear c3 h2 h1 M;show B _;symm;refine⟨by lia,⟨by lia,by lia,by lia⟩,?_⟩;rw[hB,Zd];clear hB B;left;symm;refine⟨m,es,k,rfl,W,by lia,hk,?_⟩;rfl';obtain⟨T,eT⟩:∃T,T=gf (bw k m es):=⟨_,rfl⟩;rw[<-eT];rw[<-eT]at pnd;have q:∀b:Bool,(b=true↔(∀f∈T,d<=qP m es ns f)/\QH m es T d rows/\ns.sum=(rows.map (·.2)).sum)->Q [] .sh (.bool b):=λb hb=>q b (hb.trans ⟨λ⟨a1,a2,a3⟩=>⟨by lia,c2,nn,eT▸a1,eT▸a2,a3⟩,λz=>⟨eT▸z.least,eT▸z.pk,z.eq⟩⟩);have q:∀b:Bool,(b=true↔(∀f∈T,d<=qP m es ns f)/\((∀f∈T,(bA rows f).length<=1/\((bA rows f).length:Int)<=(bA rows f).sum)/\(T.map λf=>((bA rows f).length:Int)).sum=rows.length/\∀p,p<m->(T.map λf=>if p∈bT m es f.1 f.2 then(bA rows f).sum else 0).sum<=d)/\ns.sum=(rows.map (·.2)).sum)->Q [] .sh (.bool b):=λb hb=>q b (by rw[MO pnd];exact hb);clear eT;have e0:List.replicate m (PyData.int 0)=((List.range m).map λp=>(((T.take 0).map λf=>if p∈bT m es f.1 f.2 then(bA rows f).sum else 0).sum)).map .int:=by rw[VG];refine Eq.symm (Eq.trans (VX (g:=λ_=>PyData.int 0) λp _=>rfl) ?_);rw[List.map_const',VD]
 rw[e0];refine oY (λn E=>u5 λ(o8 o9 o10 o11 o12:Option (Kd×PyData))=>Hx (E=[some (.sh,wD m es),some (.sh,.str k),some (.sh,told d ns rows),some (.sh,.int d),some (.sh,zD ns),some (.sh,.list (rows.map mG)),some (.ow false,.list (((List.range m).map λp=>(((T.take n).map λf=>if p∈bT m es f.1 f.2 then(bA rows f).sum else 0).sum)).map .int)),some (.sh,.int (((T.take n).map λf=>((bA rows f).length:Int)).sum)),o8,o9,o10,o11,o12,none]) (bu o8=true) (bu o9=true) (bu o10=true) (bu o11=true) (bu o12=true) ((∀f∈T.take n,d<=qP m es ns f)) ((∀f∈T.take n,(bA rows f).length<=1/\((bA rows f).length:Int)<=(bA rows f).sum))) ⟨none,none,none,none,none,rfl,rfl,rfl,rfl,rfl,rfl,(λ_ z=>nomatch z),λ_ z=>nomatch z⟩ ?_ ?_
 .rintro J n f _ hn hJ⟨o8,o9,o10,o11,o12,rfl,z8,z9,z10,z11,z12,le,one⟩;have tk:T.take (n+1)=T.take n++[f]:=by rw[XF,hn];rfl
  have mf:=VZ hn;simp![z8,z9,z10,z11,z12];have lp:(bT m es f.1 f.2).length<=m:=Vx (Zf ..) (by rw[VD];exact V5 _);refine fM (λp=>PyData.int (ns.getD p 0)) rfl (λp hp I2 hI2=>?_) ?_ (by lia)
  .have hp:=VU.mp (Wf.mp hp).1;have gp:ns[p]?=some (ns.getD p 0):=by rw[VO,VP (by lia)];rfl
   rfl';exact aA gp (hI2 _ rfl)
  rfl';refine⟨(bT m es f.1 f.2).map λp=>ns.getD p 0,by rw[VG];rfl,?_⟩;rfl';rw[zL];by_cases c4:qP m es ns f<d;{rw[if_pos c4];exact q false ⟨(λz=>by cases z),λz=>by have:=z.1 f mf;lia⟩};rw[if_neg c4];refine ni (λr:eL=>if decide (r.1=cY f)=true then some (PyData.int r.2)else none) rfl (λr hr I hI=>?_) ?_ (by lia)
  .rfl';rw[show cutD [iL r.1.1,iL r.1.2,PyData.int r.2] none (some 2)=[iL r.1.1,iL r.1.2]from rfl];rfl';refine⟨by decide,?_⟩;refine L4 ?_;rfl';by_cases ce:r.1=cY f
   .rw[if_pos ce];rw[if_pos (Vw ce)]at hI;rfl';first
    |exact hI _ rfl
    |exact aA (a:=PyData.int r.2) rfl (hI _ rfl)
   rw[if_neg ce];rw[if_neg (by rw[Vy ce];decide)]at hI;rfl';exact hI _ rfl
  rw[gh];simp![z11];have eh:(rows.filter λr=>decide (r.1=cY f)).map (λr=>PyData.int r.2)=(bA rows f).map .int:=by unfold bA;rw[VG];rfl
  have el:(rows.filter λr=>decide (r.1=cY f)).length=(bA rows f).length:=by unfold bA;rw[V4]
  rw[eh,el];by_cases c5:1<((bA rows f).length:Int);{rw[if_pos c5];exact q false ⟨(λz=>by cases z),λz=>by have:=(z.2.1.1 f mf).1;lia⟩};rw[if_neg c5];refine⟨bA rows f,rfl,?_⟩;rfl';by_cases c6:(bA rows f).sum<((bA rows f).length:Int);{rw[if_pos c6];exact q false ⟨(λz=>by cases z),λz=>by have:=(z.2.1.1 f mf).2;lia⟩};rw[if_neg c6];have met:((T.take (n+1)).map λf=>((bA rows f).length:Int)).sum=((T.take n).map λf=>((bA rows f).length:Int)).sum+((bA rows f).length:Int):=by rw[tk,VR,Xw,List.map_singleton,List.sum_singleton]
  have ls:∀p,((T.take (n+1)).map λf=>if p∈bT m es f.1 f.2 then(bA rows f).sum else 0).sum=((T.take n).map λf=>if p∈bT m es f.1 f.2 then(bA rows f).sum else 0).sum+if p∈bT m es f.1 f.2 then(bA rows f).sum else 0:=λp=>by rw[tk,VR,Xw,List.map_singleton,List.sum_singleton]
  have nd2:(bT m es f.1 f.2).Nodup:=List.Nodup.sublist List.filter_sublist Wv;have lt:∀p∈bT m es f.1 f.2,p<m:=λp hp=>VU.mp (Wf.mp hp).1;obtain⟨ld,eld⟩:∃ld:Nat->Int,ld=λp=>((T.take n).map λf=>if p∈bT m es f.1 f.2 then(bA rows f).sum else 0).sum:=⟨_,rfl⟩;have ls:∀p,((T.take (n+1)).map λf=>if p∈bT m es f.1 f.2 then(bA rows f).sum else 0).sum=ld p+if p∈bT m es f.1 f.2 then(bA rows f).sum else 0:=λp=>by rw[eld];exact ls p
  rw[<-eld];have hq:∀E',(∃(o8 o9 o10 o11 o12:Option (Kd×PyData)),E'=[some (.sh,wD m es),some (.sh,.str k),some (.sh,told d ns rows),some (.sh,.int d),some (.sh,zD ns),some (.sh,.list (rows.map mG)),some (.ow false,.list (((List.range m).map λp=>ld p+if p∈bT m es f.1 f.2 then(bA rows f).sum else 0).map .int)),some (.sh,.int (((T.take n).map λf=>((bA rows f).length:Int)).sum+((bA rows f).length:Int))),o8,o9,o10,o11,o12,none]/\bu o8=true/\bu o9=true/\bu o10=true/\bu o11=true/\bu o12=true)->J E':=by rintro _⟨o8,o9,o10,o11,o12,rfl,z8,z9,z10,z11,z12⟩;refine hJ _ ⟨o8,o9,o10,o11,o12,?_,z8,z9,z10,z11,z12,λg hg=>?_,λg hg=>?_⟩;{rw[met,show(λp=>((T.take (n+1)).map λf=>if p∈bT m es f.1 f.2 then(bA rows f).sum else 0).sum)=λp=>ld p+if p∈bT m es f.1 f.2 then(bA rows f).sum else 0 from funext ls]};{rw[tk]at hg;rcases VS.mp hg with h|h;{exact le g h};rw[V7.mp h];lia};rw[tk]at hg;rcases VS.mp hg with h|h;{exact one g h};rw[V7.mp h];lia
  clear met ls hJ hn tk mf one le;clear eld;generalize ((T.take n).map λf=>((bA rows f).length:Int)).sum=mt at hq⊢;generalize nD (bT m es f.1 f.2)=dpt;generalize bT m es f.1 f.2=ps2 at hq nd2 lt lp⊢;refine oY (λt E=>∃(o12:Option (Kd×PyData)),E=[some (.sh,wD m es),some (.sh,.str k),some (.sh,told d ns rows),some (.sh,.int d),some (.sh,zD ns),some (.sh,.list (rows.map mG)),some (.ow false,.list (((List.range m).map λp=>ld p+if p∈ps2.take t then(bA rows f).sum else 0).map .int)),some (.sh,.int (mt+((bA rows f).length:Int))),some (.sh,b7 f.1),some (.sh,b7 f.2),some (.sh,dpt),some (.ow false,.list ((bA rows f).map .int)),o12,none]/\bu o12=true) ⟨o12,?_,z12⟩ ?_ ?_
  .have e7:(List.range m).map (λp=>ld p+if p∈ps2.take 0 then(bA rows f).sum else 0)=(List.range m).map ld:=VX λp _=>by rw[List.take_zero,if_neg W0];lia
   rw[e7]
  .clear z12 o12;rintro J2 t y _ ht hJ2⟨o12,rfl,z12⟩;have hy:y<m:=lt y (VZ ht);have lt2:=cG ht;have ny:y∉ps2.take t:=λz=>by obtain⟨i,hi⟩:=Wz z;have li:=cG hi;rw[Wj]at li;rw[List.getElem?_take_of_lt (by lia)]at hi;have:=(ZC (by lia) nd2).mp (hi.trans ht.symm);lia
   simp![z12];refine aA (a:=ld y) (by rw[VE,VF hy,Option.map_some,if_neg ny];exact congrArg some (Z7 _)) ⟨bA rows f,rfl,?_⟩;rfl';refine jt hy (hJ2 _ ⟨some (.sh,iD y),?_,rfl⟩);rw[<-List.map_set,HP hy];have e8:(List.range m).map (λp=>if p=y then ld y+(bA rows f).sum else ld p+if p∈ps2.take t then(bA rows f).sum else 0)=(List.range m).map λp=>ld p+if p∈ps2.take (t+1)then(bA rows f).sum else 0:=by
    refine VX λp _=>?_;rw[XF,ht];by_cases c:p=y;{rw[if_pos c,c,if_pos (show y∈ps2.take t++(some y).toList from WN _ (V7.mpr rfl))]};rw[if_neg c];have em:(p∈ps2.take t++(some y).toList)↔p∈ps2.take t:=by rw[VS];exact⟨λh=>h.elim id λz=>absurd (V7.mp z) c,.inl⟩
    by_cases c2:p∈ps2.take t;{rw[if_pos c2,if_pos (em.mpr c2)]};rw[if_neg c2,if_neg λz=>c2 (em.mp z)]
   rw[e8]
  rintro _⟨o12,rfl,z12⟩;rw[WU];exact hq _ ⟨_,_,_,_,_,rfl,rfl,rfl,rfl,rfl,z12⟩
 rintro _⟨o8,o9,o10,o11,o12,rfl,z8,z9,z10,z11,z12,le,one⟩;rw[WU]at le one⊢;show B _;right;by_cases c7:¬(T.map λf=>((bA rows f).length:Int)).sum=rows.length;{rw[if_pos c7];exact q false ⟨(λz=>by cases z),λz=>absurd z.2.1.2.1 c7⟩};rw[if_neg c7];have c7:=ZZ.mp c7;refine⟨_,rfl,λz=>?_,λM h1 h2=>?_⟩;{have:=congrArg List.length z;rw[V4,VD]at this;exact absurd this (show m≠0 by lia)};obtain⟨p,hp,rfl⟩:=V8.mp h1;rfl';by_cases c8:d<(T.map λf=>if p∈bT m es f.1 f.2 then(bA rows f).sum else 0).sum;{rw[if_pos c8];exact q false ⟨(λz=>by cases z),λz=>by have:=z.2.1.2.2 p (VU.mp hp);lia⟩};rw[if_neg c8];rfl';refine⟨ns,rfl,?_⟩;rfl';refine fM (λr:eL=>PyData.int r.2) rfl (λr _ I hI=>?_) ?_ (by lia)
 .rfl';first
  |exact hI _ rfl
  |exact aA rfl (hI _ rfl)
 rfl';refine⟨rows.map (·.2),by rw[VG];rfl,?_⟩;rfl';refine q (decide (ns.sum=(rows.map (·.2)).sum)) ?_;rw[Xx];refine⟨λh=>⟨le,⟨one,c7,λp' hp'=>?_⟩,h⟩,λh=>h.2.2⟩;have:=h2 _ (Ye (VU.mpr hp'));lia
section
variable{m:Nat}{es es2:Zv}{ms:A07}
variable{k:Str}{d S:Int}{ns:A08}{rl:List wo}
def Ni(hf:f∈L):zE m es L (cY f)=bT m es f.1 f.2:=by obtain⟨g,_,e,_,h⟩:=Ul (m:=m) (es:=es) ⟨f,hf,rfl⟩;rw[h,vX e]
end
abbrev Va (m:Nat)(es:Zv) (k:Str):=Pu m es (gf (bw k m es))
def Mw{m:Nat}(W:cJ m es)(hm:m<=7)(R:mS m es k l)(O:ko l m b):∃d S ns rl,Ow l m b=.tuple [.int d,zD ns,.list (rl.map Um)]/\Va m es k d S ns rl:=by refine⟨_,_,_,_,?_,QM W hm R O⟩;unfold Ow;rw[show PyData.list ((List.range m).map λk=>PyData.int (Lp.T m (mA l m) b m (l.length+k)))=zD ((List.range m).map (shr l m b))by show _=PyData.list (((List.range m).map (shr l m b)).map .int);rw[VG];rfl];unfold rls;rw[VG];rfl
def rJ:bz:=λdd Q x=>∃m es,dd=[wD m es]/\(m<=7->Q [] .sh .none)/\(7<m->x "TooMany" .none)
def MJ:∀dd Q x,rJ dd Q x->gc (aY [false] Q x) (ini [false] dd++List.replicate 0 none):=by rintro _ Q x⟨m,es,rfl,q1,q2⟩;unfold gc;rfl';by_cases c:(7:Int)<m;{rw[if_pos c];exact q2 (by lia)};rw[if_neg c];exact q1 (by lia)
noncomputable abbrev Jy (l:List dD) (m:Nat)(b:A07):PyData:=jK (.int (Lp.dt m (mA l m) b)) ((List.range m).map λk=>.int (Lp.T m (mA l m) b m (l.length+k))) (((List.range m).filter λi=>decide (0<Lp.T m (mA l m) b i (l.length+m))&&decide (b.getD i 0<l.length)).map (Jz l m b))
def Ny (m:Nat)(es:Zv) (k:Str)(l:List dD)(b:A07):Prop:=l=AG ((gf (bw k m es)).map (t3 m es))/\∃t,Lp.Run m (l.length+m) (mA l m) ((List.range m).map (l.length+·)) t b
def K4{m N:Nat}{A:Nat->Lp.Vc}{s r s' r':Nat}(H:Lp.Bs m N A b)(S:Lp.xy m N A b s r)(S':Lp.xy m N A b s' r'):s=s'/\r=r':=by
 have e:s=s':=by rcases Yc s s' with h|h|h;{have:=S'.fst s h;have:=S.neg;lia};{exact h};have:=S.fst s' h;have:=S'.neg;lia
 subst e;have h1:=S.rat r' S'.rm S'.pos;have h2:=S'.rat r S.rm S.pos;have h3:=Int.le_antisymm h1 h2;exact⟨rfl,H.nd S.rm S'.rm (Nat.le_antisymm (S.QB r' S'.rm S'.pos h3) (S'.QB r S.rm S.pos h3.symm))⟩
def MI{m N:Nat}{A:Nat->Lp.Vc}{t t':Nat}(H:Lp.Bs m N A b0)(R:Lp.Run m N A b0 t b)(R':Lp.Run m N A b0 t' b')(z:∀j,j<N->0<=Lp.T m A b m j)(z':∀j,j<N->0<=Lp.T m A b' m j):b=b':=by
 obtain⟨_,s,r,g,e0,et,st,nx⟩:=R;obtain⟨_,s',r',g',e0',et',st',nx'⟩:=R';have same:∀u,u<=t->u<=t'->g u=g' u/\Lp.Bs m N A (g u):=λu=>by
  induction u with
  |zero=>exact λ_ _=>⟨e0.trans e0'.symm,e0▸H⟩
  |succ u ih=>intro h h';obtain⟨e,hb⟩:=ih (by lia) (by lia);have S:=st u (by lia);have S':=st' u (by lia);rw[<-e]at S';obtain⟨e1,e2⟩:=K4 hb S S';refine⟨?_,?_⟩;{rw[nx u (by lia),nx' u (by lia),e,e1,e2]};rw[nx u (by lia)];exact S.bs hb
 rcases Yc t t' with h|h|h;{have e:=(same t (V5 _) (Y7 h)).1;have S:=st' t h;rw[<-e,et]at S;have:=z _ S.sN;have:=S.neg;lia};{subst h;rw[<-et,<-et',(same t (V5 _) (V5 _)).1]};have e:=(same t' (Y7 h) (V5 _)).1;have S:=st t' h;rw[e,et']at S;have:=z' _ S.sN;have:=S.neg;lia
def LP{m:Nat}(P:JF m l)(O:ko l m b)(O':ko l' m b')(D:Ny m es k l b)(D':Ny m es k l' b'):l=l'/\b=b':=by obtain⟨e,t,R⟩:=D;obtain⟨e',t',R'⟩:=D';have el:l=l':=e.trans e'.symm;clear e e';subst el;exact⟨rfl,MI (qU P).Su R R' O.nn O'.nn⟩
def vp:bz:=λdd Q x=>∃m es k,dd=[wD m es,.str k]/\cJ m es/\(m<=7->∀(l:List dD)(b:A07),mS m es k l->ko l m b->Ny m es k l b->Q [] (.st false) (Jy l m b))/\(7<m->x "TooMany" .none)
def Qm:∀dd Q x,vp dd Q x->lH rJ D8 Dt Cz (aY [false,false] Q x) (ini [false,false] dd++List.replicate 10 none):=by
 rintro _ Q x⟨m,es,k,rfl,W,q,q7⟩;have gl:=sO W.gd;unfold lH;left;refine⟨m,es,rfl,λhm=>?_,q7⟩;have q:=q hm;have m49:m*m<=49:=Z2 hm hm;have few:es.length<=25:=by lia
 rfl';symm;refine⟨m,es,k,rfl,W,by lia,?_⟩;rfl';have ep:(gf (bw k m es)).map (uq m es)=((gf (bw k m es)).map (t3 m es)).map p3:=by rw[VG];rfl
 rw[ep];have lT:(bw k m es).length<=32:=by
  unfold bw;rw[VH];have a:(if k="ties" then []else(List.range m).map Sum.inl:List Th).length<=7:=by split<;>simp;lia
  have b:(if k="places" then []else es.map Sum.inr:List Th).length<=25:=by split<;>simp;lia
  lia
 have l2:=Z2 lT lT;have l3:(gf (bw k m es)).length<=1024:=Vx La l2;refine⟨_,rfl,by rw[V4];lia,λl lk hs ha hu eu=>?_⟩;rw[V4]at lk;have R:mS m es k l:=⟨λe he=>by
  obtain⟨f,hf,z⟩:=V8.mp (hs e he);exact⟨f,hf,z.symm⟩,λf hf=>ha _ (Ye hf),by lia,hu⟩
 have P:=R.prs W;have lb:=R.few;clear hs ha hu ep;rfl';symm;refine⟨l,m,rfl,lb,W.pos,hm,P,λb O run=>?_⟩;have q:=q l b R O ⟨eu,run⟩;have H:=O.bs;have bl:=H.len;rfl';symm;refine aA jB ?_;symm;rw[Mj];symm;have zb:b.zip (List.range (m+1))=(List.range m).map λi=>(b.getD i 0,i):=by have:=IZ (b:=b);rwa[bl]at this
 rw[zb,VG];refine ni (λi=>if decide (b.getD i 0<l.length)=true then some (.tuple [iD (b.getD i 0),.int (Lp.T m (mA l m) b i (l.length+m))])else none) rfl (λi hi I hI=>?_) ?_ (by rw[VD];lia);{simp![Function.comp];by_cases c1:b.getD i 0<l.length;{rw[if_pos c1];rw[if_pos (Vw c1)]at hI;exact aA jB ⟨by decide,hI _ rfl⟩};rw[if_neg c1];rw[if_neg (by rw[Vy c1];decide)]at hI;exact hI _ rfl};rw[gh];rfl';symm;refine ni (λi=>if decide (0<Lp.T m (mA l m) b i (l.length+m))=true then some (Jz l m b i)else none) rfl (λi hi I hI=>?_) ?_ (by have:=Zf (λi=>decide (b.getD i 0<l.length)) (List.range m);rw[VD]at this;lia)
 .have hi:=Wf.mp hi;have h1:=VU.mp hi.1;have h2:=WV hi.2;rfl';have gb:l[b.getD i 0]?=some (l.getD (b.getD i 0) (.inl 0,.inl 0,[])):=by rw[VO (l:=l),VP h2];rfl
  by_cases c1:0<Lp.T m (mA l m) b i (l.length+m);{rw[if_pos c1];rw[if_pos (Vw c1)]at hI;exact aA gb (aA gb ⟨by decide,hI _ rfl⟩)};rw[if_neg c1];rw[if_neg (by rw[Vy c1];decide)]at hI;exact hI _ rfl
 rw[gh,List.filter_filter];rfl';right;exact⟨_,_,_,rfl,rfl,rfl,by decide,q⟩
def De:bz:=λdd Q x=>∃m es a b c d,dd=[wD m es,a,b,c,d]/\7<m/\x "TooMany" .none
def Pd:∀dd Q x,De dd Q x->iA rJ (aY [false,false,false,false,false] Q x) (ini [false,false,false,false,false] dd++List.replicate 2 none):=by rintro _ Q x⟨m,es,a,b,c,d,rfl,h7,q⟩;unfold iA;left;exact⟨m,es,rfl,λh=>absurd h7 (Nat.not_lt.mpr h),λ_=>q⟩
def Wh:Nat->PyData->Prop
 |0,_=>False
 |n+1,d=>(∃i:Int,d=.int i)\/∃l,(d=.list l\/d=.tuple l)/\l.length<=16777216/\∀c∈l,Wh n c
def qm (n:Nat):bz:=λdd Q x=>∃d,dd=[d]/\Wh n d/\Q [] .sh (.bool true)
def Qv:∀dd Q x,¬qm 0 dd Q x:=λ_ _ _ ⟨_,_,h,_⟩=>h.elim
def Pz(n:Nat):∀dd Q x,qm (n+1) dd Q x->ie (qm n) (aY [false] Q x) (ini [false] dd++List.replicate 1 none):=by
 rintro _ Q x⟨d,rfl,h,q⟩;unfold ie;refine bf λB hB=>?_;rcases h with⟨i,rfl⟩|⟨l,h,hl,hc⟩;{simp![MN];right;exact q};rcases h with rfl|rfl;all_goals
  simp![L3,Mq];refine Eq.mp (congrArg (λz=>yD [1] z _ _ _ _ _) (List.map_id l)) ?_
  refine fM (λ_=>PyData.bool true) rfl (λc hc' I hI=>?_) ?_ (by lia)
  .rfl';refine⟨c,rfl,hc c hc',?_⟩;rfl';exact hI _ rfl
  rfl';refine⟨l.map λ_=>true,by rw[VG];rfl,?_⟩
  have e:(l.map λ_=>true).all id=true:=VL.mpr λb hb=>by obtain⟨_,_,rfl⟩:=V8.mp hb;rfl
  rw[e];exact q
def CY:bz:=λdd Q x=>∃m es k,dd=[wD m es,.str k]/\cJ m es/\7<m/\m<=60/\Q [] .sh (.bool true)
def PU:∀dd Q x,CY dd Q x->f7 vp De (aY [false,false] Q x) (ini [false,false] dd++List.replicate 2 none):=by rintro _ Q x⟨m,es,k,rfl,W,h7,hm,q⟩;unfold f7;left;refine⟨by decide,?_⟩;symm;refine⟨m,es,k,rfl,W,λh=>absurd h7 (Nat.not_lt.mpr h),λ_=>?_⟩;rfl';refine⟨by decide,by decide,?_⟩;rw[if_pos (by decide)];refine⟨by decide,by decide,?_⟩;rw[show(![Str.ofString "NoLooks",Str.ofString "NoThing"].any (jh (Str.ofString "TooMany")))=true by decide];symm;refine⟨by decide,⟨by lia,by lia,by lia⟩,by decide,m,es,_,_,_,_,rfl,h7,?_⟩;refine⟨by decide,by decide,by decide,?_⟩;rw[show([Str.ofString "ValueError"].any (jh (Str.ofString "TooMany")))=true by decide];right;exact⟨by decide,[true,true],[true,true],rfl,q⟩
def FN{a b:A08}(h:a.Perm b):a.sum=b.sum:=by
 induction h with
 |nil=>rfl
 |cons x _ ih=>rw[WK,WK,ih]
 |swap x y l=>simp only[WK];lia
 |trans _ _ h1 h2=>exact h1.trans h2
theorem jJ{t:Int}:∀{l:A08},(l.map λx=>x*t).sum=l.sum*t
 |[]=>(Xj t).symm
 |x::l=>by rw[VN,WK,WK,jJ,Int.add_mul]
abbrev Ca (t:Int)(r:wo):eL:=(cY r.1,r.2*t)
def CP{m:Nat}{d S t:Int}{ns:A08}{rl:List wo}{rows:List eL}(W:cJ m es)(h0:0<t)(O:Pu m es (gf (bw k m es)) d S ns rl)(pm:rows.Perm (rl.map (Ca t))):Oc m es k (d*t) (ns.map λx=>x*t) rows:=by
 have mem:∀r'∈rows,∃r∈rl,r'=Ca t r:=λr' h=>by obtain⟨r1,h1,rfl⟩:=V8.mp (pm.mem_iff.mp h);exact⟨r1,h1,rfl⟩
 refine⟨?_,by rw[V4,O.len],λx hx=>?_,λf hf=>?_,⟨λr' h=>?_,λr' h=>?_,?_,λp hp=>?_⟩,?_⟩;{have:=Int.mul_le_mul O.d1 h0 (by decide) (by have:=O.d1;lia);lia};{obtain⟨y,hy,rfl⟩:=V8.mp hx;exact Int.mul_nonneg (O.nn y hy) (by lia)}
 .have e:qP m es (ns.map λx=>x*t) f=qP m es ns f*t:=by
   rw[<-zL,<-zL,<-jJ,VG];refine congrArg List.sum (VX λp _=>?_);show(ns.map λx=>x*t).getD p 0=ns.getD p 0*t;rw[VO,VO,VE];cases ns[p]? with
   |none=>exact(Xj t).symm
   |some x=>rfl
  rw[e];exact Z9 (O.least f hf) (by lia)
 .obtain⟨r,hr,rfl⟩:=mem r' h;have:=Int.mul_le_mul (O.pos r hr) h0 (by decide) (by have:=O.pos r hr;lia);show 1<=r.2*t;lia
 .obtain⟨r,hr,rfl⟩:=mem r' h;exact⟨r.1,O.sub r hr,rfl⟩
 .refine(pm.map (·.1)).nodup_iff.mpr ?_;rw[VG,show((λx:eL=>x.1)∘Ca t)=cY∘(·.1)from rfl,<-VG];exact D5 O.nd λa _ b _=>vX
 .unfold ldK;rw[FN (pm.map _),VG];have e:(rl.map ((λr:eL=>if p∈zE m es (gf (bw k m es)) r.1 then r.2 else 0)∘Ca t))=(rl.map λr=>if p∈bT m es r.1.1 r.1.2 then r.2 else 0).map λx=>x*t:=by rw[VG];refine VX λr hr=>?_;show(if p∈zE m es _ (cY r.1)then r.2*t else 0)=(if _ then _ else _)*t;rw[Ni (O.sub r hr)];split;{rfl};exact(Xj t).symm
  rw[e,jJ];exact Z9 (O.load p hp) (by lia)
 rw[jJ,FN (pm.map _),VG,show((λx:eL=>x.2)∘Ca t)=(λx=>x*t)∘(·.2)from rfl,<-VG,jJ,O.sn,O.sr]
end PB
local macro_rules | `(tactic| bv_omega) => do let ls ← (List.range 224).toArray.mapM fun k => `(Lean.Parser.Tactic.simpLemma| $(Lean.mkIdent (.str `Dv s!"rr{k}")):ident); `(tactic| dsimp only[$ls,*, Dv.dyr0, Dv.dyr1, Dv.dyr2, Dv.dyr3, Nat.reduceBEq, Dv.kJ, Dv.kI, Dv.mX, Dv.m9, Dv.Jw, Dv.Rh, Dv.Pw])
namespace PB
open PySem L2 Dv Gr
def U1{r:Nat}(h:r<3):∃k:Str,CF k/\dP [PyData.str "places",.str "ties",.str "all"] (r:Int)=some (.str k):=by rcases(show r=0\/r=1\/r=2 by lia)with rfl|rfl|rfl;{exact⟨_,.inl rfl,rfl⟩};{exact⟨_,.inr (.inl rfl),rfl⟩};exact⟨_,.inr (.inr rfl),rfl⟩
def Lc{m:Nat}(W:cJ m es)(hm:m<=7)(R:mS m es k l)(O:ko l m b):∃(d:Int)(ns:A08)(rows:List eL),Jy l m b=jK (.int d) (ns.map .int) (rows.map mG)/\Oc m es k d ns rows/\rows.length<=7:=by obtain⟨d,S,ns,rl,e,A⟩:=Mw W hm R O;injection e with e;injection e with e1 e;injection e with e2 e;injection e with e3 _;injection e2 with e2;injection e3 with e3;have J:=CP W (t:=1) (by decide) A (List.Perm.refl _);rw[Wm,show(ns.map λx=>x*1)=ns by simp only[Wm,List.map_id']]at J;refine⟨d,ns,rl.map (Ca 1),?_,J,by rw[V4];exact A.few⟩;rw[Jy,e1,e2,e3,VG];refine congrArg (jK _ _) (VX λr _=>?_);show PyData.tuple [b7 r.1.1,b7 r.1.2,.int r.2]=.tuple [iL (yw r.1.1),iL (yw r.1.2),.int (r.2*1)];rw[tZ,tZ,Wm]
def LN{rows:List eL}(h:rows.length<=7):Wh 5 (.list (rows.map mG)):=.inr ⟨_,.inl rfl,by rw[V4];lia,λc hc=>by
 obtain⟨r,_,rfl⟩:=V8.mp hc;have ty:∀t:SM.Ty,Wh 3 (iL t):=λt=>by
  cases t with
  |inl i=>exact .inl ⟨_,rfl⟩
  |inr e=>exact .inr ⟨_,.inr rfl,Zg rfl,λc hc=>.inl (by
    rcases VB.mp hc with rfl|hc
    .exact⟨_,rfl⟩
    .rw[V7.mp hc];exact⟨_,rfl⟩)⟩
 refine .inr ⟨_,.inr rfl,Zg rfl,λc hc=>?_⟩
 rcases VB.mp hc with rfl|hc
 .exact ty _
 .rcases VB.mp hc with rfl|hc
  .exact ty _
  .rw[V7.mp hc];exact .inl ⟨_,rfl⟩⟩
def Mg{d:Int}(h:rows.length<=7)(hn:ns.length<=7):Wh 6 (told d ns rows):=.inr ⟨_,.inr rfl,Zg rfl,λc hc=>by
 rcases VB.mp hc with rfl|hc
 .exact .inl ⟨_,rfl⟩
 .rcases VB.mp hc with rfl|hc
  .refine .inr ⟨_,.inl rfl,by rw[V4];lia,λc hc=>?_⟩
   obtain⟨i,_,rfl⟩:=V8.mp hc;exact .inl ⟨_,rfl⟩
  .rw[V7.mp hc];exact LN h⟩
def L6(d:Int)(ns:A08)(rows:List eL):dl 8 (told d ns rows)=true:=by
 have h1:dl 7 (zD ns)=true:=VL.mpr λy hy=>by obtain⟨r,_,rfl⟩:=V8.mp hy;rfl
 have h2:dl 7 (.list (rows.map mG))=true:=VL.mpr λy hy=>by obtain⟨r,_,rfl⟩:=V8.mp hy;rcases r with⟨⟨a|a,b|b⟩,c⟩<;>rfl
 show(true&&(dl 7 (zD ns)&&(dl 7 (.list (rows.map mG))&&true)))=true;rw[h1,h2];rfl
def Ij:∀ds Q x,vD ds Q x->oK DV sC D0 vp (qm 6) Cp CY (aY [false] Q x) (ini [false] ds++List.replicate 6 none):=by
 rintro _ Q x⟨ss,rfl,hn,q⟩;unfold oK;left;refine⟨ss,0,rfl,by lia,λn=>?_⟩;rfl';symm;refine⟨by decide,n,3,rfl,by decide,by decide,λr p hr=>?_⟩;rfl';obtain⟨k,hk,ek⟩:=U1 hr;refine aA ek ?_;rfl';symm;clear ek hr r n;refine⟨ss,1,rfl,by lia,λn=>?_⟩;rfl';refine⟨n,1,7,rfl,by lia,by lia,by lia,λm es n' m1 m7 W=>?_⟩;rfl';symm;clear n n';refine⟨m,es,k,rfl,W,λ_ l b R O D=>?_,λh=>absurd h (by lia)⟩;obtain⟨d,ns,rows,e,J,few⟩:=Lc W m7 R O;have ln:=J.len;rw[e];rfl';symm;refine⟨false,_,_,_,rfl,rfl,rfl,?_⟩;rfl';rw[if_neg (λh=>h rfl)];refine⟨_,rfl,Mg few (by lia),?_⟩;rfl';symm;refine⟨false,_,_,_,rfl,rfl,rfl,?_⟩;rfl';refine aA (a:=PyData.list (rows.map mG)) rfl ?_;rfl';symm;refine⟨false,_,_,_,rfl,rfl,rfl,?_⟩;rfl';refine aA (a:=PyData.list (rows.map mG)) rfl ?_;rfl';refine fM (λ_=>PyData.bool true) rfl (λr _ I hI=>?_) ?_ (by lia)
 .rfl';try exact hI _ rfl
  try exact⟨by decide,hI _ rfl⟩
 rfl';refine⟨rows.map λ_=>true,by rw[VG];rfl,?_⟩;have et:(rows.map λ_=>true).all id=true:=VL.mpr λb hb=>by obtain⟨_,_,rfl⟩:=V8.mp hb;rfl
 rw[et];rfl';rw[hB];clear et hB B;left;refine⟨false,_,_,_,rfl,rfl,rfl,?_⟩;rfl';refine⟨m,es,k,d,ns,rows,rfl,W,m7,hk,by lia,λb2 hb=>?_⟩;rw[hb.mpr J];clear hb b2;rfl';symm;refine⟨_,_,_,_,rfl,?_⟩;rfl';symm;refine⟨_,_,_,rfl,by rw[V4];show _<16777216;lia,?_⟩;rfl';symm;refine⟨_,_,_,rfl,?_⟩;rfl';symm;unfold Qo;rfl';refine⟨m,es,k,rfl,W,λ_ l2 b2 R2 O2 D2=>?_,λh=>absurd h (by lia)⟩;obtain⟨e1,e2⟩:=LP (R.prs W) O O2 D D2;rw[<-e1,<-e2,e];clear e1 e2 R2 O2 D2 l2 b2;rfl';refine⟨_,_,_,_,rfl,rfl,?_⟩;rfl';have dt:=L6 d ns rows;refine⟨⟨dt,dt⟩,?_⟩;rw[Vw rfl];rfl';right;refine⟨ss,2,rfl,by lia,λn2=>?_⟩;rfl';refine⟨n2,8,12,rfl,by lia,by lia,by lia,λm' es' n3 h8 h12 W'=>?_⟩;rfl';refine⟨m',es',k,rfl,W',by lia,by lia,?_⟩;rfl';exact q
end PB
namespace Dv
open PySem L2 PySem.W
def MD{k:Nat}(no:∀dd Q x,¬sp dd Q x)(N:∃h:Heap,K.In h/\h.Ns mainGlobals mg)(r:Rec K x st)(b:∀(kV doc pm:Value)(an:A01)(cdv ct:Value)(us:A02),us.length=ps.length->bindArgs (fnOf x x (jD st) (gA st) (au st) .none kV doc pm an cdv ct) ⟨us,[]⟩=pure (ps.zip us)) : bG P w K mg base k x ps (bS mg K ms sp):=by refine aW N r b λF=>⟨λvs H Q E h=>?_,λA outer s H args us vs Q E hr _ _ _ h=>?_⟩;{obtain⟨_,_,_,_,_,_,_,h,_⟩:=h;exact(no _ _ _ h).elim};obtain⟨_,_,_,_,_,_,_,h,_⟩:=h;exact(no _ _ _ h).elim
end Dv
namespace PM
open PySem L2 PySem.W Dv PB
def top (i:Nat):Stmt:=PySem.Challenge.pw_farhail_k47_shares_told.main.body.getD i (.Pass ⟨0,0,0,0⟩)
structure Txt(K:Frag)(mg:Zr):Prop where
 all:mg "all"=none
 bool:mg "bool"=none
 enumerate:mg "enumerate"=none
 int:mg "int"=none
 isinstance:mg "isinstance"=none
 len:mg "len"=none
 list:mg "list"=none
 max:mg "max"=none
 min:mg "min"=none
 range:mg "range"=none
 sorted:mg "sorted"=none
 sum:mg "sum"=none
 tuple:mg "tuple"=none
 zip:mg "zip"=none
 rZ:∃t,mg "MOST_SHARED"=some (.int 7 t)
 Ms:∃C,mg "NoPlace"=some (.ref C)/\i8 K C pB "ValueError.__new__" none=true
 Ml:∃C,mg "TooMany"=some (.ref C)/\i8 K C pB "ValueError.__new__" none=true
 kit:yY K ["bool","int","list","tuple"]=true
 Tw:Dd K=true
 kx:AI K ["NoPlace","TooMany"] ["NoLooks","NoThing","TooMany","ValueError"]=true
 kc:yo K ["NoLooks","NoThing","TooMany","ValueError"]=true
 As:yL K ["NoPlace","TooMany"] "HailError"=true
 Gp:yL K ["NoPlace","TooMany"] "TooMany"=true
 ns:∃h:Heap,K.In h/\h.Ns mainGlobals mg
def uc{us:A02}{n:Nat}(h:us.length=n+1):∃a t,t.length=n/\us=a::t:=by
 cases us with
 |nil=>cases h
 |cons a t=>exact⟨a,t,Nat.succ.inj h,rfl⟩
def UM{us:A02}(h0:us.length=1):∃a0,us=[a0]:=by obtain⟨a0,t0,h1,rfl⟩:=uc h0;cases Yg h1;exact⟨a0,rfl⟩
def zA{us:A02}(h0:us.length=2):∃a0 a1,us=[a0,a1]:=by obtain⟨a0,t0,h1,rfl⟩:=uc h0;obtain⟨a1,t1,h2,rfl⟩:=uc h1;cases Yg h2;exact⟨a0,a1,rfl⟩
def U4{us:A02}(h0:us.length=3):∃a0 a1 a2,us=[a0,a1,a2]:=by obtain⟨a0,t0,h1,rfl⟩:=uc h0;obtain⟨a1,t1,h2,rfl⟩:=uc h1;obtain⟨a2,t2,h3,rfl⟩:=uc h2;cases Yg h3;exact⟨a0,a1,a2,rfl⟩
def UO{us:A02}(h0:us.length=4):∃a0 a1 a2 a3,us=[a0,a1,a2,a3]:=by obtain⟨a0,t0,h1,rfl⟩:=uc h0;obtain⟨a1,t1,h2,rfl⟩:=uc h1;obtain⟨a2,t2,h3,rfl⟩:=uc h2;obtain⟨a3,t3,h4,rfl⟩:=uc h3;cases Yg h4;exact⟨a0,a1,a2,a3,rfl⟩
def U9{us:A02}(h0:us.length=5):∃a0 a1 a2 a3 a4,us=[a0,a1,a2,a3,a4]:=by obtain⟨a0,t0,h1,rfl⟩:=uc h0;obtain⟨a1,t1,h2,rfl⟩:=uc h1;obtain⟨a2,t2,h3,rfl⟩:=uc h2;obtain⟨a3,t3,h4,rfl⟩:=uc h3;obtain⟨a4,t4,h5,rfl⟩:=uc h4;cases Yg h5;exact⟨a0,a1,a2,a3,a4,rfl⟩
local macro_rules | `(tactic| ac_nf) => `(tactic| (intro _ _ _ _ _ _ us hl; first | (obtain⟨_, e⟩ := UM hl; subst e; rfl) | (obtain⟨_, _, e⟩ := zA hl; subst e; rfl) | (obtain⟨_, _, _, e⟩ := U4 hl; subst e; rfl) | (obtain⟨_, _, _, _, e⟩ := UO hl; subst e; rfl) | (obtain⟨_, _, _, _, _, e⟩ := U9 hl; subst e; rfl)))
section
variable(P:Program)(w:World)(K:Frag)(mg:Zr)(base:Heap)
abbrev qw:Prop:=bG P w K mg base 1 "_law_purse" ["_law_script","_law_k"] (bS mg K [false,false] DV)
abbrev g8:Prop:=bG P w K mg base 1 "_law_take" ["_law_purse_here","_law_many"] (bS mg K [true,false] sC)
abbrev qi:Prop:=bG P w K mg base 2 "_law_pairs" ["_law_purse_here","_law_many","_law_way"] (bS mg K [true,false,false] CN)
abbrev qM:Prop:=bG P w K mg base 2 "_law_order" ["_law_purse_here","_law_many"] (bS mg K [true,false] Ko)
abbrev uy:Prop:=bG P w K mg base 3 "_law_web" ["_law_purse_here","_law_least","_law_most"] (bS mg K [true,false,false] D0)
abbrev f9:Prop:=bG P w K mg base 1 "refuse_too_many" ["web"] (bS mg K [false] rJ)
abbrev l9:Prop:=bG P w K mg base 1 "unlike_pairs" ["pairs"] (bS mg K [false] D8)
abbrev pS:Prop:=bG P w K mg base 1 "first_rows" ["pairs","many"] (bS mg K [false,false] Ck)
abbrev oZ:Prop:=bG P w K mg base 1 "is_tighter" ["rows","base","column","place","best"] (bS mg K [false,false,false,false,false] C0)
abbrev rY:Prop:=bG P w K mg base 2 "tightest" ["rows","base","column"] (bS mg K [false,false,false] Dk)
abbrev wU:Prop:=bG P w K mg base 1 "turned" ["rows","bottom","place","column"] (bS mg K [false,false,false,false] Dw)
abbrev nR:Prop:=bG P w K mg base 3 "best_prices" ["pairs","many"] (bS mg K [false,false] Cz)
abbrev jQ:Prop:=bG P w K mg base 1 "refuse_no_place" ["web","place"] (bS mg K [false,false] DX)
abbrev jU:Prop:=bG P w K mg base 1 "neighbour_lists" ["web"] (bS mg K [false] D4)
abbrev lX:Prop:=bG P w K mg base 2 "fars_or_none" ["web","place"] (bS mg K [false,false] C8)
abbrev qK:Prop:=bG P w K mg base 3 "fars_from" ["web","place"] (bS mg K [false,false] Dr)
abbrev rV:Prop:=bG P w K mg base 4 "far_rows" ["web"] (bS mg K [false] Dq)
abbrev qj:Prop:=bG P w K mg base 1 "things_of" ["web","kind"] (bS mg K [false,false] DL)
abbrev pA:Prop:=bG P w K mg base 1 "nearer_end" ["fars","tie"] (bS mg K [false,false] CM)
abbrev qy:Prop:=bG P w K mg base 2 "thing_far" ["fars","thing"] (bS mg K [false,false] CL)
abbrev pU:Prop:=bG P w K mg base 3 "parters_by" ["rows","one","other"] (bS mg K [false,false,false] DG)
abbrev rX:Prop:=bG P w K mg base 5 "pairs_of" ["web","kind"] (bS mg K [false,false] Dt)
abbrev lK:Prop:=bG P w K mg base 6 "shares_of" ["web","kind"] (bS mg K [false,false] vp)
abbrev lG:Prop:=bG P w K mg base 6 "shares_judged" ["web","kind","bottom","shares","prices"] (bS mg K [false,false,false,false,false] De)
abbrev nS:Prop:=bG P w K mg base 7 "_law_refused" ["_law_web_here","_law_kind"] (bS mg K [false,false] CY)
abbrev qB:Prop:=bG P w K mg base 1 "_law_table" ["_law_web_here"] (bS mg K [false] CG)
abbrev pI:Prop:=bG P w K mg base 1 "_law_things" ["_law_web_here","_law_kind"] (bS mg K [false,false] CT)
abbrev uH:Prop:=bG P w K mg base 1 "_law_far" ["_law_fars","_law_look","_law_thing"] (bS mg K [false,false,false] Cs)
abbrev nE:Prop:=bG P w K mg base 2 "_law_parters" ["_law_fars","_law_one","_law_other"] (bS mg K [false,false,false] CU)
abbrev pJ:Prop:=bG P w K mg base 3 "_law_parted" ["_law_web_here","_law_kind"] (bS mg K [false,false] CW)
abbrev qg:Prop:=bG P w K mg base 4 "_law_shown" ["_law_web_here","_law_kind","_law_told"] (bS mg K [false,false,false] Cp)
abbrev j7 (n:Nat):Prop:=bG P w K mg base (1+n) "_law_whole" ["_law_thing"] (bS mg K [false] (qm n))
abbrev pW:Prop:=bG P w K mg base 7 "_law_whole" ["_law_thing"] (bS mg K [false] (qm 6))
end
section
variable{P:Program}{w:World}{K:Frag}{mg:Zr}{base:Heap}
abbrev kW:Stmt:=top 32
def fY:aH ["_law_script","_law_k","_law_cell","_law_number"] ["_law_script","_law_k"] (au kW):=by ac_rfl
def zm(T:Txt K mg)(r:Rec K "_law_purse" kW):qw P w K mg base:=
 aW T.ns r (by ac_nf) λF=>bH (m:=2) F fY rfl (by decide) (d:=iB) (λcdv A outer s H Ex hr=>have hu:=hr.units;af (aO 2 fY.nd (xI)) (qE (fh (bC.st (rM (aP 1 (aE (gP T.len (aP 0 a0)) a0)))) (ak (aO 2 fY.nd (aT hu (aP 0 (aP 1 a0))))) (ak (fh (bC.st (xr hu (aP 0 (aE (cK a0) a0)))) (ak (aO 2 fY.nd (dF (aE (wu (aE (aT hu (aP 0 (aE (wu (aP 1 (aE (gP T.len (aP 0 a0)) a0))) a0))) (aE (xI) a0))) (aE (iC (aE (xI) (aP 1 a0))) a0))))) (bQ)))) (af (fh (bC.st (UU (aP 2 (aE (Cm (aE (xI) (aE (xI) a0))) a0)))) (ak (cA (cK (aP 2 a0)))) (bQ)) (af (aO 3 fY.nd (wu (aE (Rj (aE (dF (aE (dF (aE (wu (aP 2 (aE (dF (aE (Cm (aE (xI) (aE (xI) a0))) (aE (xI) a0))) a0))) (aE (iC (aE (xI) (aP 1 a0))) a0))) (aE (xI) a0))) (aE (xI) a0))) (aE (dF (aE (Cm (aE (xI) (aE (xI) a0))) (aE (xI) a0))) a0)))) (ak (cA (cK (aE (wu (aE (Sa (aE (dF (aE (dF (aP 3 (aE (iC (aE (xI) (aP 1 a0))) a0))) (aE (xI) a0))) (aE (xI) a0))) (aE (dF (aE (Cm (aE (xI) (aE (xI) a0))) (aE (xI) a0))) a0))) a0)))))))) PB.Pj
abbrev mK:Stmt:=top 33
def rS:aH ["_law_purse_here","_law_many","_law_found"] ["_law_purse_here","_law_many"] (au mK):=by ac_rfl
def Az(T:Txt K mg)(r:Rec K "_law_take" mK):g8 P w K mg base:=
 aW T.ns r (by ac_nf) λF=>bH (m:=1) F rS rfl (by decide) (d:=iV) (λcdv A outer s H Ex hr=>have hu:=hr.units;af (aO 2 rS.nd (wu (aE (aT hu (aP 0 (aE (xI) a0))) (aP 1 a0)))) (af (ql 0 hu (M8 (aE (aT hu (aP 0 (aE (xI) a0))) (aP 1 a0))) (xI)) (ak (iQ 2)))) PB.Sb
abbrev lP:Stmt:=top 35
def dN:aH ["_law_purse_here","_law_many","_law_way","_law_found","_law_k","_law_near","_law_one","_law_other"] ["_law_purse_here","_law_many","_law_way"] (au lP):=by ac_rfl
def yF(T:Txt K mg)(h0:g8 P w K mg base)(r:Rec K "_law_pairs" lP):qi P w K mg base:=
 aW T.ns r (by ac_nf) λF=>bH (m:=6) F dN rfl (by decide) (d:=ig sC) (λcdv A outer s H Ex hr=>have hu:=hr.units;af (aO 3 dN.nd (cK a0)) (af (fD W5 dN.nd (UP T.range (aE (xI) (aP 1 a0))) (gN 4) (af (aO 5 dN.nd (aS h0 aZ hr (aP 0 (aP 4 a0)))) (af (cO (xM 3 cu bZ WX WY (eC (iW (aE (aT hu (aE (cK (aE (zZ (aP 4 (aE (xI) a0))) (aE (zZ (aP 4 (aE (xI) a0))) (aE (xI) (aP 5 a0))))) (aE (Oh T.min (aP 2 (aE (xI) a0))) a0))) (aP 4 a0))) e0))) (ak (fh (bC.st (uC hu (aP 2 (aE (xI) a0)))) (ak (cO (xM 3 uU uN Zh Zi (eC (kg (vs:=["_law_one"]) (NB:=["_law_one","_law_k"]) (ix:=[4]) (by rfl) (nG T.range (aP 4 a0)) (λ_ _ _ _=>gN 0) (λ_ _ _ _=>.nil) (λ_ _ _ _ _=>dU (iW (aP 0 (aP 1 a0))))) e0)))) (bQ)))))) (qE (fh (bC.st (jL.pN (qR (uC hu (aP 2 (aE (xI) a0))) (fS (zR (aP 1 (aE (xI) a0))))))) (ak (cO (xM 3 cu bZ WX WY (eC (iW (aE (xI) (aE (zZ (aP 1 (aE (xI) a0))) a0))) e0)))) (bQ)) (qE (fh (bC.st (zR (aP 2 (aE (xI) a0)))) (ak (fD W5 dN.nd (nG T.range (aE (aS h0 aZ hr (aP 0 (aE (xI) a0))) a0)) (gN 4) (af (aO 6 dN.nd (aS h0 aZ hr (aP 0 (aP 1 a0)))) (af (aO 7 dN.nd (aS h0 aZ hr (aP 0 (aP 1 a0)))) (ak (cO (xM 3 uU uN Zh Zi (eC (iC (aE (cK (aE (iW (aP 6 (aP 7 a0))) a0)) (aE (Om T.int (aE (Sy hu (aP 6 (aP 7 a0))) a0)) a0))) e0)))))))) (bQ)) (ak (iQ 3)))))) PB.N9
abbrev lD:Stmt:=top 34
def kT:aH ["_law_purse_here","_law_many","_law_found","_law_k"] ["_law_purse_here","_law_many"] (au lD):=by ac_rfl
def zJ(T:Txt K mg)(h0:g8 P w K mg base)(r:Rec K "_law_order" lD):qM P w K mg base:=
 aW T.ns r (by ac_nf) λF=>bH (m:=2) F kT rfl (by decide) (d:=iz sC) (λcdv A outer s H Ex hr=>af (aO 2 kT.nd (cK a0)) (af (fD W5 kT.nd (nG T.range (aP 1 a0)) (gN 3) (ak (cO (xM 2 Hv CS PySem.F.slot_list_insert PySem.F.type_list_insert (eC (aS h0 aZ hr (aP 0 (aE (dF (aP 3 (aE (xI) a0))) a0))) (eC (xV 3) e0)))))) (ak (iQ 2)))) PB.Q2
abbrev oO:Stmt:=top 36
def eF:aH ["_law_purse_here","_law_least","_law_most","_law_many","_law_found","_law_some","_law_places","_law_one","_law_other","_law_ends","_law_tie"] ["_law_purse_here","_law_least","_law_most"] (au oO):=by ac_rfl
def Cu(T:Txt K mg)(h0:g8 P w K mg base)(h1:qi P w K mg base)(h2:qM P w K mg base)(r:Rec K "_law_web" oO):uy P w K mg base:=
 aW T.ns r (by ac_nf) λF=>bH (m:=8) F eF rfl (by decide) (d:=i9 sC CN Ko) (λcdv A outer s H Ex hr=>have hu:=hr.units;af (aO 3 eF.nd (dF (aP 1 (aE (aS h0 aZ hr (aP 0 (aE (zZ (aE (dF (aP 2 (aE (xI) a0))) (aP 1 a0))) a0))) a0)))) (af (aO 4 eF.nd (cK a0)) (af (aO 5 eF.nd (aS h1 aZ hr (aP 0 (aP 3 (aE (aS h0 aZ hr (aP 0 (aE (xI) a0))) a0))))) (af (aO 6 eF.nd (aS h2 aZ hr (aP 0 (aP 3 a0)))) (af (fD W5 eF.nd (fU (xV 5)) (gT (gC 7 (gC 8 g0))) (af (aO 9 eF.nd (iW (aE (aT hu (aP 6 (aP 7 a0))) (aE (aT hu (aP 6 (aP 8 a0))) a0)))) (af (aO 10 eF.nd (iW (aE (Rg T.min (aP 9 a0)) (aE (RG T.max (aP 9 a0)) a0)))) (ak (fh (bC.st (T9 hu (aP 10 (aP 4 a0)))) (ak (cO (xM 4 cu bZ WX WY (eC (xV 10) e0)))) (bQ)))))) (ak (cA (iW (aP 3 (aE (Qs T.tuple (aE (O6 T.sorted (aP 4 a0)) a0)) a0)))))))))) PB.MS
abbrev f6:Stmt:=top 22
def qG:aH ["web"] ["web"] (au f6):=by ac_rfl
def qH(T:Txt K mg)(r:Rec K "refuse_too_many" f6):f9 P w K mg base:=
 aW T.ns r (by ac_nf) λF=>bH (m:=0) F qG rfl (by decide) (d:=gc) (λcdv A outer s H Ex hr=>have hu:=hr.units;ak (fh (bC.st (zR (aE (aT hu (aP 0 (aE (xI) a0))) (aE (xG T.rZ) a0)))) (ak (LZ T.Ml T.rZ)) (bQ))) PB.MJ
abbrev iZ:Stmt:=top 19
def iU:aH ["pairs","firsts","one","other","parters"] ["pairs"] (au iZ):=by ac_rfl
def uI(T:Txt K mg)(r:Rec K "unlike_pairs" iZ):l9 P w K mg base:=
 aW T.ns r (by ac_nf) λF=>bH (m:=4) F iU rfl (by decide) (d:=jv) (λcdv A outer s H Ex hr=>have hu:=hr.units;af (aO 1 iU.nd (Uz)) (af (fD W5 iU.nd (fU (xV 0)) (gT (gC 2 (gC 3 (gC 4 g0)))) (ak (cO (UE 1 4 hu T.tuple (iW (aP 2 (aP 3 (aP 4 a0)))))))) (ak (cA (Vd 1 T.list))))) PB.Qn
abbrev jZ:Stmt:=top 24
def fK:aH ["pairs","many","rows","place","parted","left"] ["pairs","many"] (au jZ):=by ac_rfl
def xJ(T:Txt K mg)(r:Rec K "first_rows" jZ):pS P w K mg base:=
 aW T.ns r (by ac_nf) λF=>bH (m:=7) F fK rfl (by decide) (d:=kY) (λcdv A outer s H Ex hr=>have hu:=hr.units;af (aO 2 fK.nd (cK a0)) (af (fD W5 fK.nd (nG T.range (aP 1 a0)) (gN 3) (af (wk (j:=4) fK.nd (vs:=["one","other","parters"]) (NB:=["one","other","parters","place"]) (ix:=[3]) (by rfl) (fU (xV 0)) (λ_ _ _ _=>gT (gC 0 (gC 1 (gC 2 g0)))) (λ_ _ _ _=>.nil) (λ_ _ _ _ _=>dU (xT (bC.st (UR hu (aP 3 (aP 2 a0)))) (xI) (xI)))) (af (wk (j:=5) fK.nd (vs:=["another"]) (NB:=["another","place"]) (ix:=[3]) (by rfl) (nG T.range (aP 1 a0)) (λ_ _ _ _=>gN 0) (λ_ _ _ _=>.nil) (λ_ _ _ _ _=>dU (xT (bC.st (uC hu (aP 1 (aP 0 a0)))) (xI) (xI)))) (ak (cO (xM 2 cu bZ WX WY (eC (dF (aE (dF (aP 4 (aP 5 a0))) (aE (cK (aE (xI) a0)) a0))) e0))))))) (ak (cA (dF (aP 2 (aE (cK (aE (dF (aE (iC (aE (cK (aE (lR (aE (xI) a0)) a0)) (aE (gP T.len (aP 0 a0)) a0))) (aE (iC (aE (cK (aE (xI) a0)) (aE (dF (aP 1 (aE (xI) a0))) a0))) a0))) a0)) a0))))))) PB.O8
abbrev j5:Stmt:=top 27
def j6:aH ["rows","base","column","place","best","mine","other"] ["rows","base","column","place","best"] (au j5):=by ac_rfl
def xD(T:Txt K mg)(r:Rec K "is_tighter" j5):oZ P w K mg base:=
 aW T.ns r (by ac_nf) λF=>bH (m:=2) F j6 rfl (by decide) (d:=kP) (λcdv A outer s H Ex hr=>have hu:=hr.units;af (aO 5 j6.nd (iC (aE (aT hu (aE (aT hu (aP 0 (aP 3 a0))) (aE (lR (aE (xI) a0)) a0))) (aE (aT hu (aE (aT hu (aP 0 (aP 4 a0))) (aP 2 a0))) a0)))) (af (aO 6 j6.nd (iC (aE (aT hu (aE (aT hu (aP 0 (aP 4 a0))) (aE (lR (aE (xI) a0)) a0))) (aE (aT hu (aE (aT hu (aP 0 (aP 3 a0))) (aP 2 a0))) a0)))) (ak (cA (Rz (S8 (aP 5 (aP 6 a0))) (qz (vg (NC hu (aP 5 (aP 6 a0))) (qz (S8 (aE (aT hu (aP 1 (aP 3 a0))) (aE (aT hu (aP 1 (aP 4 a0))) a0))))))))))) PB.O7
abbrev mH:Stmt:=top 26
def jH:aH ["rows","base","column","best","place"] ["rows","base","column"] (au mH):=by ac_rfl
def An(T:Txt K mg)(h0:oZ P w K mg base)(r:Rec K "tightest" mH):rY P w K mg base:=
 aW T.ns r (by ac_nf) λF=>bH (m:=2) F jH rfl (by decide) (d:=oW C0) (λcdv A outer s H Ex hr=>have hu:=hr.units;af (aO 3 jH.nd (xN)) (af (fD W5 jH.nd (nG T.range (aE (gP T.len (aP 1 a0)) a0)) (gN 4) (ak (fh (bC.st (jL.pN (qR (zR (aE (aT hu (aE (aT hu (aP 0 (aP 4 a0))) (aP 2 a0))) (aE (xI) a0))) (fS (jL.pN (jT (Ti (aP 3 (aE (xN) a0))) (fS (rN (aS h0 aZ hr (aP 0 (aP 1 (aP 2 (aP 4 (aP 3 a0)))))))))))))) (ak (aO 3 jH.nd (xV 4))) (bQ)))) (ak (iQ 3)))) PB.NI
abbrev qN:Stmt:=top 28
def mz:aH ["rows","bottom","place","column","pivot","after","at","line"] ["rows","bottom","place","column"] (au qN):=by ac_rfl
def EI(T:Txt K mg)(r:Rec K "turned" qN):wU P w K mg base:=
 aW T.ns r (by ac_nf) λF=>bH (m:=6) F mz rfl (by decide) (d:=tK) (λcdv A outer s H Ex hr=>have hu:=hr.units;af (aO 4 mz.nd (aT hu (aP 0 (aP 2 a0)))) (af (aO 5 mz.nd (cK a0)) (af (fD W5 mz.nd (DW T.enumerate (xV 0)) (gT (gC 6 (gC 7 g0))) (ak (fh (bC.st (uC hu (aP 6 (aP 2 a0)))) (ak (cO (xM 5 cu bZ WX WY (eC (xV 4) e0)))) (ak (cO (xM 5 cu bZ WX WY (eC (kg (vs:=["entry","mine"]) (NB:=["entry","mine","pivot","column","line","bottom"]) (ix:=[4,3,7,1]) (by rfl) (Du T.zip (xV 7) (xV 4)) (λ_ _ _ _=>gT (gC 0 (gC 1 g0))) (λ_ _ _ _=>.nil) (λ_ _ _ _ _=>dU (M8 (aE (zZ (aE (iC (aP 0 (aE (aT hu (aP 2 (aP 3 a0))) a0))) (aE (iC (aE (aT hu (aP 4 (aP 3 a0))) (aP 1 a0))) a0))) (aP 5 a0))))) e0))))))) (ak (iQ 5))))) PB.Ox
abbrev jC:Stmt:=top 25
def cI:aH ["pairs","many","rows","base","bottom","column","place"] ["pairs","many"] (au jC):=by ac_rfl
def vY(T:Txt K mg)(h0:pS P w K mg base)(h1:rY P w K mg base)(h2:wU P w K mg base)(r:Rec K "best_prices" jC):nR P w K mg base:=
 aW T.ns r (by ac_nf) λF=>bH (m:=7) F cI rfl (by decide) (d:=j9 Ck Dk Dw) (λcdv A outer s H Ex hr=>have hu:=hr.units;af (aO 2 cI.nd (aS h0 aZ hr (aP 0 (aP 1 a0)))) (af (wk (j:=3) cI.nd (vs:=["place"]) (NB:=["place","pairs"]) (ix:=[0]) (by rfl) (nG T.range (aP 1 a0)) (λ_ _ _ _=>gN 0) (λ_ _ _ _=>.nil) (λ_ _ _ _ _=>dU (dF (aE (gP T.len (aP 1 a0)) (aP 0 a0))))) (af (aO 4 cI.nd (xI)) (af (EA W5 (bC.st (rM (aE (DU T.min (aE (yf (aE (aT hu (aP 2 (aE (lR (aE (xI) a0)) a0))) (aE (lR (aE (xI) a0)) a0))) a0)) (aE (xI) a0)))) (af (aO 5 cI.nd (aT hu (aE (kg (vs:=["at","gain"]) (NB:=["at","gain"]) (ix:=[]) (by rfl) (DW T.enumerate (yf (aE (aT hu (aP 2 (aE (lR (aE (xI) a0)) a0))) (aE (lR (aE (xI) a0)) a0)))) (λ_ _ _ _=>gT (gC 0 (gC 1 g0))) (λ_ _ _ _=>.one (bC.st (rM (aP 1 (aE (xI) a0))))) (λ_ _ _ _ _=>dU (xV 0))) (aE (xI) a0)))) (af (aO 6 cI.nd (aS h1 aZ hr (aP 2 (aP 3 (aP 5 a0))))) (af (aO 2 cI.nd (aS h2 aZ hr (aP 2 (aP 4 (aP 6 (aP 5 a0)))))) (af (aO 4 cI.nd (aT hu (aE (aT hu (aP 2 (aP 6 a0))) (aP 5 a0)))) (ak (ql 3 hu (xV 5) (xV 6)))))))) (ak (cA (iW (aP 4 (aP 3 (aP 2 a0)))))))))) PB.Pc
abbrev gw:Stmt:=top 9
def qu:aH ["web","place"] ["web","place"] (au gw):=by ac_rfl
def qJ(T:Txt K mg)(r:Rec K "refuse_no_place" gw):jQ P w K mg base:=
 aW T.ns r (by ac_nf) λF=>bH (m:=0) F qu rfl (by decide) (d:=gJ) (λcdv A outer s H Ex hr=>have hu:=hr.units;ak (fh (HJ (bC.st (EJ RM CV rfl (xI) (xV 1) (aT hu (aP 0 (aE (xI) a0)))))) (ak (Lu T.Ms)) (bQ))) PB.P0
abbrev gg:Stmt:=top 7
def d9:aH ["web","many","ties","lists","one","other"] ["web"] (au gg):=by ac_rfl
def qa(T:Txt K mg)(r:Rec K "neighbour_lists" gg):jU P w K mg base:=
 aW T.ns r (by ac_nf) λF=>bH (m:=6) F d9 rfl (by decide) (d:=gO) (λcdv A outer s H Ex hr=>af (Dj d9.nd (gC 1 (gC 2 g0)) (xV 0)) (af (TX (j:=3) d9.nd (vs:=["place"]) (NB:=["place"]) (ix:=[]) (by rfl) (nG T.range (aP 1 a0)) (λ_ _ _ _=>gN 0) (λ_ _ _ _=>.nil) (λ_ _ _ _=>cK a0)) (af (fD W5 d9.nd (fU (xV 2)) (gT (gC 4 (gC 5 g0))) (af (cO (Td 3 5 cu bZ WX WY (xV 4))) (ak (cO (Td 3 4 cu bZ WX WY (xV 5)))))) (ak (iQ 3))))) PB.N4
abbrev iY:Stmt:=top 8
def cj:aH ["web","place","lists","fars","edge","reached","here","there"] ["web","place"] (au iY):=by ac_rfl
def uZ(T:Txt K mg)(h0:jU P w K mg base)(r:Rec K "fars_or_none" iY):lX P w K mg base:=
 aW T.ns r (by ac_nf) λF=>bH (m:=6) F cj rfl (by decide) (d:=jr D4) (λcdv A outer s H Ex hr=>have hu:=hr.units;af (aO 2 cj.nd (aS h0 aZ hr (aP 0 a0))) (af (aO 3 cj.nd (iC (aE (cK (aE (xN) a0)) (aE (aT hu (aP 0 (aE (xI) a0))) a0)))) (af (ql 3 hu (xI) (xV 1)) (af (aO 4 cj.nd (cK (aP 1 a0))) (af (EA W5 (tV 4) (af (aO 5 cj.nd (cK a0)) (af (fD W5 cj.nd (fU (xV 4)) (gN 6) (ak (fD W5 cj.nd (fU (aT hu (aP 2 (aP 6 a0)))) (gN 7) (ak (fh (bC.st (Ti (aE (aT hu (aP 3 (aP 7 a0))) (aE (xN) a0)))) (af (ql 3 hu (dF (aE (aT hu (aP 3 (aP 6 a0))) (aE (xI) a0))) (xV 7)) (ak (cO (xM 5 cu bZ WX WY (eC (xV 7) e0))))) (bQ)))))) (ak (aO 4 cj.nd (xV 5)))))) (ak (iQ 3))))))) PB.Oa
abbrev lI:Stmt:=top 10
def yq:aH ["web","place"] ["web","place"] (au lI):=by ac_rfl
def yt(T:Txt K mg)(h0:jQ P w K mg base)(h1:lX P w K mg base)(r:Rec K "fars_from" lI):qK P w K mg base:=
 aW T.ns r (by ac_nf) λF=>bH (m:=0) F yq rfl (by decide) (d:=mE DX C8) (λcdv A outer s H Ex hr=>af (cO (aS h0 aZ hr (aP 0 (aP 1 a0)))) (ak (cA (aS h1 aZ hr (aP 0 (aP 1 a0)))))) PB.Ql
abbrev mO:Stmt:=top 15
def Au:aH ["web"] ["web"] (au mO):=by ac_rfl
def Am(T:Txt K mg)(h0:qK P w K mg base)(r:Rec K "far_rows" mO):rV P w K mg base:=
 aW T.ns r (by ac_nf) λF=>bH (m:=1) F Au rfl (by decide) (d:=nV Dr) (λcdv A outer s H Ex hr=>have hu:=hr.units;ak (cA (kg (vs:=["place"]) (NB:=["place","web"]) (ix:=[0]) (by rfl) (nG T.range (aE (aT hu (aP 0 (aE (xI) a0))) a0)) (λ_ _ _ _=>gN 0) (λ_ _ _ _=>.nil) (λ_ _ _ _ _=>dU (aS h0 oX hr (aP 1 (aP 0 a0))))))) PB.MU
abbrev lF:Stmt:=top 13
def ja:aH ["web","kind","many","ties","places","joins"] ["web","kind"] (au lF):=by ac_rfl
def zW(T:Txt K mg)(r:Rec K "things_of" lF):qj P w K mg base:=
 aW T.ns r (by ac_nf) λF=>bH (m:=4) F ja rfl (by decide) (d:=mD) (λcdv A outer s H Ex hr=>have hu:=hr.units;af (Dj ja.nd (gC 2 (gC 3 g0)) (xV 0)) (af (aO 4 ja.nd (xT (bC.st (uC hu (aP 1 (aE (xS) a0)))) (cK a0) (EF T.list T.range (aP 2 a0)))) (af (aO 5 ja.nd (xT (bC.st (uC hu (aP 1 (aE (xS) a0)))) (cK a0) (R9 T.list (aP 3 a0)))) (ak (cA (dF (aP 4 (aP 5 a0)))))))) PB.Qd
abbrev kh:Stmt:=top 11
def xA:aH ["fars","tie"] ["fars","tie"] (au kh):=by ac_rfl
def xE(T:Txt K mg)(r:Rec K "nearer_end" kh):pA P w K mg base:=
 aW T.ns r (by ac_nf) λF=>bH (m:=0) F xA rfl (by decide) (d:=kZ) (λcdv A outer s H Ex hr=>have hu:=hr.units;ak (cA (Oh T.min (aE (aT hu (aP 0 (aE (aT hu (aP 1 (aE (xI) a0))) a0))) (aE (aT hu (aP 0 (aE (aT hu (aP 1 (aE (xI) a0))) a0))) a0))))) PB.MX
abbrev k8:Stmt:=top 14
def yP:aH ["fars","thing"] ["fars","thing"] (au k8):=by ac_rfl
def zd(T:Txt K mg)(h0:pA P w K mg base)(r:Rec K "thing_far" k8):qy P w K mg base:=
 aW T.ns r (by ac_nf) λF=>bH (m:=0) F yP rfl (by decide) (d:=mL CM) (λcdv A outer s H Ex hr=>have hu:=hr.units;af (fh (bC.st (rN (qe T.kit T.isinstance T.int Yv (aP 1 a0)))) (ak (cA (aT hu (aP 0 (aP 1 a0))))) (bQ)) (ak (cA (aS h0 aZ hr (aP 0 (aP 1 a0)))))) PB.Po
abbrev jY:Stmt:=top 16
def xH:aH ["rows","one","other"] ["rows","one","other"] (au jY):=by ac_rfl
def xP(T:Txt K mg)(h0:qy P w K mg base)(r:Rec K "parters_by" jY):pU P w K mg base:=
 aW T.ns r (by ac_nf) λF=>bH (m:=2) F xH rfl (by decide) (d:=lJ CL) (λcdv A outer s H Ex hr=>have hu:=hr.units;ak (cA (kg (vs:=["place","fars"]) (NB:=["place","fars","one","other"]) (ix:=[1,2]) (by rfl) (DW T.enumerate (xV 0)) (λ_ _ _ _=>gT (gC 0 (gC 1 g0))) (λ_ _ _ _=>.one (bC.st (xr hu (aE (aS h0 oX hr (aP 1 (aP 2 a0))) (aE (aS h0 oX hr (aP 1 (aP 3 a0))) a0))))) (λ_ _ _ _ _=>dU (xV 0))))) PB.N1
abbrev mJ:Stmt:=top 18
def fQ:aH ["web","kind","rows","things","pairs","at","one"] ["web","kind"] (au mJ):=by ac_rfl
def Ay(T:Txt K mg)(h0:rV P w K mg base)(h1:qj P w K mg base)(h2:pU P w K mg base)(r:Rec K "pairs_of" mJ):rX P w K mg base:=
 aW T.ns r (by ac_nf) λF=>bH (m:=6) F fQ rfl (by decide) (d:=oF Dq DL DG) (λcdv A outer s H Ex hr=>af (aO 2 fQ.nd (aS h0 aZ hr (aP 0 a0))) (af (aO 3 fQ.nd (aS h1 aZ hr (aP 0 (aP 1 a0)))) (af (aO 4 fQ.nd (cK a0)) (af (fD W5 fQ.nd (DW T.enumerate (xV 3)) (gT (gC 5 (gC 6 g0))) (ak (UG 4 fQ.nd (kg (vs:=["other"]) (NB:=["other","one","rows"]) (ix:=[6,2]) (by rfl) (fU (FP (aP 3 (aE (dF (aP 5 (aE (xI) a0))) a0)))) (λ_ _ _ _=>gN 0) (λ_ _ _ _=>.nil) (λ_ _ _ _ _=>dU (iW (aP 1 (aP 0 (aE (aS h2 oX hr (aP 2 (aP 1 (aP 0 a0)))) a0))))))))) (ak (iQ 4)))))) PB.Nf
abbrev lS:Stmt:=top 23
def dO:aH ["web","kind","pairs","bottom","base","rows","goal","shares","priced","prices"] ["web","kind"] (au lS):=by ac_rfl
def yM(T:Txt K mg)(h0:f9 P w K mg base)(h1:l9 P w K mg base)(h2:rX P w K mg base)(h3:nR P w K mg base)(r:Rec K "shares_of" lS):lK P w K mg base:=
 aW T.ns r (by ac_nf) λF=>bH (m:=10) F dO rfl (by decide) (d:=lH rJ D8 Dt Cz) (λcdv A outer s H Ex hr=>have hu:=hr.units;af (cO (aS h0 aZ hr (aP 0 a0))) (af (aO 2 dO.nd (aS h1 aZ hr (aE (aS h2 aZ hr (aP 0 (aP 1 a0))) a0))) (af (Dj dO.nd (gC 3 (gC 4 (gC 5 g0))) (aS h3 aZ hr (aP 2 (aE (aT hu (aP 0 (aE (xI) a0))) a0)))) (af (aO 6 dO.nd (aT hu (aP 5 (aE (lR (aE (xI) a0)) a0)))) (af (aO 7 dO.nd (OT (aP 6 (aE (gP T.len (aP 2 a0)) (aE (lR (aE (xI) a0)) a0))))) (af (wk (j:=8) dO.nd (vs:=["at","line"]) (NB:=["at","line","pairs"]) (ix:=[2]) (by rfl) (Du T.zip (xV 4) (xV 5)) (λ_ _ _ _=>gT (gC 0 (gC 1 g0))) (λ_ _ _ _=>.one (bC.st (rM (aP 0 (aE (gP T.len (aP 2 a0)) a0))))) (λ_ _ _ _ _=>dU (iW (aP 0 (aE (aT hu (aP 1 (aE (lR (aE (xI) a0)) a0))) a0))))) (af (wk (j:=9) dO.nd (vs:=["at","price"]) (NB:=["at","price","pairs"]) (ix:=[2]) (by rfl) (fU (xV 8)) (λ_ _ _ _=>gT (gC 0 (gC 1 g0))) (λ_ _ _ _=>.one (bC.st (zR (aP 1 (aE (xI) a0))))) (λ_ _ _ _ _=>dU (iW (aE (aT hu (aE (aT hu (aP 2 (aP 0 a0))) (aE (xI) a0))) (aE (aT hu (aE (aT hu (aP 2 (aP 0 a0))) (aE (xI) a0))) (aP 1 a0)))))) (ak (cA (Rn 3 7 9)))))))))) PB.Qm
abbrev iF:Stmt:=top 29
def sX:aH ["web","kind","bottom","shares","prices","pairs","parters_of_two"] ["web","kind","bottom","shares","prices"] (au iF):=by ac_rfl
def tO(T:Txt K mg)(h0:f9 P w K mg base)(r:Rec K "shares_judged" iF):lG P w K mg base:=
 aW T.ns r (by ac_nf) λF=>bH (m:=2) F sX rfl (by decide) (d:=iA rJ) (λcdv A outer s H Ex hr=>af (cO (aS h0 aZ hr (aP 0 a0))) (af (vm) (af (vm) (af (vm) (af (vm) (ak (vm))))))) PB.Pd
abbrev jz:Stmt:=top 44
def gB:aH ["_law_web_here","_law_kind","_law_caught","_law_e"] ["_law_web_here","_law_kind"] (au jz):=by ac_rfl
def vG(T:Txt K mg)(h0:lK P w K mg base)(h1:lG P w K mg base)(r:Rec K "_law_refused" jz):nS P w K mg base:=
 aW T.ns r (by ac_nf) λF=>bH (m:=2) F gB rfl (by decide) (d:=f7 vp De) (λcdv A outer s H Ex hr=>have hu:=hr.units;af (aO 2 gB.nd (cK a0)) (af (KW T.ns T.As gB.nd (Bv h0 hr (λ_ _=>aP 0 (aP 1 a0))) (λ_=>ak (cO (xM 2 cu bZ WX WY (eC (vg (NP T.ns T.kx T.kc T.isinstance (aP 3 a0)) (qz (GJ (Sd T.ns T.kx T.kc T.isinstance (aP 3 a0) (.cons (by decide) (by rfl) (.cons (by decide) (by rfl) .nil)))))) e0))))) (af (KW T.ns T.Gp gB.nd (Bv h1 hr (λ_ _=>aP 0 (aP 1 (aE (xI) (aE (iC (aE (cK (aE (xI) a0)) (aE (aT hu (aP 0 (aE (xI) a0))) a0))) (aE (cK a0) a0)))))) (λ_=>ak (cO (xM 2 cu bZ WX WY (eC (NP T.ns T.kx T.kc T.isinstance (aP 3 a0)) e0))))) (ak (cA (Uy hu (aP 2 (aE (cK (aE (xB) (aE (xB) a0))) a0)))))))) PB.PU
abbrev kQ:Stmt:=top 37
def ff:aH ["_law_web_here","_law_found","_law_place","_law_row","_law_step","_law_one","_law_other"] ["_law_web_here"] (au kQ):=by ac_rfl
def Ae(T:Txt K mg)(r:Rec K "_law_table" kQ):qB P w K mg base:=
 aW T.ns r (by ac_nf) λF=>bH (m:=6) F ff rfl (by decide) (d:=iG) (λcdv A outer s H Ex hr=>have hu:=hr.units;af (aO 1 ff.nd (cK a0)) (af (fD W5 ff.nd (nG T.range (aE (aT hu (aP 0 (aE (xI) a0))) a0)) (gN 2) (af (aO 3 ff.nd (iC (aE (cK (aE (lR (aE (xI) a0)) a0)) (aE (aT hu (aP 0 (aE (xI) a0))) a0)))) (af (ql 3 hu (xI) (xV 2)) (af (fD W5 ff.nd (nG T.range (aE (aT hu (aP 0 (aE (xI) a0))) a0)) (gN 4) (ak (fD W5 ff.nd (fU (aT hu (aP 0 (aE (xI) a0)))) (gT (gC 5 (gC 6 g0))) (qE (fh (bC.st (jL.pN (qR (uC hu (aE (aT hu (aP 3 (aP 5 a0))) (aP 4 a0))) (fS (rM (aE (aT hu (aP 3 (aP 6 a0))) (aE (xI) a0))))))) (ak (ql 3 hu (dF (aP 4 (aE (xI) a0))) (xV 6))) (bQ)) (ak (fh (bC.st (jL.pN (qR (uC hu (aE (aT hu (aP 3 (aP 6 a0))) (aP 4 a0))) (fS (rM (aE (aT hu (aP 3 (aP 5 a0))) (aE (xI) a0))))))) (ak (ql 3 hu (dF (aP 4 (aE (xI) a0))) (xV 5))) (bQ))))))) (ak (cO (xM 1 cu bZ WX WY (eC (xV 3) e0)))))))) (ak (iQ 1)))) PB.N3
abbrev ki:Stmt:=top 38
def pF:aH ["_law_web_here","_law_kind","_law_found"] ["_law_web_here","_law_kind"] (au ki):=by ac_rfl
def xC(T:Txt K mg)(r:Rec K "_law_things" ki):pI P w K mg base:=
 aW T.ns r (by ac_nf) λF=>bH (m:=1) F pF rfl (by decide) (d:=gQ) (λcdv A outer s H Ex hr=>have hu:=hr.units;af (aO 2 pF.nd (iC (aE (EF T.list T.range (aE (aT hu (aP 0 (aE (xI) a0))) a0)) (aE (Om T.int (aE (Sy hu (aP 1 (aE (xS) a0))) a0)) a0)))) (qE (fh (bC.st (xr hu (aP 1 (aE (xS) a0)))) (ak (cO (xM 2 D6 Jx Zh Zi (eC (aT hu (aP 0 (aE (xI) a0))) e0)))) (bQ)) (ak (iQ 2)))) PB.Nq
abbrev oB:Stmt:=top 39
def Dz:aH ["_law_fars","_law_look","_law_thing"] ["_law_fars","_law_look","_law_thing"] (au oB):=by ac_rfl
def Dh(T:Txt K mg)(r:Rec K "_law_far" oB):uH P w K mg base:=
 aW T.ns r (by ac_nf) λF=>bH (m:=1) F Dz rfl (by decide) (d:=jF) (λcdv A outer s H Ex hr=>have hu:=hr.units;af (fh (bC.st (rN (qe T.kit T.isinstance T.int Yv (aP 2 a0)))) (ak (cA (aT hu (aE (aT hu (aP 0 (aP 1 a0))) (aP 2 a0))))) (bQ)) (ak (cA (DU T.min (aE (kg (vs:=["_law_end"]) (NB:=["_law_end","_law_fars","_law_look"]) (ix:=[0,1]) (by rfl) (fU (xV 2)) (λ_ _ _ _=>gN 0) (λ_ _ _ _=>.nil) (λ_ _ _ _ _=>dU (aT hu (aE (aT hu (aP 1 (aP 2 a0))) (aP 0 a0))))) a0))))) PB.PX
abbrev jo:Stmt:=top 40
def wc:aH ["_law_fars","_law_one","_law_other"] ["_law_fars","_law_one","_law_other"] (au jo):=by ac_rfl
def vB(T:Txt K mg)(h0:uH P w K mg base)(r:Rec K "_law_parters" jo):nE P w K mg base:=
 aW T.ns r (by ac_nf) λF=>bH (m:=1) F wc rfl (by decide) (d:=gx Cs) (λcdv A outer s H Ex hr=>have hu:=hr.units;ak (cA (kg (vs:=["_law_look"]) (NB:=["_law_look","_law_fars","_law_one","_law_other"]) (ix:=[0,1,2]) (by rfl) (nG T.range (aE (gP T.len (aP 0 a0)) a0)) (λ_ _ _ _=>gN 0) (λ_ _ _ _=>.one (bC.st (xr hu (aE (aS h0 oX hr (aP 1 (aP 0 (aP 2 a0)))) (aE (aS h0 oX hr (aP 1 (aP 0 (aP 3 a0)))) a0))))) (λ_ _ _ _ _=>dU (xV 0))))) PB.Ov
abbrev j8:Stmt:=top 41
def dY:aH ["_law_web_here","_law_kind","_law_fars","_law_some","_law_found","_law_k","_law_other"] ["_law_web_here","_law_kind"] (au j8):=by ac_rfl
def xR(T:Txt K mg)(h0:qB P w K mg base)(h1:pI P w K mg base)(h2:nE P w K mg base)(r:Rec K "_law_parted" j8):pJ P w K mg base:=
 aW T.ns r (by ac_nf) λF=>bH (m:=5) F dY rfl (by decide) (d:=gR CG CT CU) (λcdv A outer s H Ex hr=>have hu:=hr.units;af (aO 2 dY.nd (aS h0 aZ hr (aP 0 a0))) (af (aO 3 dY.nd (aS h1 aZ hr (aP 0 (aP 1 a0)))) (af (aO 4 dY.nd (cK a0)) (af (fD W5 dY.nd (nG T.range (aE (gP T.len (aP 3 a0)) a0)) (gN 5) (ak (fD W5 dY.nd (fU (FP (aP 3 (aE (dF (aP 5 (aE (xI) a0))) a0)))) (gN 6) (ak (cO (xM 4 cu bZ WX WY (eC (iW (aE (aT hu (aP 3 (aP 5 a0))) (aP 6 (aE (aS h2 aZ hr (aP 2 (aE (aT hu (aP 3 (aP 5 a0))) (aP 6 a0)))) a0)))) e0))))))) (ak (iQ 4)))))) PB.Nk
abbrev lW:Stmt:=top 42
def dm:aH ["_law_web_here","_law_kind","_law_told","_law_bottom","_law_shares","_law_prices","_law_loads","_law_met","_law_one","_law_other","_law_places","_law_here","_law_place"] ["_law_web_here","_law_kind","_law_told"] (au lW):=by ac_rfl
def yK(T:Txt K mg)(h0:pJ P w K mg base)(r:Rec K "_law_shown" lW):qg P w K mg base:=
 aW T.ns r (by ac_nf) λF=>bH (m:=11) F dm rfl (by decide) (d:=iy CW) (λcdv A outer s H Ex hr=>have hu:=hr.units;af (Dj dm.nd (gC 3 (gC 4 (gC 5 g0))) (xV 2)) (af (fh (bC.st (jL.pN (jT (rM (aP 3 (aE (xI) a0))) (jT (xr hu (aE (gP T.len (aP 4 a0)) (aE (aT hu (aP 0 (aE (xI) a0))) a0))) (fS (rM (aE (DU T.min (aP 4 a0)) (aE (xI) a0)))))))) (ak (cA (xB))) (bQ)) (af (aO 6 dm.nd (iC (aE (cK (aE (xI) a0)) (aE (aT hu (aP 0 (aE (xI) a0))) a0)))) (af (aO 7 dm.nd (xI)) (af (fD W5 dm.nd (fU (aS h0 aZ hr (aP 0 (aP 1 a0)))) (gT (gC 8 (gC 9 (gC 10 g0)))) (af (fh (bC.st (rM (aE (Aa T.sum (aE (kg (vs:=["_law_place"]) (NB:=["_law_place","_law_shares"]) (ix:=[4]) (by rfl) (fU (xV 10)) (λ_ _ _ _=>gN 0) (λ_ _ _ _=>.nil) (λ_ _ _ _ _=>dU (aT hu (aP 1 (aP 0 a0))))) a0)) (aP 3 a0)))) (ak (cA (xB))) (bQ)) (af (wk (j:=11) dm.nd (vs:=["_law_row"]) (NB:=["_law_row","_law_one","_law_other"]) (ix:=[8,9]) (by rfl) (fU (xV 5)) (λ_ _ _ _=>gN 0) (λ_ _ _ _=>.one (bC.st (uC hu (aE (yf (aP 0 (aE (xI) a0))) (aE (iW (aP 1 (aP 2 a0))) a0))))) (λ_ _ _ _ _=>dU (aT hu (aP 0 (aE (xI) a0))))) (af (fh (bC.st (jL.pN (jT (zR (aE (gP T.len (aP 11 a0)) (aE (xI) a0))) (fS (rM (aE (Aa T.sum (aP 11 a0)) (aE (gP T.len (aP 11 a0)) a0))))))) (ak (cA (xB))) (bQ)) (af (aO 7 dm.nd (dF (aP 7 (aE (gP T.len (aP 11 a0)) a0)))) (ak (fD W5 dm.nd (fU (xV 10)) (gN 12) (ak (ql 6 hu (dF (aE (aT hu (aP 6 (aP 12 a0))) (aE (Aa T.sum (aP 11 a0)) a0))) (xV 12)))))))))) (af (fh (bC.st (jL.pN (jT (xr hu (aP 7 (aE (gP T.len (aP 5 a0)) a0))) (fS (zR (aE (RI T.max (aP 6 a0)) (aP 3 a0))))))) (ak (cA (xB))) (bQ)) (ak (cA (NC hu (aE (Aa T.sum (aP 4 a0)) (aE (Aa T.sum (aE (kg (vs:=["_law_row"]) (NB:=["_law_row"]) (ix:=[]) (by rfl) (fU (xV 5)) (λ_ _ _ _=>gN 0) (λ_ _ _ _=>.nil) (λ_ _ _ _ _=>dU (aT hu (aP 0 (aE (xI) a0))))) a0)) a0))))))))))) PB.MR
abbrev i6:Stmt:=top 43
def zK:aH ["_law_thing"] ["_law_thing"] (au i6):=by ac_rfl
def vJ{n:Nat}(T:Txt K mg)(h0:j7 P w K mg base n)(r:Rec K "_law_whole" i6):j7 P w K mg base (n+1):=
 aW T.ns r (by ac_nf) λF=>bH (k:=1+n) (m:=1) F zK rfl (by decide) (d:=ie (qm n)) (λcdv A outer s H Ex hr=>af (fh (bC.st (rN (RE T.Tw T.isinstance T.list T.tuple (aP 0 a0)))) (ak (cA (QO T.all (aE (kg (vs:=["_law_one"]) (NB:=["_law_one"]) (ix:=[]) (by rfl) (fU (xV 0)) (λ_ _ _ _=>gN 0) (λ_ _ _ _=>.nil) (λ_ _ _ _ _=>dU (aS (hk:=by lia) h0 oX hr (aP 0 a0)))) a0)))) (bQ)) (ak (cA (vg (qe T.kit T.isinstance T.int Yv (aP 0 a0)) (qz (GJ (qe T.kit T.isinstance T.bool PyProof.Rows.boot_bool (aP 0 a0)))))))) (PB.Pz n)
def yN(T:Txt K mg)(r:Rec K "_law_whole" i6):pW P w K mg base:=by
 have h:∀n,j7 P w K mg base n:=λn=>by
  induction n with
  |zero=>exact MD PB.Qv T.ns r (by ac_nf)
  |succ n ih=>exact vJ T ih r
 exact h 6
abbrev Ak:Stmt:=top 45
def nO:aH ["_law_script","_law_purse_here","_law_kind","_law_web_here","_law_told","_law_kept"] ["_law_script"] (au Ak):=by ac_rfl
def OA(T:Txt K mg)(h0:qw P w K mg base)(h1:g8 P w K mg base)(h2:uy P w K mg base)(h3:lK P w K mg base)(h4:pW P w K mg base)(h5:qg P w K mg base)(h6:nS P w K mg base){f:Addr}{fd:FuncData}(F:uo K "law" "law" Ak f fd):gu P w K mg base (dS P w) 8 f fd ["_law_script"] (bS mg K [false] vD):=
 bH (m:=6) F nO rfl (by decide) (d:=oK DV sC D0 vp (qm 6) Cp CY) (λcdv A outer s H Ex hr=>have hu:=hr.units;af (aO 1 nO.nd (aS h0 aZ hr (aP 0 (aE (xI) a0)))) (af (aO 2 nO.nd (aT hu (aE (cK (aE (xS) (aE (xS) (aE (xS) a0)))) (aE (aS h1 aZ hr (aP 1 (aE (xI) a0))) a0)))) (af (aO 3 nO.nd (Fg h2 aZ hr (a0) (aS h0 aZ hr (aP 0 (aE (xI) a0))) (aE (xI) (aE (xI) a0)))) (af (aO 4 nO.nd (aS h3 aZ hr (aP 3 (aP 2 a0)))) (af (fh (DZ (i:=4) (bC.st (jL.pN (jT (rq (rN (qe T.kit T.isinstance T.tuple YS (aP 4 a0)))) (jT (xr hu (aE (gP T.len (aP 4 a0)) (aE (xI) a0))) (fS (rq (rN (aS h4 aZ hr (aP 4 a0)))))))))) (ak (cA (xB))) (bQ)) (af (fh (DZ (i:=4) (bC.st (jL.pN (jT (rq (rN (qe T.kit T.isinstance T.list XM (aE (aT hu (aP 4 (aE (xI) a0))) a0)))) (fS (rq (rN (qe T.kit T.isinstance T.list XM (aE (aT hu (aP 4 (aE (xI) a0))) a0))))))))) (ak (cA (xB))) (bQ)) (af (fh (DZ (i:=4) (HJ (bC.st (rN (QO T.all (aE (kg (vs:=["_law_row"]) (NB:=["_law_row"]) (ix:=[]) (by rfl) (fU (aT hu (aP 4 (aE (xI) a0)))) (λ_ _ _ _=>gN 0) (λ_ _ _ _=>.nil) (λ_ _ _ _ _=>dU (vg (qe T.kit T.isinstance T.tuple YS (aP 0 a0)) (qz (NC hu (aE (gP T.len (aP 0 a0)) (aE (xI) a0))))))) a0)))))) (ak (cA (xB))) (bQ)) (af (fh (DZ (i:=4) (HJ (bC.st (rN (aS h5 aZ hr (aP 3 (aP 2 (aP 4 a0)))))))) (ak (cA (xB))) (bQ)) (af (aO 5 nO.nd (Q7 4 T.list)) (af (cO (Ue 4)) (af (cO (Ut 4)) (af (fh (bC.st (xr hu (aE (UX (aS h3 aZ hr (aP 3 (aP 2 a0)))) (aP 5 a0)))) (ak (cA (xB))) (bQ)) (ak (cA (aS h6 aZ hr (aE (Fg h2 aZ hr (a0) (aS h0 aZ hr (aP 0 (aE (xI) a0))) (aE (xI) (aE (xI) a0))) (aP 2 a0))))))))))))))))) PB.Ij
end
def all_mk{l:OpenLaw}{w:World}{K:Frag}{h:Heap}{mg:Zr}{fa:Addr}(X:K.In h)(G:h.Ns mainGlobals mg)(hfa:mg "law"=some (.ref fa))(qd00:Rec K "_law_purse" kW)(qd01:Rec K "_law_take" mK)(qd02:Rec K "_law_pairs" lP)(qd03:Rec K "_law_order" lD)(qd04:Rec K "_law_web" oO)(qd05:Rec K "refuse_too_many" f6)(qd06:Rec K "unlike_pairs" iZ)(qd07:Rec K "first_rows" jZ)(qd08:Rec K "is_tighter" j5)(qd09:Rec K "tightest" mH)(qd10:Rec K "turned" qN)(qd11:Rec K "best_prices" jC)(qd12:Rec K "refuse_no_place" gw)(qd13:Rec K "neighbour_lists" gg)(qd14:Rec K "fars_or_none" iY)(qd15:Rec K "fars_from" lI)(qd16:Rec K "far_rows" mO)(qd17:Rec K "things_of" lF)(qd18:Rec K "nearer_end" kh)(qd19:Rec K "thing_far" k8)(qd20:Rec K "parters_by" jY)(qd21:Rec K "pairs_of" mJ)(qd22:Rec K "shares_of" lS)(qd23:Rec K "shares_judged" iF)(qd24:Rec K "_law_refused" jz)(qd25:Rec K "_law_table" kQ)(qd26:Rec K "_law_things" ki)(qd27:Rec K "_law_far" oB)(qd28:Rec K "_law_parters" jo)(qd29:Rec K "_law_parted" j8)(qd30:Rec K "_law_shown" lW)(qd31:Rec K "_law_whole" i6)(qd32:Rec K "law" Ak)(zall:nsIn K mainGlobals "all"=some none)(zbool:nsIn K mainGlobals "bool"=some none)(zenumerate:nsIn K mainGlobals "enumerate"=some none)(zint:nsIn K mainGlobals "int"=some none)(zisinstance:nsIn K mainGlobals "isinstance"=some none)(zlen:nsIn K mainGlobals "len"=some none)(zlist:nsIn K mainGlobals "list"=some none)(zmax:nsIn K mainGlobals "max"=some none)(zmin:nsIn K mainGlobals "min"=some none)(zrange:nsIn K mainGlobals "range"=some none)(zsorted:nsIn K mainGlobals "sorted"=some none)(zsum:nsIn K mainGlobals "sum"=some none)(ztuple:nsIn K mainGlobals "tuple"=some none)(zzip:nsIn K mainGlobals "zip"=some none)(gMOST_SHARED:∃t,nsIn K mainGlobals "MOST_SHARED"=some (some (.int 7 t)))(xNoPlace:Jh K "NoPlace")(xTooMany:Jh K "TooMany")(kit:yY K ["bool","int","list","tuple"]=true)(ykitL:Dd K=true)(ykx:AI K ["NoPlace","TooMany"] ["NoLooks","NoThing","TooMany","ValueError"]=true)(ykc:yo K ["NoLooks","NoThing","TooMany","ValueError"]=true)(yexHailError:yL K ["NoPlace","TooMany"] "HailError"=true)(yexTooMany:yL K ["NoPlace","TooMany"] "TooMany"=true) : ∃fd:FuncData,(∀(s:Shared)(v:Value),BindsTo s fd ⟨[v],[]⟩ [("_law_script",v)])/\∀base:Heap,K.In base->base.Ns mainGlobals mg->gu l.prog w K mg base (dS l.prog w) 8 fa fd ["_law_script"] (bS mg K [false] vD):=by have T:Txt K mg:=⟨WJ X G zall,WJ X G zbool,WJ X G zenumerate,WJ X G zint,WJ X G zisinstance,WJ X G zlen,WJ X G zlist,WJ X G zmax,WJ X G zmin,WJ X G zrange,WJ X G zsorted,WJ X G zsum,WJ X G ztuple,WJ X G zzip,(let⟨t,ht⟩:=gMOST_SHARED;⟨t,mg_of X G ht⟩),(let⟨C,h1,h2⟩:=xNoPlace;⟨C,mg_of X G h1,h2⟩),(let⟨C,h1,h2⟩:=xTooMany;⟨C,mg_of X G h1,h2⟩),kit,ykitL,ykx,ykc,yexHailError,yexTooMany,⟨h,X,G⟩⟩;obtain⟨fl,fdl,nl,Fl⟩:=qd32;have e:=hfa.symm.trans (mg_of X G nl);cases e;refine⟨fdl,?_,λbase _ _=>?_⟩;{obtain⟨_,_,_,_,_,_,_,_,_,rfl,_,_⟩:=Fl.ex;exact λs v=>.of_eq rfl};have Hd00:=zm (P:=l.prog) (w:=w) (base:=base) T qd00;have Hd01:=Az (P:=l.prog) (w:=w) (base:=base) T qd01;have Hd02:=yF T Hd01 qd02;have Hd03:=zJ T Hd01 qd03;have Hd04:=Cu T Hd01 Hd02 Hd03 qd04;have Hd05:=qH (P:=l.prog) (w:=w) (base:=base) T qd05;have Hd06:=uI (P:=l.prog) (w:=w) (base:=base) T qd06;have Hd07:=xJ (P:=l.prog) (w:=w) (base:=base) T qd07;have Hd08:=xD (P:=l.prog) (w:=w) (base:=base) T qd08;have Hd09:=An T Hd08 qd09;have Hd10:=EI (P:=l.prog) (w:=w) (base:=base) T qd10;have Hd11:=vY T Hd07 Hd09 Hd10 qd11;have Hd12:=qJ (P:=l.prog) (w:=w) (base:=base) T qd12;have Hd13:=qa (P:=l.prog) (w:=w) (base:=base) T qd13;have Hd14:=uZ T Hd13 qd14;have Hd15:=yt T Hd12 Hd14 qd15;have Hd16:=Am T Hd15 qd16;have Hd17:=zW (P:=l.prog) (w:=w) (base:=base) T qd17;have Hd18:=xE (P:=l.prog) (w:=w) (base:=base) T qd18;have Hd19:=zd T Hd18 qd19;have Hd20:=xP T Hd19 qd20;have Hd21:=Ay T Hd16 Hd17 Hd20 qd21;have Hd22:=yM T Hd05 Hd06 Hd21 Hd11 qd22;have Hd23:=tO T Hd05 qd23;have Hd24:=vG T Hd22 Hd23 qd24;have Hd25:=Ae (P:=l.prog) (w:=w) (base:=base) T qd25;have Hd26:=xC (P:=l.prog) (w:=w) (base:=base) T qd26;have Hd27:=Dh (P:=l.prog) (w:=w) (base:=base) T qd27;have Hd28:=vB T Hd27 qd28;have Hd29:=xR T Hd25 Hd26 Hd28 qd29;have Hd30:=yK T Hd29 qd30;have Hd31:=yN (P:=l.prog) (w:=w) (base:=base) T qd31;exact OA T Hd00 Hd01 Hd04 Hd22 Hd31 Hd30 Hd24 Fl
def walk{l:OpenLaw}{q:Program}{loose:A09}{XP:(Zr)->Heap->Prop}{YP:World->Heap->Prop}{d:DefRec}{K:Params->Frag}(hn:l.most=some 63)(hdf:d.params.defaults=[])(hY:∀(w:World)(h:Heap),YP w h->(K w.params).In h)(F:∀(w:World)(mg:Zr)(fa:Addr)(h:Heap),(K w.params).In h->h.Ns mainGlobals mg->mg d.name=some (.ref fa)-> ∃fd:FuncData,(∀(s:Shared)(u:Value),BindsTo s fd ⟨[u],[]⟩ [("_law_script",u)])/\∀base:Heap,(K w.params).In base->base.Ns mainGlobals mg->gu l.prog w (K w.params) mg base (dS l.prog w) 8 fa fd ["_law_script"] (bS mg (K w.params) [false] vD)) : WalkO q loose XP YP l.row.toRowW d [] (λf vs=>PySem.call f vs):=GC hn hdf ⟨rfl,by decide,by decide⟩ hY F
end PM
open PySem PySem.W PyProof.Rows Dv
set_option maxRecDepth 100000 in
set_option maxHeartbeats 0 in
theorem PySem.Challenge.cw_farhail_k47_shares_told_holds : PySem.Challenge.rw_farhail_k47_shares_told.Holds := by
 w_on;o_law;k_head;(case hw=>w_witness2)
 k_fill
 refine PM.walk (l:=PySem.Challenge.rw_farhail_k47_shares_told) rfl rfl (λw h AAB=>PySem.W.kIn_of AAB) ?F
 case F=>
  intro w mg fa h KX G hmg
  refine' PM.all_mk KX G hmg ?_ ?_ ?_ ?_ ?_ ?_ ?_ ?_ ?_ ?_ ?_ ?_ ?_ ?_ ?_ ?_ ?_ ?_ ?_ ?_ ?_ ?_ ?_ ?_ ?_ ?_ ?_ ?_ ?_ ?_ ?_ ?_ ?_ ?_ ?_ ?_ ?_ ?_ ?_ ?_ ?_ ?_ ?_ ?_ ?_ ?_ ?_ ?_ ?_ ?_ ?_ ?_ ?_ ?_ ?_ ?_
  iterate 33
   apply N7
   iterate 4 (first|k_is|kernel_rfl)
  iterate 15
   first|k_is|kernel_rfl|(apply Exists.intro;first|k_is|kernel_rfl)
  iterate 2
   apply K5
   iterate 2 (first|k_is|kernel_rfl)
  all_goals first|kernel_rfl|k_is
