import PyProof.Rows.All
import PySem.PyData
import Wide.All
import OpenK.AllK
import Wide.FinOn
import Lean
import PyProof.EqAt
import PyProof.EqKinds
import PyProof.TupleCall
import PyProof.SetKind
import PyProof.TupleKey
import PyProof.IsRules
import PyProof.SetRoads
import PyProof.RaisesMany
import PyProof.RulesTry
import PyProof.ExcClass2
import KE.KTryMore
import PyProof.RulesAs
import PyProof.NsDelKeeps
import KE.KDictList
import PyProof.P3In
import PyProof.Rows.SortShellK
import PyProof.TupleOfSeq
import PyProof.WalkInts
import PyProof.SeqI3
import PyProof.SumAnyB
import PyProof.Rows.SeqWords
import PyProof.ListRange
import PyProof.DictValues
import PyProof.DictWalks
import PySem.Challenge.RW_farhail_k19_tree_likes_told
set_option linter.all false
local macro_rules | `(tactic| ac_rfl) => `(tactic| exact ⟨rfl,rfl,rfl,by decide +kernel,rfl,by decide +kernel,by decide +kernel⟩)
local macro_rules | `(tactic| omega) => `(tactic| lia)
set_option genSizeOf false
set_option genInjectivity false
section
open PySem PySem.Spec PyProof.Rows PySem.W
def N8:=@wpAny_bind
def N9:=@List.mem_cons_self
def O0:=@wpAny_pure
def O1:=@wpS_bind
def O4:=@wpS_pure
def O5:=@Nat.le_refl
def O6:=@List.mem_cons_of_mem
def O7:=@List.length_map
def O8:=@List.mem_singleton
def O9:=@List.mem_cons
def OA:=@Bool.and_eq_true
def OB:=@Heap.lt_size
def OC:=@List.all_eq_true
def OD:=@Nat.ne_of_lt
def OF:=@Heap.get?_push_of_some
def OG:=@List.getElem?_map
def OH:=@List.all_cons
def OI:=@List.mem_map
def OJ:=@List.size_toArray
def OL:=@Nat.lt_of_lt_of_le
def OM:=@List.map_cons
def ON:=@Bool.false_ne_true
def OO:=@List.mem_of_getElem?
def OP:=@List.length_range
def OQ:=@List.getElem?_eq_getElem
def OR:=@List.length_append
def OS:=@of_decide_eq_true
def OT:=@List.mem_append
def OW:=@List.not_mem_nil
def OZ:=@Array.getElem?_toList
def Of:=@Heap.get?_push_size
end
noncomputable section
namespace PySem.W.Fast
def tw5923385111036012258:=Nat
def tw3929600422404297906:=Nat
def tw4794927529246640864:=Nat
def tw4840013431327472941:=Nat
def tw12344872408770124066:=Nat
def tw6011873734295663143:=Nat
def tw11831042614348865826:=Nat
def tw1793567587094716615:=Nat
def tw7431973349131927950:=Nat
def tw14196273988252065302:=Nat
def tw5860953641299392531:=Nat
def tw2549384235450780069:=Nat
def tw11083660742194842254:=Nat
def tw12299698997551712166:=Nat
def tw788545489333918995:=Nat
def tw17276312343654614330:=Nat
def tw14180524060563920164:=Nat
def tw10199868264366867051:=Nat
def tw1737372489443897821:=Nat
def tw8589550684630623125:=Nat
def tw4649088392939859261:=Nat
def tw14263093120296332640:=Nat
def tw15108396633641231985:=Nat
def tw10169292353886050050:=Nat
def tw8706455784322800846:=Nat
def tw2621346648803331198:=Nat
def tw400136307918956704:=Nat
def tw13331282054897144538:=Nat
def tw1039089570953612722:=Nat
def tw15472888544568879931:=Nat
def tw5507793872795034191:=Nat
def tw9739226796170770230:=Nat
def tw3617545838361333754:=Nat
def tw17905690447171233022:=Nat
def tw8705746978101888292:=Nat
def tw2120160790195690813:=Nat
def tw1821330872427171884:=Nat
def tw16188216010946880277:=Nat
def tw11021297007036443668:=Nat
def tw15747855859639422456:=Nat
def tw13206626077830627077:=Nat
def tw17640548102746568488:=Nat
def tw14342871331130773350:=Nat
def tw1285172132989292503:=Nat
def tw2024617392189899521:=Nat
def tw4221027886803586834:=Nat
def tw8452336913478915733:=Nat
def tw13199242840247009431:=Nat
def tw12977258340026092427:=Nat
def tw14316449147903483198:=Nat
def tw4574039725515585324:=Nat
def tw4822143996825589425:=Nat
def tw4331565743117443857:=Nat
def tw13834920284940778224:=Nat
def tw14107841397066099816:=Nat
def tw5308590514343750571:=Nat
def tw8533401462345820049:=Nat
def tw15033167390140512870:=Nat
def tw11324022457904359083:=Nat
def tw17552170505043556744:=Nat
def tw7816681576280720483:=Nat
def tw10559732361875270945:=Nat
def tw16319636302489302819:=Nat
def tw17201577497298745231:=Nat
def tw7921872682268087617:=Nat
def tw14040399053135388239:=Nat
def tw12646736445621432021:=Nat
def tw17235933305875086638:=Nat
def tw1338752716385272093:=Nat
def tw10258264382091287692:=Nat
def tw8692982170518765066:=Nat
def tw17653071107097938685:=Nat
def tw16948639606843526541:=Nat
def tw7613673006549528722:=Nat
def tw12088680170830616824:=Nat
def tw3359165965192383938:=Nat
def tw16091773959654888377:=Nat
def tw1384254836765447280:=Nat
def tw18159395513154630415:=Nat
def tw8350795038939378102:=Nat
def tw2638723698786518906:=Nat
def tw9052676624919322580:=Nat
def tw14225957539593975794:=Nat
def tw8141296309038463285:=Nat
def tw11400001640615551924:=Nat
def tw14337722406726071825:=Nat
def tw16621314581545310222:=Nat
def tw6624755040433295057:=Nat
def tw12613325150017227255:=Nat
def tw14502961768063095715:=Nat
def tw5834017260518413971:=Nat
def tw16115736677142111355:=Nat
def tw576544617429452583:=Nat
def tw7206317587169187169:=Nat
def tw12678024677081075406:=Nat
def tw7824090293890950162:=Nat
def tw9696456841604268250:=Nat
def tw1708939838645985227:=Nat
def tw6778481616079277676:=Nat
def tw14577227412014121980:=Nat
def tw6354017318210717969:=Nat
def tw15941782549836688514:=Nat
def tw13587626402570836537:=Nat
def tw4792256525733658479:=Nat
def tw7058538052514372300:=Nat
def tw11712237521883674154:=Nat
def tw18014818399938112096:=Nat
def tw840174370716959919:=Nat
def tw1640244563758802207:=Nat
def tw4796245913185156196:=Nat
def tw2885821155485631705:=Nat
def tw8784589347262200908:=Nat
def tw13954575965984469423:=Nat
def tw7970626169165092702:=Nat
def tw8861472395186130559:=Nat
def tw12249680207296624192:=Nat
def tw535177532733967630:=Nat
def tw6227124705496147083:=Nat
def tw12952116884505004462:=Nat
def tw17118807333788130807:=Nat
def tw3582828241696439406:=Nat
def tw7140392102884004694:=Nat
def tw16999907516885712305:=Nat
def tw727404840637644849:=Nat
def tw16866446720540979652:=Nat
def tw7277750796890714706:=Nat
def tw4373893398348704416:=Nat
def tw12026209015119389481:=Nat
def tw15574745312916329333:=Nat
def tw183723961588400553:=Nat
def tw380028534821619103:=Nat
def tw7763428246768320373:=Nat
def tw17322865382955296942:=Nat
def tw3543827977503302415:=Nat
def tw4602999764877796741:=Nat
def tw4352841789189675603:=Nat
def tw16188555174688081003:=Nat
def tw14914673949250948129:=Nat
def tw10850164727399217739:=Nat
def tw2325204801854388025:=Nat
def tw3661676316524561834:=Nat
def tw17591378759394564466:=Nat
def tw11177632616755387577:=Nat
def tw10394965089004270271:=Nat
def tw3031935859523412905:=Nat
def tw4629743876797670967:=Nat
def tw7054346936661884624:=Nat
def tw6941726550924085282:=Nat
def tw16395711145937913687:=Nat
def tw5277111835026576474:=Nat
def tw5370730009716342785:=Nat
def tw4191507634396305612:=Nat
def tw16139557059848110910:=Nat
def tw6869578731858227426:=Nat
def tw7250246072765788824:=Nat
def tw11098668275326463436:=Nat
def tw124194140687163036:=Nat
def tw9045678685070803350:=Nat
def tw9336760575360142503:=Nat
def tw9914348305277585124:=Nat
end PySem.W.Fast
set_option Elab.async false
set_option linter.all false
set_option maxHeartbeats 4000000
set_option maxRecDepth 100000
namespace Dv
open PySem
inductive Kd where
 | sh | ow (p:Bool) | dp (p:Bool) | dk (p:Bool) | dt (p:Bool) | st (p:Bool)
 deriving DecidableEq
def kC (n:Nat) (i:Int):Option Nat:=if 0<=i then (if i < n then some i.toNat else none) else if -(n:Int)<=i then some (i + n).toNat else none
def jk:PyData->Bool
 | .int _ | .str _=>true
 | _=>false
noncomputable instance N7:DecidableEq PyData:=fun a b=>Classical.propDecidable (a=b)
noncomputable def cE (kvs:List (PyData×PyData))(k:PyData):Option PyData:=(kvs.find? fun kv=>decide (kv.1=k)).map (·.2)
noncomputable def putD (kvs:List (PyData×PyData))(k v:PyData):List (PyData×PyData):=if (kvs.any fun kv=>decide (kv.1=k))=true then kvs.map (fun kv=>if kv.1=k then (kv.1,v) else kv) else kvs++[(k,v)]
abbrev En:=List (Option (Kd×PyData))
abbrev XC:=Str->PyData->Prop
abbrev xF:XC:=fun _ _=>False
abbrev DE:=XC->En->(En->Kd->PyData->Prop)->Prop
abbrev DT:=XC->En->(En->Bool->Prop)->Prop
abbrev DI:=XC->En->(En->List PyData->Prop)->Prop
structure bO where
 nx:En->Prop
 rt:En->Kd->PyData->Prop
 xc:XC
abbrev DS:=bO->En->Prop
abbrev bC:=List PyData->(List PyData->Kd->PyData->Prop)->XC->Prop
def lf:PyData->Bool
 | .none | .bool _ | .int _ | .str _=>true
 | .tuple ds=>lfs ds
 | .list _ | .dict _=>false
where lfs:List PyData->Bool
 | []=>true
 | d::ds=>lf d && lfs ds
theorem oE:∀ ds:List PyData,lf.lfs ds=ds.all lf
 | []=>by rw [lf.lfs];rfl
 | d::ds=>by rw [lf.lfs,oE ds];rfl
def Bq:PyData->Bool
 | .list _=>true
 | _=>false
def flat:Kd->PyData->Bool
 | .sh,d=>lf d
 | .ow _,.list ds=>ds.all lf
 | .dp _,.list ds=>ds.all fun d=>match d with | .list es=>es.all lf | d=>lf d
 | .dk _,.dict kvs=>kvs.all fun kv=>lf kv.2
 | .dt _,.dict kvs=>kvs.all fun kv=>lf kv.2
 | _,_=>false
def Kd.fz:Kd->Bool
 | .sh | .ow false | .dp false | .dk false | .dt false=>true
 | _=>false
def Kd.rd:Kd->Bool
 | .st _=>false
 | _=>true
def Kd.pin:Kd->Bool
 | .ow p | .dp p | .dk p | .dt p | .st p=>p
 | .sh=>false
def cg (E:En) (i:Nat):Option En:=match E[i]? with
 | some (some (k,d))=>if k.fz then some (E.set i (some (.sh,d))) else none
 | _=>none
def cG:List Nat->En->Option En
 | [],E=>some E
 | i::r,E=>(cg E i).bind (cG r)
inductive Arg where
 | pk (i:Nat) | ev (d:DE)
def fR:List Arg->List Nat
 | []=>[]
 | .pk i::r=>i::fR r
 | .ev _::r=>fR r
def here (E:En) (i:Nat):Bool:=match E[i]? with
 | some (some _)=>true
 | _=>false
def gp:List Arg->XC->En->(En->List (Option PyData)->Prop)->Prop
 | [],_,E,Q=>Q E []
 | .pk i::r,x,E,Q=>here E i=true/\gp r x E fun E' os=>Q E' (none::os)
 | .ev d::r,x,E,Q=>d x E fun E1 k v=>k.fz=true/\gp r x E1 fun E' os=>Q E' (some v::os)
def fill:List Arg->En->List (Option PyData)->Option (List PyData)
 | [],_,[]=>some []
 | .pk i::r,E,none::os=>match E[i]? with
  | some (some (k,d))=>if k.rd then (fill r E os).map (d::·) else none
  | _=>none
 | .ev _::r,E,some v::os=>(fill r E os).map (v::·)
 | _,_,_=>none
def kN (E:En) (i:Nat):Bool:=match E[i]? with
 | some (some (.sh,_))=>true
 | _=>false
theorem uw {E:En}:∀ {is:List Nat},is.all (kN E)=true->cG is E=some E
 | [],_=>rfl
 | i::r,h=>by
  rw [OH,OA] at h;have e:cg E i=some E:=by
   have h1:=h.1;unfold kN at h1;unfold cg;split at h1
   ·rename_i d e;rw [e];show some (E.set i (some (.sh,d)))=some E;congr 1;refine List.ext_getElem? fun j=>?_
    rw [List.getElem?_set]
    by_cases c:i=j
    ·subst c;rw [if_pos rfl,e];have l:i < E.length:=by
      rcases Nat.lt_or_ge i E.length with z | z
      ·exact z
      ·rw [List.getElem?_eq_none z] at e;cases e
     rw [if_pos l]
    ·rw [if_neg c]
   ·cases h1
  show (cg E i).bind (cG r)=some E;rw [e];exact uw h.2
def A0 (as:List Arg)(E:En)(k:Kd)(v:PyData):Option En:=if ((fR as).all (kN E) || flat k v)=true then some E else cG (fR as) E
def vh {is:List Nat}{E E2:En}{b:Bool}(h:(if (is.all (kN E) || b)=true then some E else cG is E)=some E2):(if b=true then some E else cG is E)=some E2:=by
 cases hs:is.all (kN E) with
 | true =>
  rw [hs,Bool.true_or,if_pos rfl] at h;rw [uw hs,h,ite_self]
 | false =>
  rw [hs,Bool.false_or] at h;exact h
abbrev DR:=List PyData->(Kd->PyData->Prop)->Prop
def aa (r:DR)(as:List Arg):DE:=fun x E Q=>gp as x E fun E1 os=>∃ ds,fill as E1 os=some ds/\r ds fun k v=>∃ E2,A0 as E1 k v=some E2/\Q E2 k v
def dC (v:PyData):DE:=fun _ E Q=>Q E .sh v
def aT (i:Nat):DE:=fun _ E Q=>∃ k d E',E[i]?=some (some (k,d))/\cg E i=some E'/\Q E' .sh d
def gg:List Bool->List Arg->List PyData->En->Option En
 | [],[],[],E=>some E
 | false::ms,_::r,us,E=>gg ms r us E
 | true::ms,.pk i::r,u::us,E=>match E[i]? with
  | some (some (.ow p,.list _))=>if Bq u then gg ms r us (E.set i (some (.ow p,u))) else none
  | _=>none
 | _,_,_,_=>none
def lent:List Bool->List Arg->List Nat
 | true::ms,.pk i::r=>i::lent ms r
 | _::ms,_::r=>lent ms r
 | _,_=>[]
def kept:List Bool->List Arg->List Nat
 | false::ms,.pk i::r=>i::kept ms r
 | _::ms,_::r=>kept ms r
 | _,_=>[]
def shape:List Bool->List Arg->Bool
 | [],[]=>true
 | true::ms,.pk _::r=>shape ms r
 | false::ms,_::r=>shape ms r
 | _,_=>false
def nV (ms:List Bool)(as:List Arg)(E:En):Bool:=shape ms as && decide (lent ms as).Nodup && (lent ms as).all (fun i=>!(kept ms as).contains i && (match E[i]? with | some (some (.ow _,.list _))=>true | _=>false))
def qi (ms:List Bool)(as:List Arg)(us:List PyData)(E:En)(k:Kd)(v:PyData):Option En:=if ((kept ms as).all (kN E) || (flat k v && us.all (flat (.ow false))))=true then some E else cG (kept ms as) E
def aH (sp:bC)(ms:List Bool)(as:List Arg):DE:=fun x E Q=>gp as x E fun E1 os=>∃ ds,fill as E1 os=some ds/\nV ms as E1=true/\sp ds (fun us k v=>∃ E2 E3,gg ms as us E1=some E2/\qi ms as us E2 k v=some E3/\Q E3 k v) x
def jT:PyData->Option Bool
 | .bool b=>some b
 | .int i=>some (!decide (i=0))
 | .none=>some false
 | .str _=>none
 | .list ds=>some !ds.isEmpty
 | .tuple ds=>some !ds.isEmpty
 | .dict _=>none
def cK (d:DE):DT:=fun x E Q=>d x E fun E' _ v=>∃ b,jT v=some b/\Q E' b
def xC (i:Nat):DT:=fun _ E Q=>∃ k d b,E[i]?=some (some (k,d))/\k.rd=true/\jT d=some b/\Q E b
def v7 (t:DT):DT:=fun x E Q=>t x E fun E' b=>Q E' (!b)
def LD (a b:DE):DE:=fun x E Q=>a x E fun E1 _ v=>∃ c,v=.bool c/\if c=true then b x E1 Q else Q E1 .sh (.bool false)
def rj (a b:DE):DE:=fun x E Q=>a x E fun E1 _ v=>∃ c,v=.bool c/\if c=true then Q E1 .sh (.bool true) else b x E1 Q
def vd (a:DE):DE:=fun x E Q=>a x E fun E1 _ v=>∃ c,jT v=some c/\Q E1 .sh (.bool !c)
def lP (f f':Int->Int->Bool)(a b c:DE):DE:=fun x E Q=>a x E fun E1 _ u=>∃ i,u=.int i/\b x E1 fun E2 _ v=>∃ j,v=.int j/\if f i j=true then c x E2 fun E3 _ w=>∃ k,w=.int k/\Q E3 .sh (.bool (f' j k)) else Q E2 .sh (.bool false)
def CU (c:DT)(a b:DE):DE:=fun x E Q=>c x E fun E1 t=>if t=true then a x E1 Q else b x E1 Q
def eO:DS:=fun D E=>D.nx E
def av (a b:DS):DS:=fun D E=>a { D with nx:=b D } E
def AL (a b:DS):DS:=fun D E=>∃ J:En->Prop,a { D with nx:=J } E/\∀ E',J E'->b D E'
def dQ (c:DT)(a b:DS):DS:=fun D E=>c D.xc E fun E1 t=>if t=true then a D E1 else b D E1
def bP (E:En) (i:Nat):Bool:=match E[i]? with
 | some (some (k,_))=>!k.pin
 | some none=>true
 | none=>false
def aJ (i:Nat)(e:DE):DS:=fun D E=>e D.xc E fun E' k v=>bP E' i=true/\D.nx (E'.set i (some (k,v)))
inductive Tg where
 | nm (i:Nat) | tp (is:List Nat)
def Tg.slots:Tg->List Nat
 | .nm i=>[i]
 | .tp is=>is
def bQ:List Nat->List PyData->En->Option En
 | [],[],E=>some E
 | i::is,d::ds,E=>if bP E i then bQ is ds (E.set i (some (.sh,d))) else none
 | _,_,_=>none
def b7:Tg->PyData->En->Option En
 | .nm i,d,E=>bQ [i] [d] E
 | .tp is,.tuple ds,E=>bQ is ds E
 | _,_,_=>none
def m6 (is:List Nat)(e:DE):DS:=fun D E=>e D.xc E fun E' k v=>∃ E2,k.fz=true/\b7 (.tp is) v E'=some E2/\D.nx E2
def bR (e:DE):DS:=fun D E=>e D.xc E D.rt
def iJ (i:Nat):DS:=fun D E=>∃ k d,E[i]?=some (some (k,d))/\k.pin=false/\D.rt (E.set i none) k d
def qk (E:En) (i:Nat):Bool:=match E[i]? with
 | some (some (.ow _,.list _))=>true
 | _=>false
abbrev DM:=List PyData->List PyData->(List PyData->PyData->Prop)->Prop
def oY (f:DM) (i:Nat)(es:List DE):DE:=fun x E Q=>qk E i=true/\gp (es.map .ev) x E fun E1 os=>∃ args p ds,fill (es.map .ev) E1 os=some args/\E1[i]?=some (some (.ow p,.list ds))/\f ds args fun new v=>Q (E1.set i (some (.ow p,.list new))) .sh v
def iP:List (PyData×PyData)->Bool
 | (.none,_)::_=>false
 | _=>true
noncomputable def f7 (i:Nat)(j:DE)(e:DE):DS:=fun D E=>e D.xc E fun E1 k v=>(k.fz=true/\here E1 i=true)/\j D.xc E1 fun E2 k2 w=>k2.fz=true/\setI E2 i w v D.nx
where setI (E:En) (i:Nat)(w v:PyData)(Q:En->Prop):Prop:=match E[i]?,w with
 | some (some (.ow p,.list ds)),.int a=>∃ n,kC ds.length a=some n/\Q (E.set i (some (.ow p,.list (ds.set n v))))
 | some (some (.dk p,.dict kvs)),w=>(jk w=true/\kvs.length < 16777216)/\Q (E.set i (some (.dk p,.dict (putD kvs w v))))
 | some (some (.dt p,.dict (_::kvs))),.tuple ks=>(ks.all jk=true/\kvs.length < 16777216)/\Q (E.set i (some (.dt p,.dict ((.none,.none)::putD kvs (.tuple ks) v))))
 | _,_=>False
def DZ (f:Int->Int->Int) (i:Nat)(e:DE):DS:=fun D E=>here E i=true/\e D.xc E fun E1 _ v=>∃ k a b,E1[i]?=some (some (k,.int a))/\v=.int b/\D.nx (E1.set i (some (.sh,.int (f a b))))
def qd (f:DM) (i:Nat)(j:DE) (n:Nat):DE:=fun x E Q=>here E i=true/\j x E fun E1 _ w=>∃ a p ds m es k d E2,w=.int a/\E1[i]?=some (some (.dp p,.list ds))/\kC ds.length a=some m/\ds[m]?=some (.list es)/\E1[n]?=some (some (k,d))/\i≠n/\cg E1 n=some E2/\f es [d] fun new v=>Q (E2.set i (some (.dp p,.list (ds.set m (.list new))))) .sh v
def nj (c:Str):DS:=fun D _=>D.xc c .none
def d9 (e:DE):DS:=fun D E=>e D.xc E fun E' _ _=>D.nx E'
def eY (it:DI)(tg:Tg)(b:DS):DS:=fun D E=>it D.xc E fun E1 xs=>∃ I:Nat->En->Prop,I 0 E1/\(∀ i d E,xs[i]?=some d->I i E->∃ E2,b7 tg d E=some E2/\b { D with nx:=I (i + 1) } E2)/\∀ E,I xs.length E->D.nx E
def nO (c:DT)(b:DS):DS:=fun D E=>∃ W:Nat->En->Prop,(∃ m,W m E)/\∀ m E,W m E->c D.xc E fun E1 t=>if t=true then b { D with nx:=fun E'=>∃ m',m' < m/\W m' E' } E1 else D.nx E1
def items:PyData->Option (List PyData)
 | .list ds=>some ds
 | .tuple ds=>some ds
 | _=>none
def iE (e:DE):DI:=fun x E Q=>e x E fun E' k v=>k.fz=true/\∃ ds,items v=some ds/\Q E' ds
def ku (g:List PyData->Option (List PyData))(as:List Arg):DI:=fun x E Q=>gp as x E fun E1 os=>∃ ds xs,fill as E1 os=some ds/\g ds=some xs/\Q E1 xs
def iG (ds:List PyData):List PyData:=ds.zipIdx.map fun p=>.tuple [.int p.2,p.1]
def yL (e:DE):DI:=fun x E Q=>e x E fun E' k v=>k.fz=true/\∃ ds,v=.list ds/\Q E' (iG ds)
def yz (a b:DE):DI:=fun x E Q=>a x E fun E1 k v=>k.fz=true/\b x E1 fun E2 k2 v2=>k2.fz=true/\∃ ds es,v=.list ds/\v2=.list es/\Q E2 ((ds.zip es).map fun p=>.tuple [p.1,p.2])
def aU:List Nat->En->Option En
 | [],E=>some E
 | i::r,E=>if bP E i then aU r (E.set i none) else none
abbrev DC:=XC->List PyData->En->(List PyData->En->Prop)->Prop
def eX:DT:=fun _ E Q=>Q E true
def cF (most:Nat)(e:DE):DC:=fun x ys E Q=>e x E fun E1 k v=>k.fz=true/\ys.length < most/\Q (ys++[v]) E1
def NK (it:DI)(tg:Tg)(c:DT)(r:DC):DC:=fun x ys E Q=>it x E fun E1 xs=>∃ I:Nat->List PyData->En->Prop,I 0 ys E1/\(∀ i d ys E,xs[i]?=some d->I i ys E->∃ E2,b7 tg d E=some E2/\c x E2 fun E3 b=>if b=true then r x ys E3 (I (i + 1)) else I (i + 1) ys E3)/\∀ ys E,I xs.length ys E->Q ys E
def cu (cs:List Nat)(it:DI)(tg:Tg)(c:DT)(r:DC):DE:=fun x E Q=>it x E fun E1 xs=>∃ (E0:En)(I:Nat->List PyData->En->Prop),aU cs E1=some E0/\I 0 [] E0/\(∀ i d ys E,xs[i]?=some d->I i ys E->∃ E2,b7 tg d E=some E2/\c xF E2 fun E3 b=>if b=true then r xF ys E3 (I (i + 1)) else I (i + 1) ys E3)/\∀ ys E,I xs.length ys E->∃ E2,aU cs E=some E2/\Q E2 (.ow false) (.list ys)
def nC (most:Nat)(cs:List Nat)(it:DI)(tg:Tg)(c:DT)(e:DE):DE:=fun x E Q=>it x E fun E1 xs=>∃ (E0:En)(I:Nat->List PyData->En->Prop),aU cs E1=some E0/\I 0 [] E0/\(∀ i d ys E,xs[i]?=some d->I i ys E->∃ E2,b7 tg d E=some E2/\c xF E2 fun E3 b=>if b=true then e xF E3 (fun E4 k v=>(∃ p,k=.ow p)/\ys.length < most/\I (i + 1) (ys++[v]) E4) else I (i + 1) ys E3)/\∀ ys E,I xs.length ys E->∃ E2,aU cs E=some E2/\Q E2 (.dp false) (.list ys)
def ji (lo:Int) (n:Nat):List PyData:=(List.range n).map fun i:Nat=>PyData.int (lo + i)
end Dv
namespace L2
open PySem PySem.Spec PyProof.Rows
abbrev Key:=Sum Int Str
def nX:Key->Value->Bool
 | .inl k,v=>Value.isInt k v
 | .inr x,v=>Value.isStrOf x v
def M7 (w:World):Key->Int
 | .inl k=>hashInt k
 | .inr x=>hashStr w x
def cL:∀ {k:Key}{v:Value},nX k v=true->(∃ i t,k=Sum.inl i/\v=Value.int i t)\/(∃ x t,k=Sum.inr x/\v=Value.str x t)
 | .inl i,v,h=>by
  obtain ⟨t,e⟩:=Value.isInt_shape (k:=i) (v:=v) h;exact .inl ⟨i,t,rfl,e⟩
 | .inr x,v,h=>by
  obtain ⟨t,e⟩:=Value.isStrOf_shape (x:=x) (v:=v) h;exact .inr ⟨x,t,rfl,e⟩
def Cg (i:Int)(t:Tok):nX (.inl i) (.int i t)=true:=by simp [nX,Value.isInt]
def AY (x:Str)(t:Tok):nX (.inr x) (.str x t)=true:=by simp [nX,Value.isStrOf]
def KU (a b:Int):decide ((Sum.inl a:Key)=Sum.inl b)=(a == b):=by
 by_cases e:a=b
 ·subst e;simp
 ·have h:¬ (Sum.inl a:Key)=Sum.inl b:=fun q=>e (Sum.inl.inj q)
  rw [decide_eq_false h];exact (beq_eq_false_iff_ne.mpr e).symm
def Lp (a b:Str):decide ((Sum.inr a:Key)=Sum.inr b)=decide (a=b):=by
 by_cases e:a=b
 ·subst e;simp
 ·have h:¬ (Sum.inr a:Key)=Sum.inr b:=fun q=>e (Sum.inr.inj q)
  rw [decide_eq_false h,decide_eq_false e]
def KH (a:Int) (b:Str):decide ((Sum.inl a:Key)=Sum.inr b)=false:=decide_eq_false (fun q=>nomatch q)
def Lw (a:Str) (b:Int):decide ((Sum.inr a:Key)=Sum.inl b)=false:=decide_eq_false (fun q=>nomatch q)
def b8 (prog:Program)(w:World):PySem.KeyKind prog w Key where
 is:=nX
 hash:=M7 w
 inj:=fun v a b ha hb=>by
  rcases cL ha with ⟨i,t,rfl,rfl⟩ | ⟨x,t,rfl,rfl⟩
  ·rcases cL hb with ⟨j,u,rfl,e⟩ | ⟨y,u,rfl,e⟩
   ·injection e with e1 _;rw [e1]
   ·exact nomatch e
  ·rcases cL hb with ⟨j,u,rfl,e⟩ | ⟨y,u,rfl,e⟩
   ·exact nomatch e
   ·injection e with e1 _;rw [e1]
 byValue:=fun k v h=>by
  rcases cL h with ⟨i,t,rfl,rfl⟩ | ⟨x,t,rfl,rfl⟩ <;> rfl
 pyHash:=fun hv h=>by
  rcases cL hv with ⟨i,t,rfl,rfl⟩ | ⟨x,t,rfl,rfl⟩
  ·exact wpAny_pyHash_int h
  ·exact wpAny_pyHash_str h
 eqBool:=fun hu hv h=>by
  rcases cL hu with ⟨i,t,rfl,rfl⟩ | ⟨x,t,rfl,rfl⟩
  ·rcases cL hv with ⟨j,u,rfl,rfl⟩ | ⟨y,u,rfl,rfl⟩
   ·rw [KU] at h;exact wpAny_eqBool_int h
   ·rw [KH] at h;exact SeqAt.EqAt.int_str i t y u _ _ _ _ h
  ·rcases cL hv with ⟨j,u,rfl,rfl⟩ | ⟨y,u,rfl,rfl⟩
   ·rw [Lw] at h;exact SeqAt.EqAt.str_int x t j u _ _ _ _ h
   ·rw [Lp] at h;exact wpAny_eqBool_str h
 «strs»:=fun k x t v h=>by
  rcases cL h with ⟨i,u,rfl,e⟩ | ⟨y,u,rfl,e⟩
  ·exact nomatch e
  ·injection e with e1 _
   subst e1;cases v <;> rfl
def yg (prog:Program)(w:World) (i:Int)(t:Tok):(b8 prog w).is (.inl i) (.int i t)=true:=Cg i t
def x8 (prog:Program)(w:World) (x:Str)(t:Tok):(b8 prog w).is (.inr x) (.str x t)=true:=AY x t
set_option genInjectivity true in
inductive V where
 | aY | bl (b:Bool) | int (i:Int) | str (x:Str) | lC (b:Array UInt8) | zD (b:UInt64) | ref (a:Addr) | ty (n:String)
 deriving DecidableEq
def RelV:V->Value->Prop
 | .aY,u=>u=Value.none
 | .bl b,u=>u=Value.bool b
 | .int i,u=>∃ t,u=Value.int i t
 | .str x,u=>∃ t,u=Value.str x t
 | .lC b,u=>∃ t,u=Value.bytes b t
 | .zD b,u=>∃ t,u=Value.float b t
 | .ref a,u=>u=Value.ref a
 | .ty n,u=>u=Value.type n
abbrev Vals:List V->List Value->Prop:=Paired RelV
theorem Vals.length {xs:List V}{us:List Value}(r:Vals xs us):xs.length=us.length:=Paired.length r
theorem Vals.get:∀ {xs:List V}{us:List Value}{i:Nat}{x:V},Vals xs us->xs[i]?=some x->∃ u,us[i]?=some u/\RelV x u
 | _,_,_,_,.nil,e=>by simp at e
 | _,_,0,_,.cons r _,e=>by simp at e;subst e;exact ⟨_,rfl,r⟩
 | _,_,i + 1,x,.cons _ t,e=>by
  obtain ⟨u,h1,h2⟩:=Vals.get (i:=i) (x:=x) t (by simpa using e)
  exact ⟨u,by simpa using h1,h2⟩
theorem Vals.set {x:V}{u:Value}(r:RelV x u):∀ {xs:List V}{us:List Value} (i:Nat),Vals xs us->Vals (xs.set i x) (us.set i u)
 | _,_,_,.nil=>.nil
 | _,_,0,.cons _ t=>.cons r t
 | _,_,i + 1,.cons q t=>.cons q (Vals.set r i t)
theorem Vals.append:∀ {xs ys:List V}{us ws:List Value},Vals xs us->Vals ys ws->Vals (xs++ys) (us++ws)
 | _,_,_,_,.nil,s=>s
 | _,_,_,_,.cons r t,s=>.cons r (Vals.append t s)
theorem Vals.take:∀ {xs:List V}{us:List Value} (n:Nat),Vals xs us->Vals (xs.take n) (us.take n)
 | _,_,0,_=>.nil
 | _,_,_ + 1,.nil=>.nil
 | _,_,n + 1,.cons r t=>.cons r (Vals.take n t)
theorem Vals.drop:∀ {xs:List V}{us:List Value} (n:Nat),Vals xs us->Vals (xs.drop n) (us.drop n)
 | _,_,0,r=>r
 | _,_,_ + 1,.nil=>.nil
 | _,_,n + 1,.cons _ t=>Vals.drop n t
def jb:Option V->Option Value->Prop
 | some v,some u=>RelV v u
 | none,none=>True
 | _,_=>False
def KV {κ:Type}:List (κ×V)->List (κ×Value)->Prop:=Paired fun (p:κ×V)(q:κ×Value)=>p.1=q.1/\RelV p.2 q.2
def kV:Key->V
 | .inl i=>.int i
 | .inr x=>.str x
inductive HO where
 /-- a list -/
 | lst (xs:List V)
 /-- a tuple (never changes) -/
 | tup (xs:List V)
 /-- a dict whose keys are ints and texts;one whose keys are tuples of ints and texts (the empty one is both) -/
 | dK (kvs:List (Key×V)) | dT (kvs:List (List Key×V))
 /-- a set of ints: its members,its size -/
 | set (S:Int->Bool) (n:Nat)
 /-- an instance of the class at C,its dict at dx,its attributes -/
 | ins (C dx:Addr)(fs:List (Str×V))
 /-- the dict of the instance at x -/
 | own (x:Addr)
 /-- the dict of an exception -/
 | xd (fs:List (Str×V))
 /-- a bound method,f of x -/
 | met (f x:Addr)
 /-- a range object lo,lo + 1,.. below hi -/
 | oO (lo hi:Int)
 /-- a thing that is known to the object (the script;a dict while a loop walks it): read,never written while it is so -/
 | bY (o:Obj)(u:HO)
 /-- a code object's table -/
 | sY (ps:Array Value)
 /-- any other thing,by what is true of its one object (a def of one's own: SetO a S n:=HO.ext fun h=>..) -/
 | ext (φ:Heap->Prop)
abbrev Hp:=Addr->Option HO
def upd (H:Hp)(a:Addr)(o:HO):Hp:=fun b=>if b=a then some o else H b
def aq {H:Hp}{a:Addr}{o:HO}:upd H a o a=some o:=by unfold upd;rw [if_pos rfl]
def ai {H:Hp}{a b:Addr}{o:HO}(h:b≠a):upd H a o b=H b:=by unfold upd;rw [if_neg h]
def zO {H:Hp}{a b:Addr}{o u:HO}(h:H a=some o)(h':H b=some u)(d:o≠u):a≠b:=by
 intro e;subst e;rw [h] at h';exact d (Option.some.inj h')
def fD {H:Hp}{a b:Addr}{o:HO}(h:H a=some o)(h':H b=none):a≠b:=by
 intro e;subst e;rw [h] at h';cases h'
section
variable (P:Program)(w:World)
def bf (H:Hp)(h:Heap)(a:Addr):HO->Prop
 | .lst xs=>xs.length<=sizeLine/\∃ (its:List Value) (n:Nat),Vals xs its/\h.get? a=some { cls:=.type "list",data:=.seq its.toArray n }
 | .tup xs=>xs.length<=sizeLine/\∃ its:List Value,Vals xs its/\IsTup h a its.toArray
 | .dK kvs=>kvs.length<=sizeLine/\(a == sysModules)=false/\∃ vs,KV kvs vs/\h.DictOf (b8 P w) a vs
 | .dT kvs=>kvs.length<=sizeLine/\(a == sysModules)=false/\∃ xs:List (List Key×Addr×Value),
   Paired (fun (p:List Key×V)(q:List Key×Addr×Value)=>p.1=q.1/\H q.2.1=some (.tup (p.1.map kV))/\RelV p.2 q.2.2) kvs xs /\
   ∃ o es ep,h.get? a=some o/\o.ExactDict/\o.data=.dict es ep/\es.toList=xs.map (entryOfKey (tupleKind (b8 P w)))/\(xs.map (·.1)).Nodup
 | .set S n=>h.SetOf (intKind P w) a S n
 | .ins C dx fs=>H dx=some (.own a)/\fs.length<=1000/\dx≠a/\h.get? a=some (PySem.W.instObj C dx) /\
   ∃ mA,h.Ns1 dx mA/\(∀ f,jb (fs.lookup f) (mA f))/\PySem.Within mA (fs.map (·.1))
 | .own _=>∃ o,h.get? a=some o
 | .xd fs=>∃ mA,h.Ns1 a mA/\∀ f,jb (fs.lookup f) (mA f)
 | .oO lo hi=>∃ t u v,h.get? a=some { cls:=.type "range",data:=.fields #[.int lo t,.int hi u,.int 1 v] }
 | .bY o u=>h.get? a=some o/\bf H h a u
 | .sY ps=>h.get? a=some { cls:=.none,data:=.fields ps }
 | .met f x=>h.get? a=some (PySem.W.methodObj (.ref f) (.ref x))
 | .ext φ=>φ h/\(∃ o,h.get? a=some o)/\∀ h1 h2:Heap,φ h1->(∀ o,h1.get? a=some o->h2.get? a=some o)->φ h2
def cS (H:Hp)(h:Heap):Prop:=∀ a o,H a=some o->bf P w H h a o
end
section
variable {P:Program}{w:World}{H H':Hp}{h h':Heap}{a:Addr}{o:HO}
theorem bf.lt (x:bf P w H h a o):a < h.objs.size:=by
 cases o with
 | lst xs=>obtain ⟨_,_,_,_,e⟩:=x;exact OB e
 | tup xs=>obtain ⟨_,_,_,p⟩:=x;exact p.lt
 | dK kvs=>obtain ⟨_,_,_,_,o,_,_,e,_⟩:=x;exact OB e
 | dT kvs=>obtain ⟨_,_,_,_,o,_,_,e,_⟩:=x;exact OB e
 | set S n=>obtain ⟨o,_,_,_,e,_⟩:=x;exact OB e
 | ins C dx fs=>obtain ⟨_,_,_,e,_⟩:=x;exact OB e
 | own y=>obtain ⟨_,e⟩:=x;exact OB e
 | xd fs=>obtain ⟨_,⟨_,_,_,e,_⟩,_⟩:=x;exact OB e
 | oO lo hi=>obtain ⟨_,_,_,e⟩:=x;exact OB e
 | bY ob u=>obtain ⟨e,_⟩:=x;exact OB e
 | sY ps=>exact OB (show h.get? a=some _ from x)
 | met f y=>exact OB (show h.get? a=some _ from x)
 | ext φ=>obtain ⟨_,⟨_,e⟩,_⟩:=x;exact OB e
theorem Paired.Ad {α β:Type}{F G:α->β->Prop}:∀ {l₁:List α}{l₂:List β},Paired F l₁ l₂->(∀ a b,F a b->G a b)->Paired G l₁ l₂
 | _,_,.nil,_=>.nil
 | _,_,.cons r t,f=>.cons (f _ _ r) (Paired.Ad t f)
def bf.stay (x:bf P w H h a o)(k:∀ b u,(b=a\/H b=some (.own a))->h.get? b=some u->h'.get? b=some u)
  (ho:∀ b,H b=some (.own a)->H' b=some (.own a))(ht:∀ b xs,H b=some (.tup xs)->H' b=some (.tup xs)):bf P w H' h' a o:=by
 induction o with
 | lst xs=>obtain ⟨z,its,n,r,e⟩:=x;exact ⟨z,its,n,r,k _ _ (.inl rfl) e⟩
 | tup xs=>obtain ⟨z,its,r,ob,e,c⟩:=x;exact ⟨z,its,r,ob,k _ _ (.inl rfl) e,c⟩
 | dK kvs=>obtain ⟨z,y,vs,r,ob,es,ep,e,c⟩:=x;exact ⟨z,y,vs,r,ob,es,ep,k _ _ (.inl rfl) e,c⟩
 | dT kvs =>
  obtain ⟨z,y,xs,r,ob,es,ep,e,c⟩:=x;exact ⟨z,y,xs,Paired.Ad r fun p q z=>⟨z.1,ht _ _ z.2.1,z.2.2⟩,ob,es,ep,k _ _ (.inl rfl) e,c⟩
 | set S n=>obtain ⟨ob,es,ep,t,e,c⟩:=x;exact ⟨ob,es,ep,t,k _ _ (.inl rfl) e,c⟩
 | ins C dx fs =>
  obtain ⟨d,z,ne,e,mA,⟨od,es,ep,e2,c⟩,r⟩:=x;exact ⟨ho _ d,z,ne,k _ _ (.inl rfl) e,mA,⟨od,es,ep,k _ _ (.inr d) e2,c⟩,r⟩
 | own y=>obtain ⟨ob,e⟩:=x;exact ⟨ob,k _ _ (.inl rfl) e⟩
 | xd fs=>obtain ⟨mA,⟨od,es,ep,e,c⟩,r⟩:=x;exact ⟨mA,⟨od,es,ep,k _ _ (.inl rfl) e,c⟩,r⟩
 | oO lo hi=>obtain ⟨t,u,v,e⟩:=x;exact ⟨t,u,v,k _ _ (.inl rfl) e⟩
 | bY ob u ih=>obtain ⟨e,q⟩:=x;exact ⟨k _ _ (.inl rfl) e,ih q⟩
 | sY ps =>
  have e:h.get? a=some { cls:=.none,data:=.fields ps }:=x;show h'.get? a=some { cls:=.none,data:=.fields ps };exact k a _ (.inl rfl) e
 | met f y =>
  have e:h.get? a=some (PySem.W.methodObj (.ref f) (.ref y)):=x;show h'.get? a=some (PySem.W.methodObj (.ref f) (.ref y));exact k a _ (.inl rfl) e
 | ext φ=>obtain ⟨p,⟨o,e⟩,st⟩:=x;exact ⟨st _ _ p fun o q=>k _ _ (.inl rfl) q,⟨o,k _ _ (.inl rfl) e⟩,st⟩
theorem cS.lt (x:cS P w H h)(e:H a=some o):a < h.objs.size:=(x a o e).lt
def cS.fresh (x:cS P w H h)(e:h.objs.size<=a):H a=none:=by
 cases q:H a with
 | none=>rfl
 | some u=>exact absurd (OL (x.lt q) e) (Nat.lt_irrefl _)
def cS.kept (x:cS P w H h)(k:∀ b u,h.get? b=some u->h'.get? b=some u):cS P w H h':=fun a o e =>
 (x a o e).stay (fun b u _ q=>k b u q) (fun _ q=>q) fun _ _ q=>q
def cS.laid (x:cS P w H h)(k:∀ b u,h.get? b=some u->h'.get? b=some u)(hp:h.objs.size<=a)(new:bf P w (upd H a o) h' a o):cS P w (upd H a o) h':=fun b u e=>by
 have hn:=x.fresh hp
 by_cases hb:b=a
 ·subst hb;rw [aq] at e;cases e;exact new
 ·rw [ai hb] at e;exact (x b u e).stay (fun c v _ q=>k c v q) (fun c q=>by rw [ai (fD q hn)];exact q) fun c xs q=>by rw [ai (fD q hn)];exact q
end
def Rd (H:Hp)(a:Addr)(u:HO):Prop:=H a=some u\/∃ o,H a=some (.bY o u)
def Rd.ok {P:Program}{w:World}{H:Hp}{h:Heap}{a:Addr}{u:HO}(r:Rd H a u)(x:cS P w H h):bf P w H h a u:=by
 rcases r with r | ⟨o,r⟩
 ·exact x a u r
 ·obtain ⟨_,q⟩:=x a _ r;exact q
def AW:Option HO->Prop
 | some (.lst _)=>True
 | some (.dK _)=>True
 | some (.dT _)=>True
 | some (.set _ _)=>True
 | some (.ins _ _ _)=>True
 | some (.ext _)=>True
 | _=>False
section
variable {P:Program}{w:World}{H:Hp}{h h':Heap}{x e:Addr}{o':HO}
def cS.write (ok:cS P w H h)(mu:AW (H x))(he:e=x\/H e=some (.own x))(k:∀ b u,b≠e->h.get? b=some u->h'.get? b=some u)(heo:∃ u,h'.get? e=some u)
  (new:bf P w (upd H x o') h' x o'):cS P w (upd H x o') h':=fun b u q=>by
 have nown:∀ c y,H c=some (.own y)->c≠x:=fun c y r z=>by subst z;rw [r] at mu;exact mu
 have ntup:∀ c xs,H c=some (.tup xs)->c≠x:=fun c xs r z=>by subst z;rw [r] at mu;exact mu
 by_cases hb:b=x
 ·subst hb;rw [aq] at q;cases q;exact new
 ·rw [ai hb] at q
  by_cases hbe:b=e
  ·have q':H b=some (.own x):=by
    rcases he with z | z
    ·exact absurd (hbe.trans z) hb
    ·rw [hbe];exact z
   rw [q] at q';cases q';obtain ⟨v,hv⟩:=heo;exact ⟨v,by rw [hbe];exact hv⟩
  ·refine (ok b u q).stay (fun c v hc r=>k c v ?_ r) (fun c r=>by rw [ai (nown c b r)];exact r) fun c xs r=>by rw [ai (ntup c xs r)];exact r
   rcases hc with rfl | hc
   ·exact hbe
   ·rintro rfl;rcases he with z | z
    ·exact nown c b hc z
    ·rw [hc] at z;cases z;exact hb rfl
end
structure Un (fs ex:List Addr)(H H':Hp)(h h':Heap):Prop where
 keep:∀ b o,h.get? b=some o->H b=none->b∉fs->b∉ex->h'.get? b=some o
 slot:∀ b o,h.get? b=some o->H b=none->b∈fs->b∉ex->∃ sl,h'.get? b=some { o with slots:=sl }
 free:∀ b o,h.get? b=some o->H b=none->b∉ex->H' b=none
 there:∀ b o,h.get? b=some o->b∉ex->∃ o',h'.get? b=some o'
 tups:∀ b xs,H b=some (.tup xs)->H' b=some (.tup xs)
 jd:∀ b o u,H b=some (.bY o u)->H' b=some (.bY o u)
 jB:∀ b ps,H b=some (.sY ps)->∃ more,H' b=some (.sY (ps++more))
section
variable {fs fs' ex ex':List Addr}{H H1 H2:Hp}{h h1 h2 h':Heap}{a x e:Addr}{o:HO}
def Un.any (u:Un fs ex H H1 h h1){b:Addr}{ob:Obj}(q:h.get? b=some ob)(n:H b=none)(hx:b∉ex):∃ sl,h1.get? b=some { ob with slots:=sl }:=by
 by_cases hb:b∈fs
 ·exact u.slot b ob q n hb hx
 ·exact ⟨ob.slots,u.keep b ob q n hb hx⟩
def Un.kept (k:∀ b u,h.get? b=some u->h'.get? b=some u):Un fs ex H H h h' :=
 ⟨fun b ob q _ _ _=>k b ob q,fun b ob q _ _ _=>⟨ob.slots,k b ob q⟩,fun _ _ _ n _=>n,fun b ob q _=>⟨ob,k b ob q⟩,fun _ _ q=>q,fun _ _ _ q=>q,fun _ ps q=>⟨#[],by rw [q];simp⟩⟩
def Un.refl:Un fs ex H H h h:=Un.kept fun _ _ q=>q
def Un.laid (k:∀ b u,h.get? b=some u->h'.get? b=some u)(hp:h.objs.size<=a)(hn:H a=none):Un fs ex H (upd H a o) h h' where
 keep:=fun b u q _ _ _=>k b u q
 slot:=fun b u q _ _ _=>⟨u.slots,k b u q⟩
 free:=fun b u q n _=>by rw [ai (OD (OL (OB q) hp))];exact n
 there:=fun b u q _=>⟨u,k b u q⟩
 tups:=fun b xs q=>by rw [ai (fD q hn)];exact q
 jd:=fun b u xs q=>by rw [ai (fD q hn)];exact q
 jB:=fun b ps q=>⟨#[],by rw [ai (fD q hn),q];simp⟩
def Un.write (mu:AW (H x))(he:e=x\/H e=some (.own x))(k:∀ b u,b≠e->h.get? b=some u->h'.get? b=some u)(heo:∃ u,h'.get? e=some u):Un fs ex H (upd H x o) h h':=by
 have hx:∀ b,H b=none->b≠x:=fun b n z=>by subst z;rw [n] at mu;exact mu
 have hb:∀ b,H b=none->b≠e:=fun b n z=>by
  subst z;rcases he with r | r
  ·exact hx b n r
  ·rw [n] at r;cases r
 have hm:∀ b u,H b=some u->¬ AW (some u)->b≠x:=fun b u q nm z=>by subst z;rw [q] at mu;exact nm mu
 refine ⟨fun b u q n _ _=>k b u (hb b n) q,fun b u q n _ _=>⟨u.slots,k b u (hb b n) q⟩,fun b u q n _=>by rw [ai (hx b n)];exact n,fun b u q _=>?_,
  fun b xs q=>by rw [ai (hm b _ q fun z=>z)];exact q,fun b u xs q=>by rw [ai (hm b _ q fun z=>z)];exact q,fun b ps q=>⟨#[],by rw [ai (hm b _ q fun z=>z),q];simp⟩⟩
 by_cases hbe:b=e
 ·subst hbe;exact heo
 ·exact ⟨u,k b u hbe q⟩
end
def FE (h:Heap)(H:Hp):List Addr:=(List.range h.objs.size).filter fun a=>(H a).isSome
def lT (h:Heap)(H:Hp):Heap:=PySem.W.hideAll h (FE h H)
def De (h:Heap)(H:Hp):(lT h H).objs.size=h.objs.size:=PySem.W.hideAll_size _ _
def Eg {h:Heap}{H:Hp}{b:Addr}{o:Obj}(e:h.get? b=some o)(n:H b=none):(lT h H).get? b=some o :=
 PySem.W.hideAll_get _ e fun hm=>by
  have q:(H b).isSome=true:=(List.mem_filter.mp hm).2;rw [n] at q;simp at q
def Hx {h:Heap}{H:Hp}{b:Addr}{o:Obj}(e:(lT h H).get? b=some o):h.get? b=some o/\H b=none:=by
 have e':h.get? b=some o:=PySem.W.of_hideAll (FE h H) e;refine ⟨e',?_⟩;cases q:H b with
 | none=>rfl
 | some x =>
  have hm:b∈FE h H:=List.mem_filter.mpr ⟨List.mem_range.mpr (OB e'),by simp [q]⟩
  have z:(lT h H).get? b=none:=PySem.W.hideAll_none (FE h H) hm;rw [z] at e;cases e
structure Mod (K:PySem.W.Frag)(mg:Str->Option Value)(base:Heap):Prop where
 yV:K.In base
 glob:base.Ns mainGlobals mg
 blt:∃ mb,base.Ns builtinsNs mb/\∀ x:Str,x≠"__name__"->mb x=bootBuiltins x
 nolimit:base.NoLimit
structure Cx where
 prog:Program
 w:World
 K:PySem.W.Frag
 mg:Str->Option Value
 base:Heap
 A:Around
 N:List Str
 s₀:Shared
 H₀:Hp
 env:Env
 outer:List Env
 stack:List Env
 ex:List Addr
 fn:Str->Bool
 calm:Bool
 pn:List (Addr×Obj)
 xe:Value->Shared->Prop
def frs (l:List Env):List Addr:=l.filterMap (·.frame)
abbrev Cx.fs (X:Cx):List Addr:=frs X.outer
def gZ (sc:Scope) (x:Str):Prop:=sc.names.lookup x=some .local\/sc.names.lookup x=some .cell\/sc.names.lookup x=some .free
def Loc (sc:Scope) (x:Str):Prop:=sc.names.lookup x=some .local\/sc.names.lookup x=some .cell
def Look (env:Env)(h:Heap)(m:Str->Option Value) (x:Str)(u:Value):Prop :=
 (env.kindOf x=some .local/\m x=some u)\/((env.kindOf x=some .cell\/env.kindOf x=some .free)/\∃ c,env.cells.lookup x=some c/\h.IsCell c (some u))
structure Cx.Ok (X:Cx):Prop where
 mod:Mod X.K X.mg X.base
 kind:X.env.scope.kind=.function
 glob:X.env.globals=mainGlobals
 blt:X.env.builtins=builtinsNs
 above:X.s₀.heap.objs.size<=X.env.locals
 inj:∀ x y c,X.env.cells.lookup x=some c->X.env.cells.lookup y=some c->x=y
 has:∀ x,(X.env.kindOf x=some .cell\/X.env.kindOf x=some .free)->∃ c,X.env.cells.lookup x=some c
 Bv:∀ x c,X.fn x=true->X.env.cells.lookup x=some c->X.s₀.heap.objs.size<=c
 hd:X.calm=true->X.A.handled=none
 frames:X.A.frames=some X.stack
 stk:X.stack=X.outer\/(X.stack=X.env::X.outer/\X.env.frame=some X.env.locals)
 MT:∀ b∈X.ex,b≠X.env.locals/\∀ x c,X.env.cells.lookup x=some c->c≠b
 bs:∀ b o,X.base.get? b=some o->X.s₀.heap.get? b=some o/\X.H₀ b=none
 sO:X.base.objs.size<=X.s₀.heap.objs.size
 rS:∀ b o,X.base.get? b=some o->b∉X.ex
 zZ:∀ b∈X.ex,b∉X.fs
 jC:X.s₀.heap.FunFrames X.base X.outer
 zA:∀ b∈X.fs,X.H₀ b=none
structure Inv (X:Cx)(pins:List (Addr×Obj))(σ:List (Option V))(H:Hp)(s:Shared):Prop where
 ok:X.Ok
 os:s.os=X.s₀.os
 bare:AllBare s.gens
 base:Un X.fs X.ex X.H₀ H X.s₀.heap s.heap
 loc:∃ m,s.heap.Ns X.env.locals m/\∀ (i:Nat) (x:Str) (v:V),X.N[i]?=some x->σ[i]?=some (some v)->gZ X.env.scope x->∃ u,RelV v u/\Look X.env s.heap m x u
 cell:∀ x c,X.env.cells.lookup x=some c->∃ v,s.heap.IsCell c v
 free:H X.env.locals=none
 gQ:∀ x c,X.env.cells.lookup x=some c->H c=none
 pin:∀ p∈X.pn++pins,s.heap.get? p.1=some p.2/\H p.1=none/\p.1≠X.env.locals/\p.1∉X.fs/\∀ v,p.2.data≠.cell v
 hok:cS X.prog X.w H s.heap
 len:σ.length=X.N.length
section
variable {X:Cx}{pins:List (Addr×Obj)}{σ:List (Option V)}{H H':Hp}{s:Shared}{h':Heap}
def Cx.Ok.NG (ok:X.Ok){b:Addr}{o:Obj}(e:X.base.get? b=some o):b∉X.fs:=fun hb=>by
 have:=(ok.jC.mem hb).1;rw [e] at this;cases this
theorem Inv.bs (I:Inv X pins σ H s):∀ b o,X.base.get? b=some o->s.heap.get? b=some o/\H b=none:=fun b o e =>
 ⟨I.base.keep b o (I.ok.bs b o e).1 (I.ok.bs b o e).2 (I.ok.NG e) (I.ok.rS b o e),I.base.free b o (I.ok.bs b o e).1 (I.ok.bs b o e).2 (I.ok.rS b o e)⟩
def Inv.bk (I:Inv X pins σ H s):∀ b o,X.base.get? b=some o->s.heap.get? b=some o:=fun b o e=>(I.bs b o e).1
theorem Inv.mod (I:Inv X pins σ H s):Mod X.K X.mg X.base:=I.ok.mod
def Inv.fE (I:Inv X pins σ H s):X.K.In s.heap:=I.ok.mod.yV.keeps I.bk
theorem Inv.lt (I:Inv X pins σ H s):X.env.locals < s.heap.objs.size:=let ⟨_,hn,_⟩:=I.loc;hn.lt
def Inv.sz (I:Inv X pins σ H s):X.s₀.heap.objs.size<=s.heap.objs.size:=Nat.le_trans I.ok.above (Nat.le_of_lt I.lt)
def Inv.Ef (I:Inv X pins σ H s){a:Addr}(h:s.heap.objs.size<=a):a∉X.fs:=fun hb=>by
 obtain ⟨_,o,ho,_⟩:=I.ok.jC.mem hb;exact absurd (OL (OB ho) (Nat.le_trans I.sz h)) (Nat.lt_irrefl _)
def Inv.vo (I:Inv X pins σ H s):∀ x c,X.env.cells.lookup x=some c->c≠X.env.locals:=fun x c e z=>by
 obtain ⟨v,o,ho,hd⟩:=I.cell x c e;obtain ⟨m,⟨o',es,ep,ho',hd',_⟩,_⟩:=I.loc;rw [z,ho'] at ho;cases ho;rw [hd'] at hd;cases hd
theorem Inv.jC (I:Inv X pins σ H s):s.heap.FunFrames X.base X.outer:=by
 have all:∀ (l:List Env),(∀ b∈frs l,b∈X.fs)->X.s₀.heap.FunFrames X.base l->s.heap.FunFrames X.base l:=by
  intro l
  induction l with
  | nil=>intro _ _;trivial
  | cons env r ih =>
   intro hs hl;obtain ⟨hk,⟨L,o,hf,hn,ho,hd⟩,hr⟩:=hl;have hL:L∈X.fs:=hs L (by unfold frs;rw [List.filterMap_cons,hf];exact N9)
   obtain ⟨sl,e⟩:=I.base.slot L o ho (I.ok.zA L hL) hL fun z=>I.ok.zZ L z hL
   exact ⟨hk,⟨L,_,hf,hn,e,hd⟩,ih (fun b hb=>hs b (by unfold frs;rw [List.filterMap_cons,hf];exact O6 _ hb)) hr⟩
 exact all X.outer (fun _ hb=>hb) I.ok.jC
theorem Inv.stack (I:Inv X pins σ H s):s.heap.FunFrames X.base X.stack:=by
 rcases I.ok.stk with e | ⟨e,hf⟩
 ·rw [e];exact I.jC
 ·rw [e];obtain ⟨m,hn,_⟩:=I.loc;refine .cons (by rw [I.ok.kind];decide) hf hn ?_ I.jC
  exact Heap.get?_none_of_le (Nat.le_trans I.ok.sO I.ok.above)
def Inv.iL (I:Inv X pins σ H s):∀ b∈frs X.stack,b∈X.env.locals::X.fs:=fun b hb=>by
 rcases I.ok.stk with e | ⟨e,hf⟩
 ·rw [e] at hb;exact O6 _ hb
 ·rw [e] at hb;unfold frs at hb;rw [List.filterMap_cons,hf] at hb;exact hb
def Inv.nW (I:Inv X pins σ H s):∀ b∈frs X.stack,H b=none:=fun b hb=>by
 rcases O9.mp (I.iL b hb) with e | hb
 ·rw [e];exact I.free
 ·obtain ⟨_,o,ho,_⟩:=I.ok.jC.mem hb;exact I.base.free b o ho (I.ok.zA b hb) fun z=>I.ok.zZ b z hb
def Inv.step {g':Array GenState}{t':Nat}{d':Drawn}{ch:List Addr}(I:Inv X pins σ H s)
  (hch:∀ b∈ch,(b∈X.ex\/X.s₀.heap.objs.size<=b)/\b≠X.env.locals/\(∀ x c,X.env.cells.lookup x=some c->c≠b)/\∀ p∈X.pn++pins,p.1≠b)
  (keep:∀ b o,b≠X.env.locals->b∉X.fs->b∉ch->s.heap.get? b=some o->H b=none->h'.get? b=some o)
  (slot:∀ b o,b≠X.env.locals->b∈X.fs->b∉ch->s.heap.get? b=some o->H b=none->∃ sl,h'.get? b=some { o with slots:=sl })(free:∀ b o,b∉ch->s.heap.get? b=some o->H b=none->H' b=none)
  (there:∀ b o,b∉ch->s.heap.get? b=some o->∃ o',h'.get? b=some o')
  (tups:∀ b xs,H b=some (.tup xs)->H' b=some (.tup xs))(jd:∀ b o u,H b=some (.bY o u)->H' b=some (.bY o u))(jB:∀ b ps,H b=some (.sY ps)->∃ more,H' b=some (.sY (ps++more)))
  (ns:∀ m,s.heap.Ns X.env.locals m->h'.Ns X.env.locals m)(hok:cS X.prog X.w H' h')(hg:AllBare g') :
  Inv X pins σ H' { s with heap:=h',gens:=g',drawn:=d',toks:=t' }:=by
 have neL:∀ b o,X.s₀.heap.get? b=some o->b≠X.env.locals:=fun b o e=>OD (OL (OB e) I.ok.above)
 have neC:∀ b o,X.s₀.heap.get? b=some o->b∉X.ex->b∉ch:=fun b o e hx hb=>by
  rcases (hch b hb).1 with z | z
  ·exact hx z
  ·exact absurd (OL (OB e) z) (Nat.lt_irrefl _)
 have cellK:∀ x c,X.env.cells.lookup x=some c->∀ v,s.heap.IsCell c v->h'.IsCell c v:=fun x c e v ⟨o,ho,hd⟩=>by
  have nch:c∉ch:=fun z=>(hch c z).2.2.1 x c e rfl
  by_cases hc:c∈X.fs
  ·obtain ⟨sl,q⟩:=slot c o (I.vo x c e) hc nch ho (I.gQ x c e);exact ⟨_,q,hd⟩
  ·exact ⟨o,keep c o (I.vo x c e) hc nch ho (I.gQ x c e),hd⟩
 refine ⟨I.ok,I.os,hg,⟨fun b o e n hb hx=>?_,fun b o e n hb hx=>?_,fun b o e n hx=>?_,fun b o e hx=>?_,fun b xs e=>tups b xs (I.base.tups b xs e),fun b o xs e=>jd b o xs (I.base.jd b o xs e),fun b ps e=>?_⟩,?_,fun x c e=>?_,?_,fun x c e=>?_,fun p hp=>?_,hok,I.len⟩
 ·exact keep b o (neL b o e) hb (neC b o e hx) (I.base.keep b o e n hb hx) (I.base.free b o e n hx)
 ·obtain ⟨sl,e1⟩:=I.base.slot b o e n hb hx;obtain ⟨sl',e2⟩:=slot b _ (neL b o e) hb (neC b o e hx) e1 (I.base.free b o e n hx);exact ⟨sl',e2⟩
 ·obtain ⟨o',e1⟩:=I.base.there b o e hx;exact free b o' (neC b o e hx) e1 (I.base.free b o e n hx)
 ·obtain ⟨o',e1⟩:=I.base.there b o e hx;exact there b o' (neC b o e hx) e1
 ·obtain ⟨m1,e1⟩:=I.base.jB b ps e;obtain ⟨m2,e2⟩:=jB b _ e1;exact ⟨m1++m2,by rw [e2,Array.append_assoc]⟩
 ·obtain ⟨m,hn,hl⟩:=I.loc;refine ⟨m,ns m hn,fun i x v e1 e2 e3=>?_⟩
  obtain ⟨u,r,l⟩:=hl i x v e1 e2 e3;refine ⟨u,r,?_⟩;rcases l with l | ⟨k,c,e,z⟩
  ·exact .inl l
  ·exact .inr ⟨k,c,e,cellK x c e _ z⟩
 ·obtain ⟨v,z⟩:=I.cell x c e;exact ⟨v,cellK x c e v z⟩
 ·obtain ⟨m,⟨o,_,_,ho,_⟩,_⟩:=I.loc;exact free _ o (fun z=>(hch _ z).2.1 rfl) ho I.free
 ·obtain ⟨v,o,ho,hd⟩:=I.cell x c e;exact free c o (fun z=>(hch c z).2.2.1 x c e rfl) ho (I.gQ x c e)
 ·obtain ⟨e,n,ne,nf,d⟩:=I.pin p hp;have nch:p.1∉ch:=fun z=>(hch p.1 z).2.2.2 p hp rfl
  exact ⟨keep p.1 p.2 ne nf nch e n,free p.1 p.2 nch e n,ne,nf,d⟩
def Inv.un {t':Nat}(I:Inv X pins σ H s)(u:Un X.fs [] H H' s.heap h')(hok:cS X.prog X.w H' h'):Inv X pins σ H' { s with heap:=h',toks:=t' }:=by
 obtain ⟨m,⟨o,es,ep,ho,r⟩,_⟩:=id I.loc;obtain ⟨sl,hL⟩:=u.any ho I.free (by simp)
 exact I.step (g':=s.gens) (d':=s.drawn) (ch:=[]) (fun _ z=>nomatch z) (fun b o _ hb _ e n=>u.keep b o e n hb (by simp)) (fun b o _ hb _ e n=>u.slot b o e n hb (by simp)) (fun b o _ e n=>u.free b o e n (by simp)) (fun b o _ e=>u.there b o e (by simp)) u.tups u.jd u.jB (fun m' hm=>by
  obtain ⟨o',es',ep',ho',r'⟩:=hm;rw [ho] at ho';cases ho';exact ⟨_,es',ep',hL,r'⟩) hok I.bare
def Inv.call {g':Array GenState}{t':Nat}{d':Drawn}{ch:List Addr}(I:Inv X pins σ H s)(u:Un (frs X.stack) ch H H' s.heap h')(hok:cS X.prog X.w H' h')(hg:AllBare g')
  (hch:∀ b∈ch,(b∈X.ex\/X.s₀.heap.objs.size<=b)/\b≠X.env.locals/\(∀ x c,X.env.cells.lookup x=some c->c≠b)/\∀ p∈X.pn++pins,p.1≠b) :
  Inv X pins σ H' { s with heap:=h',gens:=g',drawn:=d',toks:=t' }:=by
 obtain ⟨m,⟨o,es,ep,ho,r⟩,_⟩:=id I.loc;obtain ⟨sl,hL⟩:=u.any ho I.free fun z=>(hch _ z).2.1 rfl
 exact I.step (ch:=ch) hch (fun b o hL hb hc e n=>u.keep b o e n (fun z=>(O9.mp (I.iL b z)).elim hL hb) hc) (fun b o _ _ hc e n=>u.any e n hc) (fun b o hc e n=>u.free b o e n hc) (fun b o hc e=>u.there b o e hc) u.tups u.jd u.jB (fun m' hm=>by
  obtain ⟨o',es',ep',ho',r'⟩:=hm;rw [ho] at ho';cases ho';exact ⟨_,es',ep',hL,r'⟩) hok hg
def Inv.turned {t':Nat}{it:Addr}(I:Inv X pins σ H s)(k:∀ b o,b≠it->s.heap.get? b=some o->h'.get? b=some o)(hn:H it=none)(hL:it≠X.env.locals)
  (h1:it∈X.ex\/X.s₀.heap.objs.size<=it)(h2:∀ x c,X.env.cells.lookup x=some c->c≠it)(h3:∀ p∈X.pn++pins,p.1≠it):Inv X pins σ H { s with heap:=h',toks:=t' }:=by
 have nit:∀ b u,H b=some u->b≠it:=fun b u e z=>by rw [z,hn] at e;cases e
 refine I.step (g':=s.gens) (d':=s.drawn) (ch:=[it]) (fun b hb=>?_) (fun b o _ _ hc e _=>k b o (fun z=>hc (by simp [z])) e) (fun b o _ _ hc e _=>⟨o.slots,k b o (fun z=>hc (by simp [z])) e⟩) (fun _ _ _ _ n=>n)
  (fun b o hc e=>⟨o,k b o (fun z=>hc (by simp [z])) e⟩) (fun _ _ e=>e) (fun _ _ _ e=>e) (fun b ps e=>⟨#[],by rw [e];simp⟩) (fun m hm=>?_) (fun b u e=>?_) I.bare
 ·have e:b=it:=by simpa using hb
  subst e;exact ⟨h1,hL,h2,h3⟩
 ·obtain ⟨o,es,ep,ho,r⟩:=hm;exact ⟨o,es,ep,k _ o (Ne.symm hL) ho,r⟩
 ·refine (I.hok b u e).stay (fun c v hc q=>k c v ?_ q) (fun _ q=>q) fun _ _ q=>q
  rcases hc with z | z
  ·rw [z];exact nit b u e
  ·exact nit c _ z
def Inv.tok (I:Inv X pins σ H s) (t:Nat):Inv X pins σ H { s with toks:=t }:=I.un (h':=s.heap) (t':=t) Un.refl I.hok
theorem Inv.kept {t':Nat}(I:Inv X pins σ H s)(k:∀ b u,s.heap.get? b=some u->h'.get? b=some u):Inv X pins σ H { s with heap:=h',toks:=t' }:=I.un (Un.kept k) (I.hok.kept k)
theorem Inv.laid {a:Addr}{o:HO}{t':Nat}(I:Inv X pins σ H s)(k:∀ b u,s.heap.get? b=some u->h'.get? b=some u)(hp:s.heap.objs.size<=a)(new:bf X.prog X.w (upd H a o) h' a o) :
  Inv X pins σ (upd H a o) { s with heap:=h',toks:=t' }:=I.un (Un.laid k hp (I.hok.fresh hp)) (I.hok.laid k hp new)
theorem Inv.write {x e:Addr}{o:HO}{t':Nat}(I:Inv X pins σ H s)(mu:AW (H x))(he:e=x\/H e=some (.own x))(k:∀ b u,b≠e->s.heap.get? b=some u->h'.get? b=some u)(heo:∃ u,h'.get? e=some u)
  (new:bf X.prog X.w (upd H x o) h' x o):Inv X pins σ (upd H x o) { s with heap:=h',toks:=t' }:=I.un (Un.write mu he k heo) (I.hok.write mu he k heo new)
def Inv.jr {pins':List (Addr×Obj)}(I:Inv X pins σ H s)(h:∀ p∈pins',s.heap.get? p.1=some p.2/\H p.1=none/\p.1≠X.env.locals/\p.1∉X.fs/\∀ v,p.2.data≠.cell v):Inv X pins' σ H s :=
 ⟨I.ok,I.os,I.bare,I.base,I.loc,I.cell,I.free,I.gQ,fun p hp=>(OT.mp hp).elim (fun z=>I.pin p (List.mem_append_left _ z)) (h p),I.hok,I.len⟩
def vU {N:List Str}(hN:N.Nodup){i j:Nat}{x:Str}(a:N[i]?=some x)(b:N[j]?=some x):i=j:=by
 obtain ⟨h1,e1⟩:=List.getElem?_eq_some_iff.mp a;obtain ⟨h2,e2⟩:=List.getElem?_eq_some_iff.mp b;exact (List.getElem_inj hN).mp (e1.trans e2.symm)
def tO {M:Model}{A:Around}{E:Value->Shared->Prop}{i:Nat}{x:Str}{v:V}{u:Value}{Q:Unit->Shared->Prop}(I:Inv X pins σ H s)(hN:X.N.Nodup)(hi:X.N[i]?=some x)(hx:Loc X.env.scope x)(r:RelV v u)
  (h:∀ s',Inv X pins (σ.set i (some v)) H s'->(∃ a,Heap.SameBut a s.heap s'.heap/\(a=X.env.locals\/X.env.cells.lookup x=some a))->Q () s')(hf:X.fn x=true\/X.env.scope.names.lookup x=some .local:=by first | exact .inl rfl | exact .inr rfl | assumption):wpAny M A (storeName X.env x u) Q E s:=by
 obtain ⟨m,hn,hl⟩:=id I.loc;have hcls:(X.env.scope.kind == .class || (X.env.scope.kind == .module && X.env.locals != X.env.globals))=false:=by rw [I.ok.kind];rfl
 have hiσ:i < σ.length:=by rw [I.len];exact (List.getElem?_eq_some_iff.mp hi).1
 have vo:=I.vo;have tracked:∀ {a:Addr}{h':Heap},(∃ o,s.heap.get? a=some o/\H a=none)->Heap.SameBut a s.heap h'->cS X.prog X.w H h':=fun {a h'} ha hs b ob e=>by
  obtain ⟨_,_,hfree⟩:=ha;refine (I.hok b ob e).stay (fun c w' hc q=>(hs.2 c ?_).trans q) (fun _ q=>q) fun _ _ q=>q
  rintro rfl;rcases hc with rfl | hc
  ·rw [hfree] at e;cases e
  ·rw [hfree] at hc;cases hc
 rcases hx with hk | hk
 ·refine wpAny_storeName_local hk hn (fun h' hn' hs=>?_) hcls
  obtain ⟨oL,_,_,hoL,_⟩:=id hn;refine h _ ⟨I.ok,I.os,I.bare,⟨fun b o e n hb hx=>?_,fun b o e n hb hx=>?_,I.base.free,fun b o e hx=>?_,I.base.tups,I.base.jd,I.base.jB⟩,⟨_,hn',fun j y v' e1 e2 e3=>?_⟩,fun y c e=>?_,I.free,I.gQ,fun p hp=>?_,tracked ⟨oL,hoL,I.free⟩ hs,by simpa using I.len⟩ ⟨_,hs,.inl rfl⟩
  ·exact (hs.2 b (OD (OL (OB e) I.ok.above))).trans (I.base.keep b o e n hb hx)
  ·obtain ⟨sl,e1⟩:=I.base.slot b o e n hb hx;exact ⟨sl,(hs.2 b (OD (OL (OB e) I.ok.above))).trans e1⟩
  ·obtain ⟨o',e1⟩:=I.base.there b o e hx;exact ⟨o',(hs.2 b (OD (OL (OB e) I.ok.above))).trans e1⟩
  ·by_cases hj:j=i
   ·subst hj;rw [hi] at e1;cases e1;rw [List.getElem?_set_self hiσ] at e2;cases e2;exact ⟨u,r,.inl ⟨hk,by simp⟩⟩
   ·rw [List.getElem?_set_ne (Ne.symm hj)] at e2;obtain ⟨u',r',q⟩:=hl j y v' e1 e2 e3;refine ⟨u',r',?_⟩;rcases q with ⟨k,e⟩ | ⟨k,c,e,z⟩
    ·refine .inl ⟨k,?_⟩;have:y≠x:=fun e=>hj (vU hN e1 (e ▸ hi))
     simp [this,e]
    ·exact .inr ⟨k,c,e,z.sameBut hs (vo y c e)⟩
  ·obtain ⟨w',z⟩:=I.cell y c e;exact ⟨w',z.sameBut hs (vo y c e)⟩
  ·obtain ⟨e,n,ne,nf,d⟩:=I.pin p hp;exact ⟨(hs.2 p.1 ne).trans e,n,ne,nf,d⟩
 ·have hfn:X.fn x=true:=by
   rcases hf with z | z
   ·exact z
   ·rw [z] at hk;cases hk
  obtain ⟨c,hc⟩:=I.ok.has x (.inl hk);obtain ⟨w',z⟩:=I.cell x c hc;refine wpAny_storeName_cell I.ok.kind hk hc z (fun h' hc' hs=>?_)
  obtain ⟨oc,hoc,hocd⟩:=id z;refine h { s with heap:=h' } ⟨I.ok,I.os,I.bare,⟨fun b o e n hb hx=>?_,fun b o e n hb hx=>?_,I.base.free,fun b o e hx=>?_,I.base.tups,I.base.jd,I.base.jB⟩,⟨m,hn.sameBut hs (Ne.symm (vo x c hc)),fun j y v' e1 e2 e3=>?_⟩,fun y c' e=>?_,I.free,I.gQ,fun p hp=>?_,tracked ⟨oc,hoc,I.gQ x c hc⟩ hs,by simpa using I.len⟩ ⟨c,hs,.inr hc⟩
  ·exact (hs.2 b (OD (OL (OB e) (I.ok.Bv x c hfn hc)))).trans (I.base.keep b o e n hb hx)
  ·obtain ⟨sl,e1⟩:=I.base.slot b o e n hb hx;exact ⟨sl,(hs.2 b (OD (OL (OB e) (I.ok.Bv x c hfn hc)))).trans e1⟩
  ·obtain ⟨o',e1⟩:=I.base.there b o e hx;exact ⟨o',(hs.2 b (OD (OL (OB e) (I.ok.Bv x c hfn hc)))).trans e1⟩
  ·by_cases hj:j=i
   ·subst hj;rw [hi] at e1;cases e1;rw [List.getElem?_set_self hiσ] at e2;cases e2;exact ⟨u,r,.inr ⟨.inl hk,c,hc,hc'⟩⟩
   ·rw [List.getElem?_set_ne (Ne.symm hj)] at e2;obtain ⟨u',r',q⟩:=hl j y v' e1 e2 e3;refine ⟨u',r',?_⟩;rcases q with q | ⟨k,c',e,z'⟩
    ·exact .inl q
    ·refine .inr ⟨k,c',e,z'.sameBut hs ?_⟩;rintro rfl;exact hj (vU hN e1 (I.ok.inj _ _ _ e hc ▸ hi))
  ·by_cases hcc:c'=c
   ·subst hcc;exact ⟨_,hc'⟩
   ·obtain ⟨w2,z2⟩:=I.cell y c' e;exact ⟨w2,z2.sameBut hs hcc⟩
  ·obtain ⟨e,n,ne,nf,d⟩:=I.pin p hp;refine ⟨(hs.2 p.1 ?_).trans e,n,ne,nf,d⟩;intro q;rw [q,hoc] at e;have q':oc=p.2:=Option.some.inj e;exact d w' (by rw [<- q'];exact hocd)
def vK {M:Model}{A:Around}{E:Value->Shared->Prop}{i:Nat}{x:Str}{v:V}{u:Value}{Q:Unit->Shared->Prop}(I:Inv X pins σ H s)(hN:X.N.Nodup)(hi:X.N[i]?=some x)(hx:Loc X.env.scope x)(r:RelV v u)
  (h:∀ s',Inv X pins (σ.set i (some v)) H s'->Q () s')(hf:X.fn x=true\/X.env.scope.names.lookup x=some .local:=by first | exact .inl rfl | exact .inr rfl | assumption):wpAny M A (storeName X.env x u) Q E s :=
 tO I hN hi hx r (fun s' I' _=>h s' I') hf
def Inv.AQ {s':Shared}{ch:List Addr}(I:Inv X pins σ H s)(ho:s'.os=s.os)(u:Un (frs X.stack) ch H H' s.heap s'.heap)(hok:cS X.prog X.w H' s'.heap)(hg:AllBare s'.gens)
  (hch:∀ b∈ch,(b∈X.ex\/X.s₀.heap.objs.size<=b)/\b≠X.env.locals/\(∀ x c,X.env.cells.lookup x=some c->c≠b)/\∀ p∈X.pn++pins,p.1≠b):Inv X pins σ H' s':=by
 obtain ⟨h',g',d',t',o'⟩:=s';have e:o'=s.os:=ho;subst e;exact I.call (g':=g') (t':=t') (d':=d') u hok hg hch
end
abbrev XK:=Value->Option Addr->Hp->Prop
abbrev St:=List (Option V)
abbrev VK:=V->Hp->Prop
abbrev TE:=St->Hp->VK->Prop
abbrev TT:=St->Hp->(Bool->Hp->Prop)->Prop
abbrev TA:=St->Hp->(List V->Hp->Prop)->Prop
structure Ends where
 nx:St->Hp->Prop
 rt:VK
 bk:St->Hp->Prop:=fun _ _=>False
 ct:St->Hp->Prop:=fun _ _=>False
abbrev TS:=Ends->St->Hp->Prop
def EP (X:Cx)(pins:List (Addr×Obj))(σ:St)(Q:VK)(u:Value)(s':Shared):Prop:=∃ v H',Inv X pins σ H' s'/\RelV v u/\Q v H'
def TP (X:Cx)(pins:List (Addr×Obj))(σ:St)(Q:Bool->Hp->Prop)(b:Bool)(s':Shared):Prop:=∃ H',Inv X pins σ H' s'/\Q b H'
def AP (X:Cx)(pins:List (Addr×Obj))(σ:St)(Q:List V->Hp->Prop)(us:List Value)(s':Shared):Prop:=∃ vs H',Inv X pins σ H' s'/\Vals vs us/\Q vs H'
def SP (X:Cx)(pins:List (Addr×Obj))(D:Ends)(f:Flow)(s':Shared):Prop :=
 match f with
 | .next=>∃ σ' H',Inv X pins σ' H' s'/\D.nx σ' H'
 | .brk=>∃ σ' H',Inv X pins σ' H' s'/\D.bk σ' H'
 | .cont=>∃ σ' H',Inv X pins σ' H' s'/\D.ct σ' H'
 | .ret u=>∃ v σ' H',Inv X pins σ' H' s'/\RelV v u/\D.rt v H'
def PE (X:Cx)(e:Expr)(t:TE):Prop :=
 ∀ (pins:List (Addr×Obj))(s:Shared)(σ:St)(H:Hp)(Q:VK),Inv X pins σ H s->t σ H Q->wpAny (model X.prog X.w) X.A (eval e X.env) (EP X pins σ Q) X.xe s
def PT (X:Cx)(e:Expr)(t:TT):Prop :=
 ∀ (pins:List (Addr×Obj))(s:Shared)(σ:St)(H:Hp)(Q:Bool->Hp->Prop),Inv X pins σ H s->t σ H Q->wpAny (model X.prog X.w) X.A (isTrue e X.env (eval e X.env)) (TP X pins σ Q) X.xe s
def PW (X:Cx)(e:Expr)(t:TT):Prop :=
 ∀ (whole:Sem Value)(pins:List (Addr×Obj))(s:Shared)(σ:St)(H:Hp)(Q:Bool->Hp->Prop),Inv X pins σ H s->t σ H Q->wpAny (model X.prog X.w) X.A (isTrue e X.env whole) (TP X pins σ Q) X.xe s
def PW.pt {X:Cx}{e:Expr}{t:TT}(h:PW X e t):PT X e t:=h _
def PA (X:Cx)(es:List Expr)(t:TA):Prop :=
 ∀ (pos:Pos)(pins:List (Addr×Obj))(s:Shared)(σ:St)(H:Hp)(Q:List V->Hp->Prop),Inv X pins σ H s->t σ H Q->wpAny (model X.prog X.w) X.A (spliced (backTo pos (starEach es X.env))) (AP X pins σ Q) X.xe s
def PS (X:Cx)(st:Stmt)(t:TS):Prop :=
 ∀ (pins:List (Addr×Obj))(s:Shared)(σ:St)(H:Hp)(D:Ends),Inv X pins σ H s->t D σ H->wpAny (model X.prog X.w) X.A (exec st X.env) (SP X pins D) X.xe s
def mT (X:Cx)(st:List Stmt)(t:TS):Prop :=
 ∀ (pins:List (Addr×Obj))(s:Shared)(σ:St)(H:Hp)(D:Ends),Inv X pins σ H s->t D σ H->wpAny (model X.prog X.w) X.A (execs st X.env) (SP X pins D) X.xe s
def aF {α:Type}{t:Sem α}{Q Q':α->Shared->Prop}{M:Model}{A:Around}{E:Value->Shared->Prop}{s:Shared}(h:wpAny M A t Q E s)(hQ:∀ a s,Q a s->Q' a s):wpAny M A t Q' E s:=wpAny_mono h hQ fun _ _ x=>x
section
variable {X:Cx}
inductive Gs (i:Nat)(σ:St)(H:Hp)(Q:VK):Prop
 | mk:∀ v,(σ[i]?=some (some v))->(Q v H)->Gs i σ H Q
def gh (i:Nat):TE:=fun σ H Q=>Gs i σ H Q
def tC (v:V):TE:=fun _ H Q=>Q v H
def dG {i:Nat}{x:Str}{pos:Pos}(hN:X.N[i]?=some x)(hv:gZ X.env.scope x)(hd:(x == ("__debug__":Str))=false:=by decide)(hcd:(x == ("__classdict__":Str))=false:=by decide):PE X (.Name x pos) (gh i):=by
 intro pins s σ H Q I h;obtain ⟨v,e,h⟩:=h;obtain ⟨m,hn,hl⟩:=I.loc;obtain ⟨u,r,l⟩:=hl i x v hN e hv;have fin:EP X pins σ Q u s:=⟨v,H,I,r,h⟩;rcases l with ⟨hk,hm⟩ | ⟨hk,c,hc,hcell⟩
 ·exact wpAny_Name (wpAny_loadName_local I.ok.kind hk hn hm fin) hd
 ·rcases hk with hk | hk
  ·exact wpAny_Name (wpAny_loadName_cell I.ok.kind hk hc hcell fin) hd
  ·exact wpAny_Name (wpAny_loadName_free I.ok.kind hk hc hcell fin hcd) hd
def Ke {i j pos}:PE X (.Constant (.int i) j pos) (tC (.int i)):=fun _ _ _ H _ I h=>wpAny_Constant_int ⟨.int i,H,I.tok _,⟨_,rfl⟩,h⟩
def LY {b j pos}:PE X (.Constant (.bool b) j pos) (tC (.bl b)):=fun _ _ _ H _ I h=>Constant_bool ⟨.bl b,H,I,rfl,h⟩
def JL {j pos}:PE X (.Constant .none j pos) (tC .aY):=fun _ _ _ H _ I h=>Constant_none ⟨.aY,H,I,rfl,h⟩
def Cb {x j pos}:PE X (.Constant (.str x) j pos) (tC (.str x)):=fun _ _ _ H _ I h=>Calls.Constant_str ⟨.str x,H,I.tok _,⟨_,rfl⟩,h⟩
def Gl (X:Cx) (x:Str):Prop:=X.env.kindOf x=some .globalImplicit
def zk {E:Value->Shared->Prop}{pins:List (Addr×Obj)}{s:Shared}{σ:St}{H:Hp}{x:Str}{u:Value}{pos:Pos}{Q:Value->Shared->Prop}(I:Inv X pins σ H s)(hg:Gl X x)(hm:X.mg x=some u)(h:Q u s)
  (hd:(x == ("__debug__":Str))=false:=by decide):wpAny (model X.prog X.w) X.A (eval (.Name x pos) X.env) Q E s :=
 Calls.Name_function_global I.ok.kind hg (Calls.loadGlobal_global (by rw [I.ok.glob];exact I.mod.glob.keeps I.bk) hm h) hd
def jR {E:Value->Shared->Prop}{pins:List (Addr×Obj)}{s:Shared}{σ:St}{H:Hp}{x:Str}{u:Value}{pos:Pos}{Q:Value->Shared->Prop}(I:Inv X pins σ H s)(hg:Gl X x)(hm:X.mg x=none)(hv:bootBuiltins x=some u)(h:Q u s)
  (hn:x≠"__name__":=by decide)(hd:(x == ("__debug__":Str))=false:=by decide):wpAny (model X.prog X.w) X.A (eval (.Name x pos) X.env) Q E s:=by
 obtain ⟨mb,h1,h2⟩:=I.mod.blt;exact Calls.Name_function_global I.ok.kind hg (Calls.loadGlobal_builtin (by rw [I.ok.glob];exact I.mod.glob.keeps I.bk) hm (by rw [I.ok.blt];exact h1.keeps I.bk) ((h2 x hn).trans hv) h) hd
def rR {x:Str}{v:V}{u:Value}{pos:Pos}(hg:Gl X x)(hm:X.mg x=none)(hv:bootBuiltins x=some u)(r:RelV v u)(hn:x≠"__name__":=by decide)(hd:(x == ("__debug__":Str))=false:=by decide):PE X (.Name x pos) (tC v) :=
 fun _ _ _ H _ I h=>jR I hg hm hv ⟨v,H,I,r,h⟩ hn hd
variable {a b:Expr}{ta tb:TE}{pos:Pos}
variable {tA tB':TT}{rest:List Expr}
def N2 (t u:TT):TT:=fun σ H Q=>t σ H fun c H1=>if c=true then Q true H1 else u σ H1 Q
def Na (t:TT):TT:=fun σ H Q=>t σ H fun c H1=>Q (!c) H1
def pw_and1 (ha:PT X a tA):PW X (.BoolOp .And [a] pos) tA:=by
 intro wh pins s σ H Q I h;refine isTrue_and (aF (ha pins s σ H Q I h) fun c s1 e=>?_)
 cases c with
 | true=>exact isTrue_and_nil e
 | false=>exact e
def pw_or1 (ha:PT X a tA):PW X (.BoolOp .Or [a] pos) tA:=by
 intro wh pins s σ H Q I h;refine isTrue_or (aF (ha pins s σ H Q I h) fun c s1 e=>?_)
 cases c with
 | false=>exact isTrue_or_nil e
 | true=>exact e
def pw_or (ha:PT X a tA)(hb:PW X (.BoolOp .Or (b::rest) pos) tB'):PW X (.BoolOp .Or (a::b::rest) pos) (N2 tA tB'):=by
 intro wh pins s σ H Q I h;refine isTrue_or (aF (ha pins s σ H _ I h) fun c s1 ⟨H1,I1,q1⟩=>?_)
 cases c with
 | true=>exact ⟨H1,I1,q1⟩
 | false=>exact hb wh pins s1 σ H1 Q I1 q1
def Dc (ha:PT X a tA):PT X (.UnaryOp .Not a pos) (Na tA):=by
 intro pins s σ H Q I h;exact isTrue_not (ha pins s σ H (fun c H1=>Q (!c) H1) I h)
def N4 (t:TT)(ta tb:TE):TE:=fun σ H Q=>t σ H fun c H1=>if c=true then ta σ H1 Q else tb σ H1 Q
def DJ {c:Expr}(hc:PT X c tA)(ha:PE X a ta)(hb:PE X b tb):PE X (.IfExp c a b pos) (N4 tA ta tb):=by
 intro pins s σ H Q I h;refine wpAny_IfExp (aF (hc pins s σ H _ I h) fun d s1 ⟨H1,I1,q1⟩=>?_)
 cases d with
 | true=>exact ha pins s1 σ H1 Q I1 q1
 | false=>exact hb pins s1 σ H1 Q I1 q1
end
def bI (K:PySem.W.Frag)(H:Hp)(a:Addr)(xs:List V):Prop :=
 Rd H a (.lst xs) \/
  ∃ (o:Obj)(its:Array Value) (n:Nat),K.lookup a=some o/\o.cls=.type "list"/\o.dict=none/\o.data=.seq its n/\its.size<=sizeLine/\Vals xs its.toList
def bW (K:PySem.W.Frag)(H:Hp)(a:Addr)(xs:List V):Prop :=
 Rd H a (.tup xs) \/
  ∃ (o:Obj)(its:Array Value) (n:Nat),K.lookup a=some o/\o.cls=.type "tuple"/\o.data=.seq its n/\its.size<=sizeLine/\Vals xs its.toList
def Nc:Value->Option V
 | .none=>some .aY
 | .bool b=>some (.bl b)
 | .int i _=>some (.int i)
 | .str x _=>some (.str x)
 | .bytes b _=>some (.lC b)
 | .float b _=>some (.zD b)
 | .ref a=>some (.ref a)
 | .type n=>some (.ty n)
 | _=>none
def RelV.abs {x:V}{u:Value}(r:RelV x u):Nc u=some x:=by
 cases x with
 | aY=>cases r;rfl
 | bl _=>cases r;rfl
 | int _=>obtain ⟨t,rfl⟩:=r;rfl
 | str _=>obtain ⟨t,rfl⟩:=r;rfl
 | lC _=>obtain ⟨t,rfl⟩:=r;rfl
 | zD _=>obtain ⟨t,rfl⟩:=r;rfl
 | ref _=>cases r;rfl
 | ty _=>cases r;rfl
theorem RelV.inj {x y:V}{u:Value}(r:RelV x u)(q:RelV y u):x=y:=Option.some.inj (r.abs.symm.trans q.abs)
theorem Vals.inj:∀ {xs ys:List V}{us:List Value},Vals xs us->Vals ys us->xs=ys
 | _,_,_,.nil,.nil=>rfl
 | _,_,_,.cons r t,.cons r' t'=>by rw [r.inj r',Vals.inj t t']
section
variable {X:Cx}{pins:List (Addr×Obj)}{σ:St}{H:Hp}{s:Shared}{a:Addr}{xs ys:List V}
def bI.of {K:PySem.W.Frag}(h:H a=some (.lst xs)):bI K H a xs:=.inl (.inl h)
def bW.of {K:PySem.W.Frag}(h:H a=some (.tup xs)):bW K H a xs:=.inl (.inl h)
def Inv.list (I:Inv X pins σ H s)(h:bI X.K H a xs):∃ its:List Value,Vals xs its/\PlainL s.heap a its.toArray/\xs.length<=sizeLine:=by
 rcases h with h | ⟨o,its,n,hk,hc,hd,hs,hz,r⟩
 ·obtain ⟨z,its,n,r,e⟩:=h.ok I.hok;exact ⟨its,r,⟨_,n,e,rfl,rfl,rfl⟩,z⟩
 ·refine ⟨its.toList,r,⟨o,n,I.fE a o hk,hc,hd,by simpa using hs⟩,?_⟩
  have e:=r.length;simp only [Array.length_toList] at e;omega
def Inv.tuple (I:Inv X pins σ H s)(h:bW X.K H a xs):∃ its:List Value,Vals xs its/\IsTup s.heap a its.toArray/\xs.length<=sizeLine:=by
 rcases h with h | ⟨o,its,n,hk,hc,hs,hz,r⟩
 ·obtain ⟨z,its,r,p⟩:=h.ok I.hok;exact ⟨its,r,p,z⟩
 ·refine ⟨its.toList,r,⟨o,I.fE a o hk,hc,n,by simpa using hs⟩,?_⟩
  have e:=r.length;simp only [Array.length_toList] at e;omega
def Inv.lY (I:Inv X pins σ H s)(h:bI X.K H a xs)(h':bI X.K H a ys):xs=ys:=by
 obtain ⟨its,r,⟨o,n,e,_,_,d⟩,_⟩:=I.list h;obtain ⟨its',r',⟨o',n',e',_,_,d'⟩,_⟩:=I.list h';rw [e] at e';cases e';rw [d] at d';injection d' with d1 _
 have:its=its':=by simpa using congrArg Array.toList d1
 subst this;exact r.inj r'
def Inv.BE (I:Inv X pins σ H s)(h:bW X.K H a xs)(h':bW X.K H a ys):xs=ys:=by
 obtain ⟨its,r,⟨o,e,_,n,d⟩,_⟩:=I.tuple h;obtain ⟨its',r',⟨o',e',_,n',d'⟩,_⟩:=I.tuple h';rw [e] at e';cases e';rw [d] at d';injection d' with d1 _
 have:its=its':=by simpa using congrArg Array.toList d1
 subst this;exact r.inj r'
end
section
variable {X:Cx}{pins:List (Addr×Obj)}{σ:St}{H:Hp}{s:Shared}{E:Value->Shared->Prop}
end
section
variable {X:Cx}{st:Stmt}{rest:List Stmt}{t u:TS}{e:Expr}{te:TE}{pos:Pos}
def Mv:TS:=fun D σ H=>D.nx σ H
def NI (t u:TS):TS:=fun D σ H=>t { D with nx:=u D } σ H
def HF:mT X [] Mv:=fun _ _ σ H _ I h=>wpAny_execs_nil ⟨σ,H,I,h⟩
def ux (h1:PS X st t)(h2:mT X rest u):mT X (st::rest) (NI t u):=by
 intro pins s σ H D I h;refine wpAny_execs_cons (aF (h1 pins s σ H { D with nx:=u D } I h) fun f s1 q=>?_)
 cases f with
 | next =>
  obtain ⟨σ',H',I',q⟩:=q;exact h2 pins s1 σ' H' D I' q
 | ret v=>exact q
 | brk=>exact q
 | cont=>exact q
def Hy (h1:PS X st t):mT X [st] t:=by
 intro pins s σ H D I h;refine wpAny_execs_cons (aF (h1 pins s σ H D I h) fun f s1 q=>?_)
 cases f with
 | next=>exact wpAny_execs_nil q
 | ret v=>exact q
 | brk=>exact q
 | cont=>exact q
def Inv.quiet {pins:List (Addr×Obj)}{σ:St}{H:Hp}{s:Shared}(I:Inv X pins σ H s):interactive X.env=false:=by simp [interactive,I.ok.kind]
def MK (te:TE):TS:=fun D σ H=>te σ H fun _ H1=>D.nx σ H1
def HG (he:PE X e te)(hs:swapsWith e none pos.line X.env=pure false:=by rfl):PS X (.Expr e pos) (MK te):=by
 intro pins s σ H D I h;exact wpAny_Expr_any (aF (he pins s σ H _ I h) fun v s1 ⟨x,H1,I1,r1,q1⟩=>⟨σ,H1,I1,q1⟩) I.quiet hs
def M6 (te:TE):TS:=fun D σ H=>te σ H D.rt
def BL (he:PE X e te):PS X (.Return (some e) pos) (M6 te):=by
 intro pins s σ H D I h;exact wpAny_Return_some (aF (he pins s σ H _ I h) fun v s1 ⟨x,H1,I1,r1,q1⟩=>⟨x,σ,H1,I1,r1,q1⟩)
def Nm (c:TT)(t u:TS):TS:=fun D σ H=>c σ H fun b H1=>if b=true then t D σ H1 else u D σ H1
def L8 {c:Expr}{a b:List Stmt}{tc:TT}(hc:PT X c tc)(ha:mT X a t)(hb:mT X b u):PS X (.If c a b pos) (Nm tc t u):=by
 intro pins s σ H D I h;refine wpAny_If (aF (hc pins s σ H _ I h) fun d s1 ⟨H1,I1,q1⟩=>?_)
 cases d with
 | true=>exact ha pins s1 σ H1 D I1 q1
 | false=>exact hb pins s1 σ H1 D I1 q1
end
abbrev TG:=V->St->Hp->(St->Hp->Prop)->Prop
abbrev pH:=List V->St->Hp->(St->Hp->Prop)->Prop
def PG (X:Cx)(target:Expr)(t:TG):Prop :=
 ∀ (pins:List (Addr×Obj))(s:Shared)(σ:St)(H:Hp) (v:V)(u:Value)(Q:St->Hp->Prop),Inv X pins σ H s->RelV v u->t v σ H Q ->
  wpAny (model X.prog X.w) X.A (assign target X.env u) (fun _ s'=>∃ σ' H',Inv X pins σ' H' s'/\Q σ' H') X.xe s
def Dj (X:Cx)(ts:List Expr)(t:pH):Prop :=
 ∀ (pins:List (Addr×Obj))(s:Shared)(σ:St)(H:Hp)(vs:List V)(us:List Value)(Q:St->Hp->Prop),Inv X pins σ H s->Vals vs us->t vs σ H Q ->
  wpAny (model X.prog X.w) X.A (assignInOrder ((assignEach ts X.env).map (·.2)) us) (fun _ s'=>∃ σ' H',Inv X pins σ' H' s'/\Q σ' H') X.xe s
abbrev Aw:=V->V->V->Hp->(Hp->Prop)->Prop
def Ek (X:Cx)(t:Aw):Prop :=
 ∀ (pins:List (Addr×Obj))(s:Shared)(σ:St)(H:Hp) (o i v:V)(ov iv u:Value)(Q:Hp->Prop),Inv X pins σ H s->RelV o ov->RelV i iv->RelV v u->t o i v H Q ->
  wpAny (model X.prog X.w) X.A (setItem ov iv u) (fun _ s'=>∃ H',Inv X pins σ H' s'/\Q H') X.xe s
section
variable {X:Cx}{pos:Pos}
def oi (i:Nat):TG:=fun v σ H Q=>Q (σ.set i (some v)) H
def yF {i:Nat}{x:Str}(hN:X.N.Nodup)(hi:X.N[i]?=some x)(hx:Loc X.env.scope x)(hf:X.fn x=true\/X.env.scope.names.lookup x=some .local:=by first | exact .inl rfl | exact .inr rfl | assumption):PG X (.Name x pos) (oi i):=by
 intro pins s σ H v u Q I r h;exact wpAny_assign_Name (vK I hN hi hx r (fun s' I'=>⟨_,H,I',h⟩) hf)
def Kp:pH:=fun vs σ H Q=>vs=[]/\Q σ H
inductive Cd (t:TG)(u:pH)(vs:List V)(σ:St)(H:Hp)(Q:(St->Hp->Prop)):Prop
 | mk:∀ v r,(vs=v::r)->(t v σ H fun σ' H'=>u r σ' H' Q)->Cd t u vs σ H Q
def Ge (t:TG)(u:pH):pH:=fun vs σ H Q=>Cd t u vs σ H Q
def Ip:Dj X [] Kp:=by
 intro pins s σ H vs us Q I r h;obtain ⟨e,h⟩:=h;subst e;cases r;exact assignInOrder_nil ⟨σ,H,I,h⟩
def ES {e:Expr}{es:List Expr}{t:TG}{u:pH}(h1:PG X e t)(h2:Dj X es u)
  (hs:(assignEach (e::es) X.env).map (·.2)=assign e X.env::(assignEach es X.env).map (·.2):=by rfl):Dj X (e::es) (Ge t u):=by
 intro pins s σ H vs us Q I r h;obtain ⟨v,vr,e1,h⟩:=h;subst e1;cases r with
 | cons r rr =>
  rw [hs];refine assignInOrder_cons (aF (h1 pins s σ H _ _ _ I r h) fun _ s1 ⟨σ1,H1,I1,q1⟩=>?_)
  exact h2 pins s1 σ1 H1 _ _ Q I1 rr q1
inductive FG (K:PySem.W.Frag) (n:Nat)(t:pH) (v:V)(σ:St)(H:Hp)(Q:(St->Hp->Prop)):Prop
 | mk:∀ a xs,(v=.ref a)->(bW K H a xs)->(xs.length=n)->(t xs σ H Q)->FG K n t v σ H Q
def kR (K:PySem.W.Frag) (n:Nat)(t:pH):TG:=fun v σ H Q=>FG K n t v σ H Q
def JA {es:List Expr}{k:Nat}{t:pH}{n:Nat}(hc:X.calm=true)(h:Dj X es t)
  (hn:(assignEach es X.env).length=n:=by rfl)(hst:(assignEach es X.env).findIdx? (·.1)=none:=by rfl):PG X (.Tuple es k pos) (kR X.K n t):=by
 intro pins s σ H v u Q I r hw;obtain ⟨a,xs,e1,hq,hl,hw⟩:=hw;subst e1;cases r;obtain ⟨its,rv,ht,hz⟩:=I.tuple hq;refine assign_Tuple_tuple (I.ok.hd hc) ht (by simp [hn,<- hl,rv.length]) hst fun h' hx=>?_
 have I1:Inv X pins σ H { s with heap:=h' }:=I.kept (t':=s.toks) fun b o e=>hx b o (OD (OB e)) e
 exact h pins _ σ H xs _ Q I1 (by simpa using rv) hw
def l9 (to ti:TE)(t:Aw):TG:=fun v σ H Q=>to σ H fun o H1=>ti σ H1 fun i H2=>t o i v H2 fun H3=>Q σ H3
def Kl {o i:Expr}{to ti:TE}{t:Aw}(ho:PE X o to)(hi:PE X i ti)(hs:Ek X t)
  (ha:∀ v,assign (.Subscript o i pos) X.env v=(do
   let ov <- holding [v] (eval o X.env)
   let iv <- holding [v,ov] (eval i X.env)
   standAt pos
   holding [v,ov,iv] (setItem ov iv v)
   release [v,ov,iv] []):=by intro _;rfl):PG X (.Subscript o i pos) (l9 to ti t):=by
 intro pins s σ H v u Q I r h;rw [ha];refine N8 (wpAny_holding (aF (ho pins s σ H _ I h) fun ov s1 ⟨x,H1,I1,r1,q1⟩=>?_))
 refine N8 (wpAny_holding (aF (hi pins s1 σ H1 _ I1 q1) fun iv s2 ⟨y,H2,I2,r2,q2⟩=>?_))
 refine N8 (wpAny_standAt (N8 (wpAny_holding (aF (hs pins s2 σ H2 x y v ov iv u _ I2 r1 r2 r q2) fun _ s3 ⟨H3,I3,q3⟩=>?_))))
 exact wpAny_release ⟨σ,H3,I3,q3⟩
def EL (te:TE)(g:TG):TS:=fun D σ H=>te σ H fun x H1=>g x σ H1 D.nx
def CZ {tg e:Expr}{te:TE}{g:TG}(he:PE X e te)(hg:PG X tg g)(hs:swapsWithSole [tg] e pos.line X.env=pure false:=by rfl)(hw:swappedStores [tg] e X.env=pure none:=by rfl)
  (h1:(assignEach [tg] X.env).map (·.2)=[assign tg X.env]:=by rfl):PS X (.Assign [tg] e pos) (EL te g):=by
 intro pins s σ H D I h;refine wpAny_Assign_stores (aF (he pins s σ H _ I h) fun v s1 ⟨x,H1,I1,r1,q1⟩=>?_) hs hw
 rw [h1];exact aF (hg pins s1 σ H1 x v _ I1 r1 q1) fun _ s2 q=>q
def J1 {i:Nat}{x:Str}{e:Expr}{te:TE}{pos':Pos}(hN:X.N.Nodup)(hi:X.N[i]?=some x)(hx:Loc X.env.scope x)(he:PE X e te)(hs:swapsWith e (some (.Name x pos')) pos.line X.env=pure false:=by rfl)(hf:X.fn x=true\/X.env.scope.names.lookup x=some .local:=by first | exact .inl rfl | exact .inr rfl | assumption) :
  PS X (.Assign [.Name x pos'] e pos) (EL te (oi i)):=by
 intro pins s σ H D I h;refine wpAny_Assign_Name (aF (he pins s σ H _ I h) fun v s1 ⟨y,H1,I1,r1,q1⟩=>?_) hs
 exact vK I1 hN hi hx r1 (fun s2 I2=>⟨_,H1,I2,q1⟩) hf
end
section
variable {X:Cx}{pos:Pos}
def Lg (c:TT)(tb:TS):TS:=fun D σ H=>∃ W:Nat->St->Hp->Prop,(∃ m,W m σ H)/\∀ m σ H,W m σ H ->
 c σ H fun b H1=>if b=true then ∃ N:St->Hp->Prop,(∀ σ' H',N σ' H'->∃ m',m' < m/\W m' σ' H')/\tb { D with nx:=N,ct:=N,bk:=D.nx } σ H1 else D.nx σ H1
def D4 {c:Expr}{body:List Stmt}{tc:TT}{tb:TS}(hp:PassesOwn (model X.prog X.w) X.A X.env X.xe)(hc:PT X c tc)(hb:mT X body tb):PS X (.While c body [] pos) (Lg tc tb):=by
 intro pins s σ H D I h;obtain ⟨W,⟨m0,w0⟩,turn⟩:=h;refine wpAny_While (codeAny_whileLoop (fun n s'=>∃ σ' H',Inv X pins σ' H' s'/\W n σ' H') ?_ m0 ⟨σ,H,I,w0⟩)
 rintro n s1 ⟨σ1,H1,I1,w1⟩;refine wpAny_passesOwn hp (aF (hc pins s1 σ1 H1 _ I1 (turn n σ1 H1 w1)) fun b s2 ⟨H2,I2,q2⟩=>?_)
 cases b with
 | true =>
  obtain ⟨N,hN,q2⟩:=q2;rw [if_pos rfl];refine wpAny_passesOwn hp (aF (hb pins s2 σ1 H2 _ I2 q2) fun f s3 q3=>?_)
  cases f with
  | next =>
   obtain ⟨σ3,H3,I3,n3⟩:=q3;obtain ⟨m',hm,w3⟩:=hN σ3 H3 n3;exact ⟨m',hm,σ3,H3,I3,w3⟩
  | cont =>
   obtain ⟨σ3,H3,I3,n3⟩:=q3;obtain ⟨m',hm,w3⟩:=hN σ3 H3 n3;exact ⟨m',hm,σ3,H3,I3,w3⟩
  | brk=>exact q3
  | ret v=>exact q3
 | false =>
  rw [if_neg ON];exact wpAny_execs_nil ⟨σ1,H2,I2,q2⟩
end
structure It where
 go:Nat->Hp->Prop
 oN:Nat->Hp->V->Hp->Prop
 stop:Nat->Hp->Prop
def dS (X:Cx)(pins:List (Addr×Obj))(H:Hp)(b:Addr):Prop :=
 H b=none/\b≠X.env.locals/\b∉X.fs/\(b∈X.ex\/X.s₀.heap.objs.size<=b)/\(∀ x c,X.env.cells.lookup x=some c->c≠b)/\∀ p∈X.pn++pins,p.1≠b
def Inv.nL {X:Cx}{pins:List (Addr×Obj)}{σ:St}{H H':Hp}{s:Shared}{b:Addr}(I:Inv X pins σ H s)(hb:s.heap.objs.size<=b)(hn:H' b=none):dS X pins H' b:=by
 refine ⟨hn,Nat.ne_of_gt (OL I.lt hb),I.Ef hb,.inr (Nat.le_trans I.sz hb),fun x c e z=>?_,fun p hp z=>?_⟩
 ·obtain ⟨v,q⟩:=I.cell x c e;exact absurd (OL q.lt (by rw [z];exact hb)) (Nat.lt_irrefl _)
 ·exact absurd (OL (OB (I.pin p hp).1) (by rw [z];exact hb)) (Nat.lt_irrefl _)
structure Turn (P:Program)(w:World)(K:PySem.W.Frag)(tg:Expr)(J:It)(fp:List Addr)(it:Addr)(tn:Nat->Heap->Prop):Prop where
 mem:it∈fp
 obj:∀ i h,tn i h->∀ b∈fp,∃ o,h.get? b=some o/\∀ v,o.data≠.cell v
 keep:∀ i h h',tn i h->(∀ b∈fp,∀ o,h.get? b=some o->h'.get? b=some o)->tn i h'
 item:∀ (X:Cx),X.prog=P->X.w=w->X.K=K->X.calm=true->∀ (i:Nat)(pins:List (Addr×Obj))(s:Shared)(σ:St)(H:Hp)(E:Value->Shared->Prop),Inv X pins σ H s->(∀ b∈fp,dS X pins H b)->tn i s.heap->J.go i H ->
  wpAny (model P w) X.A (pyNext (.ref it)) (fun r s1=>∃ u,r=some u /\
   wpAny (model P w) X.A (letOwnedTupleGo tg (.ref it) u) (fun _ s2=>∃ x H',Inv X pins σ H' s2/\RelV x u/\J.oN i H x H'/\tn (i + 1) s2.heap/\∀ b∈fp,H' b=none) E s1) E s
 done:∀ (X:Cx),X.prog=P->X.w=w->X.K=K->X.calm=true->∀ (i:Nat)(pins:List (Addr×Obj))(s:Shared)(σ:St)(H:Hp)(E:Value->Shared->Prop),Inv X pins σ H s->(∀ b∈fp,dS X pins H b)->tn i s.heap->J.stop i H ->
  wpAny (model P w) X.A (pyNext (.ref it)) (fun r s1=>r=none/\Inv X pins σ H s1) E s
 self:∀ (A:Around) (i:Nat)(s:Shared)(Q:Value->Shared->Prop)(E:Value->Shared->Prop),tn i s.heap->Q (.ref it) s->wpAny (model P w) A (pyIter (.ref it)) Q E s
abbrev TI:=St->Hp->(It->Hp->Prop)->Prop
def Gg (X:Cx)(pins:List (Addr×Obj))(σ:St)(tg:Expr)(R:It->Hp->Prop)(itv:Value)(s2:Shared):Prop :=
 ∃ (it:Addr)(fp:List Addr)(tn:Nat->Heap->Prop)(J:It)(H':Hp),itv=.ref it/\Inv X pins σ H' s2/\Turn X.prog X.w X.K tg J fp it tn/\tn 0 s2.heap/\(∀ b∈fp,dS X pins H' b)/\R J H'
def PI (X:Cx)(tg iter:Expr)(wi:TI):Prop :=
 ∀ (pins:List (Addr×Obj))(s:Shared)(σ:St)(H:Hp)(R:It->Hp->Prop),Inv X pins σ H s->wi σ H R ->
  wpAny (model X.prog X.w) X.A (eval iter X.env) (fun v s1=>wpAny (model X.prog X.w) X.A (pyIter v) (Gg X pins σ tg R) X.xe s1) X.xe s
def uo {M:Model}{A:Around}{E:Value->Shared->Prop}{s:Shared}{tg:Expr}{it:Addr}{u:Value}{o:Obj}{n:String}{vs:Array Value}{Q:Unit->Shared->Prop}(ho:s.heap.get? it=some o)(hc:o.cls=.type n)(hd:o.data=.fields vs)
  (hn:["enumerate","zip","dict_itemiterator","dict_reverseitemiterator","odict_iterator","itertools.zip_longest","itertools.pairwise"].contains n=false)(hQ:Q () s):wpAny M A (letOwnedTupleGo tg (.ref it) u) Q E s:=by
 unfold letOwnedTupleGo;cases tg <;> first
  | exact O0 hQ
  | (cases u <;> first
    | exact O0 hQ
    | (refine N8 (wpAny_load ho ?_)
       rw [hc,hd];show wpAny M A (if (["enumerate","zip","dict_itemiterator","dict_reverseitemiterator","odict_iterator","itertools.zip_longest","itertools.pairwise"].contains n && vs[0]? == some (rawInt _))=true then _ else _) Q E s
       rw [if_neg (by intro h;rw [hn,Bool.false_and] at h;cases h)]
       exact O0 hQ))
def FH (K:PySem.W.Frag)(a:Addr):It :=
 ⟨fun i H=>∃ xs x,bI K H a xs/\xs[i]?=some x,fun i H x H'=>H'=H/\∀ xs,bI K H a xs->xs[i]?=some x,fun i H=>∃ xs,bI K H a xs/\xs.length<=i⟩
def GI (K:PySem.W.Frag)(a:Addr):It :=
 ⟨fun i H=>∃ xs x,bW K H a xs/\xs[i]?=some x,fun i H x H'=>H'=H/\∀ xs,bW K H a xs->xs[i]?=some x,fun i H=>∃ xs,bW K H a xs/\xs.length<=i⟩
def CS (lo:Int) (n:Nat):It:=⟨fun i _=>i < n,fun i H x H'=>H'=H/\x=.int (lo + i),fun i _=>n<=i⟩
def Ci {P:Program}{w:World}{K:PySem.W.Frag}{tg:Expr}(a it:Addr):Turn P w K tg (FH K a) [it] it (fun i h=>h.IsListIter it a i) where
 mem:=by simp
 obj:=fun i h st b hb=>by
  have e:b=it:=by simpa using hb
  subst e;obtain ⟨o,e,c,d⟩:=st;exact ⟨o,e,fun v z=>by rw [d] at z;cases z⟩
 keep:=fun i h h' st k=>st.at fun o e=>k it (by simp) o e
 item:=by
  intro X hP hw hK hc i pins s σ H E I hf st hg;subst hP hw hK;obtain ⟨xs,x,hq,hx⟩:=hg;obtain ⟨its,rv,p,hz⟩:=I.list hq;obtain ⟨u,hu,ru⟩:=rv.get hx;obtain ⟨f0,f1,f2,f3,f4,f5⟩:=hf it (by simp)
  refine wpAny_pyNext_list_item st p.isList (x:=u) (by simpa using hu) fun h' st' sb=>?_
  have I1:Inv X pins σ H { s with heap:=h' }:=I.turned (t':=s.toks) (fun b o hb e=>(sb.2 b hb).trans e) f0 f1 f3 f4 f5
  obtain ⟨o,e,c,d⟩:=id st';exact ⟨u,rfl,uo (s:={ s with heap:=h' }) e c d (by decide) ⟨x,H,I1,ru,⟨rfl,fun ys hy=>by rw [I.lY hy hq];exact hx⟩,st',fun b hb=>(hf b hb).1⟩⟩
 done:=by
  intro X hP hw hK hc i pins s σ H E I hf st hg;subst hP hw hK;obtain ⟨xs,hq,hx⟩:=hg;obtain ⟨its,rv,p,hz⟩:=I.list hq;obtain ⟨f0,f1,f2,f3,f4,f5⟩:=hf it (by simp)
  have hl:=rv.length;exact wpAny_pyNext_list_end (I.ok.hd hc) st p.isList (by simp;omega) fun h' eb=>⟨rfl,I.turned (t':=s.toks) (fun b o hb e=>eb b o hb e) f0 f1 f3 f4 f5⟩
 self:=fun _ _ _ _ _ st h=>wpAny_pyIter_listiter st h
def An {P:Program}{w:World}{K:PySem.W.Frag}{tg:Expr}(a it:Addr):Turn P w K tg (GI K a) [it] it (fun i h=>h.IsTupleIter it a i) where
 mem:=by simp
 obj:=fun i h st b hb=>by
  have e:b=it:=by simpa using hb
  subst e;obtain ⟨o,e,c,d⟩:=st;exact ⟨o,e,fun v z=>by rw [d] at z;cases z⟩
 keep:=fun i h h' st k=>st.at fun o e=>k it (by simp) o e
 item:=by
  intro X hP hw hK hc i pins s σ H E I hf st hg;subst hP hw hK;obtain ⟨xs,x,hq,hx⟩:=hg;obtain ⟨its,rv,p,hz⟩:=I.tuple hq;obtain ⟨u,hu,ru⟩:=rv.get hx;obtain ⟨f0,f1,f2,f3,f4,f5⟩:=hf it (by simp)
  refine wpAny_pyNext_tuple_item st (show s.heap.IsTuple a its.toArray from p) (x:=u) (by simpa using hu) fun h' st' sb=>?_
  have I1:Inv X pins σ H { s with heap:=h' }:=I.turned (t':=s.toks) (fun b o hb e=>(sb.2 b hb).trans e) f0 f1 f3 f4 f5
  obtain ⟨o,e,c,d⟩:=id st';exact ⟨u,rfl,uo (s:={ s with heap:=h' }) e c d (by decide) ⟨x,H,I1,ru,⟨rfl,fun ys hy=>by rw [I.BE hy hq];exact hx⟩,st',fun b hb=>(hf b hb).1⟩⟩
 done:=by
  intro X hP hw hK hc i pins s σ H E I hf st hg;subst hP hw hK;obtain ⟨xs,hq,hx⟩:=hg;obtain ⟨its,rv,p,hz⟩:=I.tuple hq;obtain ⟨f0,f1,f2,f3,f4,f5⟩:=hf it (by simp)
  have hl:=rv.length;exact wpAny_pyNext_tuple_end (I.ok.hd hc) st (show s.heap.IsTuple a its.toArray from p) (by simp;omega) fun h' eb=>⟨rfl,I.turned (t':=s.toks) (fun b o hb e=>eb b o hb e) f0 f1 f3 f4 f5⟩
 self:=fun _ _ _ _ _ st h=>wpAny_pyIter_tupleiter st h
def AK {P:Program}{w:World}{K:PySem.W.Frag}{tg:Expr}(it:Addr) (lo:Int) (n:Nat):Turn P w K tg (CS lo n) [it] it (fun i h=>IsRangeIter h it (lo + (i:Nat) * 1) ((n:Int) - (i:Nat)) 1) where
 mem:=by simp
 obj:=fun i h st b hb=>by
  have e:b=it:=by simpa using hb
  subst e;exact ⟨_,st,fun v z=>by
   have z':Data.fields _=Data.cell v:=z;cases z'⟩
 keep:=fun i h h' st k=>k it (by simp) _ st
 item:=by
  intro X hP hw hK hc i pins s σ H E I hf st hg;subst hP hw hK;obtain ⟨f0,f1,f2,f3,f4,f5⟩:=hf it (by simp)
  have W:=Walks.range (prog:=X.prog) (w:=X.w) (I.ok.hd hc) it lo 1 n;refine W.item i s _ _ hg st fun v h' tk hv st' kk=>?_
  obtain ⟨t,rfl⟩:=hv;have I1:Inv X pins σ H { s with heap:=h',toks:=tk }:=I.turned (fun b o hb e=>kk b o (by simpa using hb) e) f0 f1 f3 f4 f5
  refine ⟨_,rfl,uo (s:={ s with heap:=h',toks:=tk }) (n:="range_iterator") st' rfl rfl (by decide) ⟨.int (lo + i),H,I1,⟨t,?_⟩,⟨rfl,rfl⟩,st',fun b hb=>(hf b hb).1⟩⟩
  rw [Int.mul_one]
 done:=by
  intro X hP hw hK hc i pins s σ H E I hf st hg;subst hP hw hK;obtain ⟨f0,f1,f2,f3,f4,f5⟩:=hf it (by simp)
  exact wpAny_pyNext_range_end (I.ok.hd hc) st (by have:n<=i:=hg;omega) fun h' eb=>⟨rfl,I.turned (t':=s.toks) (fun b o hb e=>eb b o hb e) f0 f1 f3 f4 f5⟩
 self:=fun _ _ _ _ _ st h=>wpAny_pyIter_rangeiter st h
section
variable {X:Cx}{tg:Expr}
def vp {pins:List (Addr×Obj)}{σ:St}{H:Hp}{s:Shared}{R:It->Hp->Prop}{E:Value->Shared->Prop}{lo hi:Int}{t u v:Tok}{tk:Nat}(I:Inv X pins σ H s)(h1:-(2 ^ 62)<=lo)(h2:lo < 2 ^ 62)(h3:-(2 ^ 62)<=hi)(h4:hi < 2 ^ 62)
  (q:R (CS lo (hi - lo).toNat) H):wpAny (model X.prog X.w) X.A (pyIter (.ref s.heap.objs.size)) (Gg X pins σ tg R) E { s with heap:=s.heap.push { cls:=.type "range",data:=.fields #[.int lo t,.int hi u,.int 1 v] },toks:=tk }:=by
 refine wpAny_pyIter_range (IsRange.new ..) (small_one h1 h2 h3 h4) ?_;have I1:Inv X pins σ H { s with heap:=s.heap.push { cls:=.type "range",data:=.fields #[.int lo t,.int hi u,.int 1 v] },toks:=tk }:=I.kept fun b o e=>OF _ e
 refine ⟨(s.heap.push { cls:=.type "range",data:=.fields #[.int lo t,.int hi u,.int 1 v] }).objs.size,[(s.heap.push { cls:=.type "range",data:=.fields #[.int lo t,.int hi u,.int 1 v] }).objs.size],_,_,H,rfl,
  I1.kept (t':=tk) fun b o e=>OF _ e,AK _ lo (hi - lo).toNat,?_,fun b hb=>?_,q⟩
 ·have e1:lo + ((0:Nat):Int) * 1=lo:=by simp
  have e2:(((hi - lo).toNat:Nat):Int) - ((0:Nat):Int)=Builtin.Range.rangeSize lo hi 1:=by rw [rangeSize_one];split <;> omega
  show IsRangeIter _ _ (lo + ((0:Nat):Int) * 1) ((((hi - lo).toNat:Nat):Int) - ((0:Nat):Int)) 1;rw [e1,e2];exact Of _ rfl
 ·have e:b=(s.heap.push { cls:=.type "range",data:=.fields #[.int lo t,.int hi u,.int 1 v] }).objs.size:=by simpa using hb
  subst e;exact I1.nL (O5 _) (I1.hok.fresh (O5 _))
inductive BJ (R:(It->Hp->Prop))(vs:List V)(H1:Hp):Prop
 | mk:∀ j:Int,(vs=[.int j])->(-(2 ^ 62)<=j)->(j < 2 ^ 62)->(R (CS 0 j.toNat) H1)->BJ R vs H1
def LM (ta:TA):TI:=fun σ H R=>ta σ H fun vs H1=>BJ R vs H1
inductive BQ (R:(It->Hp->Prop))(vs:List V)(H1:Hp):Prop
 | mk:∀ i j:Int,(vs=[.int i,.int j])->((-(2 ^ 62)<=i/\i < 2 ^ 62/\-(2 ^ 62)<=j/\j < 2 ^ 62))->(R (CS i (j - i).toNat) H1)->BQ R vs H1
def Ml (ta:TA):TI:=fun σ H R=>ta σ H fun vs H1=>BQ R vs H1
def Cq {a:Expr}{ta:TA}{p pos:Pos}(hg:Gl X "range")(hm:X.mg "range"=none)(ha:PA X [a] ta)(hs:starEach [a] X.env=[(false,eval a X.env)]:=by rfl):PI X tg (.Call (.Name "range" p) [a] [] pos) (LM ta):=by
 intro pins s σ H R I h;refine Call_ (jR I hg hm boot_range (PyProof.Rows.callWith_type1 (aF (ha pos pins s σ H _ I h) fun us s1 ⟨vs,H1,I1,r1,q1⟩=>?_) hs rfl))
 obtain ⟨j,e,q1,q2,q⟩:=q1;subst e;cases r1 with
 | cons r rr =>
  cases rr;obtain ⟨t,rfl⟩:=r;exact call_range_1 (vp I1 (by omega) (by omega) q1 q2 (by simpa using q))
def CF {a b:Expr}{ta:TA}{p pos:Pos}(hg:Gl X "range")(hm:X.mg "range"=none)(ha:PA X [a,b] ta)(hs:starEach [a,b] X.env=[(false,eval a X.env),(false,eval b X.env)]:=by rfl)(hs2:starEach [b] X.env=[(false,eval b X.env)]:=by rfl) :
  PI X tg (.Call (.Name "range" p) [a,b] [] pos) (Ml ta):=by
 intro pins s σ H R I h;refine Call_ (jR I hg hm boot_range (PyProof.Rows.callWith_type1 (aF (ha pos pins s σ H _ I h) fun us s1 ⟨vs,H1,I1,r1,q1⟩=>?_) (by rw [hs,hs2]) (by rw [hs2];rfl)))
 obtain ⟨i,j,e,⟨q1,q2,q3,q4⟩,q⟩:=q1;subst e;cases r1 with
 | cons r rr =>
  cases rr with
  | cons r' rr =>
   cases rr;obtain ⟨t,rfl⟩:=r;obtain ⟨t',rfl⟩:=r';exact call_range_2 (vp I1 q1 q2 q3 q4 q)
def Nv (wi:TI)(g:TG)(tb:TS):TS:=fun D σ H=>wi σ H fun J H1=>∃ W:Nat->Nat->St->Hp->Prop,(∃ m,W 0 m σ H1)/\∀ i m σ H,W i m σ H ->
 (J.stop i H/\D.nx σ H)\/(J.go i H/\∃ N:St->Hp->Prop,(∀ σ' H',N σ' H'->∃ m',m' < m/\W (i + 1) m' σ' H')/\∀ x H',J.oN i H x H'->g x σ H' fun σ2 H2=>tb { D with nx:=N,ct:=N,bk:=D.nx } σ2 H2)
def fS (fp:List Addr)(h:Heap):List (Addr×Obj):=fp.filterMap fun b=>(h.get? b).map fun o=>(b,o)
def fB {fp:List Addr}{h:Heap}{b:Addr}{o:Obj}(hb:b∈fp)(e:h.get? b=some o):(b,o)∈fS fp h:=List.mem_filterMap.mpr ⟨b,hb,by rw [e];rfl⟩
def nP {fp:List Addr}{h:Heap}{p:Addr×Obj}(hp:p∈fS fp h):p.1∈fp/\h.get? p.1=some p.2:=by
 obtain ⟨b,hb,e⟩:=List.mem_filterMap.mp hp;cases q:h.get? b with
 | none=>rw [q] at e;cases e
 | some o =>
  rw [q] at e;have e':(b,o)=p:=Option.some.inj e;subst e';exact ⟨hb,q⟩
def Inv.pinned {pins:List (Addr×Obj)}{σ:St}{H:Hp}{s:Shared}{fp:List Addr}(I:Inv X pins σ H s)(hf:∀ b∈fp,dS X pins H b)(ho:∀ b∈fp,∃ o,s.heap.get? b=some o/\∀ v,o.data≠.cell v):Inv X (pins++fS fp s.heap) σ H s :=
 I.jr fun p hp=>(OT.mp hp).elim (fun z=>I.pin p (List.mem_append_right _ z)) fun z=>by
  obtain ⟨hb,e⟩:=nP z;obtain ⟨f0,f1,f2,_⟩:=hf p.1 hb;obtain ⟨o,e',d⟩:=ho p.1 hb;rw [e] at e';cases e';exact ⟨e,f0,f1,f2,d⟩
def Inv.pN {pins pl:List (Addr×Obj)}{σ:St}{H:Hp}{s:Shared}(I:Inv X (pins++pl) σ H s):Inv X pins σ H s:=I.jr fun p hp=>I.pin p (List.mem_append_right _ (List.mem_append_left _ hp))
def JC {iter:Expr}{body:List Stmt}{wi:TI}{g:TG}{tb:TS}{pos:Pos}(hp:PassesOwn (model X.prog X.w) X.A X.env X.xe)(hc:X.calm=true)(hi:PI X tg iter wi)(hg:PG X tg g)(hb:mT X body tb)
  (hs:∀ x,foldedSetIterable iter X.env x=pure x:=by intro _;rfl):PS X (.For tg iter body [] pos) (Nv wi g tb):=by
 intro pins s σ H D I h;refine wpAny_For (aF (hi pins s σ H _ I h) fun v s1 h1=>aF h1 fun itv s2 h2=>?_) hs
 obtain ⟨it,fp,tn,J,H2,e,I2,T,st2,f2,W,⟨m0,w0⟩,turn⟩:=h2;subst e
 -- what stays true of the iterator's objects through the loop
 have stat:∀ {H':Hp},(∀ b∈fp,H' b=none)->∀ b∈fp,dS X pins H' b:=fun hn b hb=>⟨hn b hb,(f2 b hb).2⟩
 refine codeAny_forLoop_any (fun n s'=>∃ i σ' H',Inv X pins σ' H' s'/\tn i s'.heap/\(∀ b∈fp,H' b=none)/\W i n σ' H') ?_ m0 ⟨0,σ,H2,I2,st2,fun b hb=>(f2 b hb).1,w0⟩
 rintro n s3 ⟨i,σ3,H3,I3,st3,fr3,w3⟩;rcases turn i n σ3 H3 w3 with ⟨stop,qn⟩ | ⟨go,N,hN,step⟩
 ·refine wpAny_passesOwn hp (aF (T.done X rfl rfl rfl hc i pins s3 σ3 H3 X.xe I3 (stat fr3) st3 stop) fun r s4 ⟨hr,I4⟩=>?_)
  subst hr;exact wpAny_execs_nil ⟨σ3,H3,I4,qn⟩
 ·refine wpAny_passesOwn hp (aF (T.item X rfl rfl rfl hc i pins s3 σ3 H3 X.xe I3 (stat fr3) st3 go) fun r s4 ⟨u,hr,h4⟩=>?_)
  subst hr;refine wpAny_passesOwn hp (aF h4 fun _ s5 ⟨x,H5,I5,r5,y5,st5,fr5⟩=>?_)
  have I5':=I5.pinned (stat fr5) (T.obj _ _ st5);refine wpAny_passesOwn hp (aF (hg _ s5 σ3 H5 x u _ I5' r5 (step x H5 y5)) fun _ s6 ⟨σ6,H6,I6,q6⟩=>?_)
  refine wpAny_passesOwn hp (aF (hb _ s6 σ6 H6 _ I6 q6) fun f s7 q7=>?_)
  have again:∀ {σ7:St}{H7:Hp},Inv X (pins++fS fp s5.heap) σ7 H7 s7->N σ7 H7->∃ m,m < n/\∃ i σ' H',Inv X pins σ' H' s7/\tn i s7.heap/\(∀ b∈fp,H' b=none)/\W i m σ' H':=fun {σ7 H7} I7 n7=>by
   obtain ⟨m',hm,w7⟩:=hN σ7 H7 n7;refine ⟨m',hm,i + 1,σ7,H7,I7.pN,T.keep _ _ _ st5 fun b hb o e=>(I7.pin (b,o) (List.mem_append_right _ (List.mem_append_right _ (fB hb e)))).1,fun b hb=>?_,w7⟩
   obtain ⟨o,e,d⟩:=T.obj _ _ st5 b hb;exact (I7.pin (b,o) (List.mem_append_right _ (List.mem_append_right _ (fB hb e)))).2.1
  cases f with
  | next=>obtain ⟨σ7,H7,I7,n7⟩:=q7;exact again I7 n7
  | cont=>obtain ⟨σ7,H7,I7,n7⟩:=q7;exact again I7 n7
  | brk=>obtain ⟨σ7,H7,I7,q7⟩:=q7;exact ⟨σ7,H7,I7.pN,q7⟩
  | ret v=>obtain ⟨x7,σ7,H7,I7,r7,q7⟩:=q7;exact ⟨x7,σ7,H7,I7.pN,r7,q7⟩
end
abbrev R2:=V->V->Hp->VK->Prop
def bG (X:Cx)(f:Value->Value->Sem Value)(r:R2):Prop :=
 ∀ (pins:List (Addr×Obj))(s:Shared)(σ:St)(H:Hp) (x y:V)(v u:Value)(Q:VK),Inv X pins σ H s->RelV x v->RelV y u->r x y H Q ->
  wpAny (model X.prog X.w) X.A (f v u) (EP X pins σ Q) X.xe s
def Fv (X:Cx)(f:Value->Sem Value)(r:V->Hp->VK->Prop):Prop :=
 ∀ (pins:List (Addr×Obj))(s:Shared)(σ:St)(H:Hp) (x:V)(v:Value)(Q:VK),Inv X pins σ H s->RelV x v->r x H Q ->
  wpAny (model X.prog X.w) X.A (f v) (EP X pins σ Q) X.xe s
def cj (X:Cx)(f:Value)(r:List V->Hp->VK->Prop):Prop :=
 ∀ (pins:List (Addr×Obj))(s:Shared)(σ:St)(H:Hp)(xs:List V)(us:List Value)(Q:VK),Inv X pins σ H s->Vals xs us->r xs H Q ->
  wpAny (model X.prog X.w) X.A (call f us) (EP X pins σ Q) X.xe s
def NF (X:Cx)(r:V->Hp->(Bool->Hp->Prop)->Prop):Prop :=
 ∀ (pins:List (Addr×Obj))(s:Shared)(σ:St)(H:Hp) (x:V)(v:Value)(Q:Bool->Hp->Prop),Inv X pins σ H s->RelV x v->r x H Q ->
  wpAny (model X.prog X.w) X.A (truthy v) (TP X pins σ Q) X.xe s
def K3 (r:R2)(ta tb:TE):TE:=fun σ H Q=>ta σ H fun x H1=>tb σ H1 fun y H2=>r x y H2 Q
def NL (r:V->Hp->VK->Prop)(ta:TE):TE:=fun σ H Q=>ta σ H fun x H1=>r x H1 Q
inductive MW (C:Int->Int->Prop)(g:Int->Int->V) (x:V) (y:V)(H:Hp)(Q:VK):Prop
 | mk:∀ i j,(x=.int i)->(y=.int j)->(C i j)->(Q (g i j) H)->MW C g x y H Q
def rI (C:Int->Int->Prop)(g:Int->Int->V):R2:=fun x y H Q=>MW C g x y H Q
inductive IY (g:Int->Int->V) (x:V) (y:V)(H:Hp)(Q:VK):Prop
 | mk:∀ i j,(x=.int i)->(y=.int j)->(Q (g i j) H)->IY g x y H Q
def mJ (g:Int->Int->V):R2:=fun x y H Q=>IY g x y H Q
inductive MU (g:Int->V) (x:V)(H:Hp)(Q:VK):Prop
 | mk:∀ i,(x=.int i)->(Q (g i) H)->MU g x H Q
def rU (g:Int->V):V->Hp->VK->Prop:=fun x H Q=>MU g x H Q
section
variable {X:Cx}{a b c:Expr}{ta tb tc:TE}{pos:Pos}
def DG (ha:PE X a ta)(hb:PE X b tb){pins:List (Addr×Obj)}{s:Shared}{σ:St}{H:Hp}{R:V->V->Hp->Prop}(I:Inv X pins σ H s)
  (h:ta σ H fun x H1=>tb σ H1 fun y H2=>R x y H2){Q:Value->Shared->Prop}{f:Value->Value->Sem Value}
  (hf:∀ v u s2 x y H2,Inv X pins σ H2 s2->RelV x v->RelV y u->R x y H2->wpAny (model X.prog X.w) X.A (f v u) Q X.xe s2) :
  wpAny (model X.prog X.w) X.A (eval a X.env) (fun v s₁=>wpAny (model X.prog X.w) X.A (eval b X.env) (fun u s₂=>wpAny (model X.prog X.w) X.A (f v u) Q X.xe s₂) X.xe s₁) X.xe s:=by
 refine aF (ha pins s σ H _ I h) fun v s1 ⟨x,H1,I1,r1,q1⟩=>?_
 refine aF (hb pins s1 σ H1 _ I1 q1) fun u s2 ⟨y,H2,I2,r2,q2⟩=>?_
 exact hf v u s2 x y H2 I2 r1 r2 q2
def Mx {op:Operator}{r:R2}(ho:bG X (binaryOp op) r)(ha:PE X a ta)(hb:PE X b tb):PE X (.BinOp a op b pos) (K3 r ta tb):=by
 intro pins s σ H Q I h;exact wpAny_BinOp (DG ha hb I h fun v u s2 x y H2 I2 rx ry q=>ho pins s2 σ H2 x y v u Q I2 rx ry q)
def Mg {op:UnaryOp}{r:V->Hp->VK->Prop}(ho:Fv X (unaryOp op) r)(ha:PE X a ta):PE X (.UnaryOp op a pos) (NL r ta):=by
 intro pins s σ H Q I h;exact UnaryOp_ (aF (ha pins s σ H _ I h) fun v s1 ⟨x,H1,I1,r1,q1⟩=>ho pins s1 σ H1 x v Q I1 r1 q1)
def Gw {f:Value->Value->Sem Value}{C:Int->Int->Prop}{g:Int->Int->Int}
  (rule:∀ (i j:Int)(t u:Tok)(s:Shared)(Q:Value->Shared->Prop)(E:Value->Shared->Prop),C i j->Q (.int (g i j) s.toks) { s with toks:=s.toks + 1 }->wpAny (model X.prog X.w) X.A (f (.int i t) (.int j u)) Q E s) :
  bG X f (rI C fun i j=>.int (g i j)):=by
 intro pins s σ H x y v u Q I rx ry h;obtain ⟨i,j,rfl,rfl,hc,q⟩:=h;obtain ⟨t,rfl⟩:=rx;obtain ⟨t',rfl⟩:=ry;exact rule i j t t' s _ _ hc ⟨.int (g i j),H,I.tok _,⟨_,rfl⟩,q⟩
def J9 {f:Value->Value->Sem Value}{g:Int->Int->Int}
  (rule:∀ (i j:Int)(t u:Tok)(s:Shared)(Q:Value->Shared->Prop)(E:Value->Shared->Prop),Q (.int (g i j) s.toks) { s with toks:=s.toks + 1 }->wpAny (model X.prog X.w) X.A (f (.int i t) (.int j u)) Q E s) :
  bG X f (mJ fun i j=>.int (g i j)):=by
 intro pins s σ H x y v u Q I rx ry h;obtain ⟨i,j,rfl,rfl,q⟩:=h;obtain ⟨t,rfl⟩:=rx;obtain ⟨t',rfl⟩:=ry;exact rule i j t t' s _ _ ⟨.int (g i j),H,I.tok _,⟨_,rfl⟩,q⟩
def zU {f:Value->Value->Sem Value}{g:Int->Int->Bool}
  (rule:∀ (i j:Int)(t u:Tok)(s:Shared)(Q:Value->Shared->Prop)(E:Value->Shared->Prop),Q (.bool (g i j)) s->wpAny (model X.prog X.w) X.A (f (.int i t) (.int j u)) Q E s) :
  bG X f (mJ fun i j=>.bl (g i j)):=by
 intro pins s σ H x y v u Q I rx ry h;obtain ⟨i,j,rfl,rfl,q⟩:=h;obtain ⟨t,rfl⟩:=rx;obtain ⟨t',rfl⟩:=ry;exact rule i j t t' s _ _ ⟨.bl (g i j),H,I,rfl,q⟩
def Er (i j:Int):Prop:=0<=j/\j<=1000000/\i.natAbs < 2 ^ 64
def ja (i j:Int):Prop:=(-(2 ^ 64) < i/\i < 2 ^ 64)\/(-(2 ^ 64) < j/\j < 2 ^ 64)
def ja.ok {i j:Int}(h:ja i j):IntMulOk i j:=by
 rcases h with ⟨h1,h2⟩ | ⟨h1,h2⟩
 ·exact .of_left (intBits_le_64 h1 h2)
 ·exact .of_right (intBits_le_64 h1 h2)
def K7:bG X (binaryOp .Add) (mJ fun i j=>.int (i + j)):=J9 fun _ _ _ _ _ _ _ q=>add_int q
def K8:bG X (binaryOp .Sub) (mJ fun i j=>.int (i - j)):=J9 fun _ _ _ _ _ _ _ q=>sub_int q
def Ku:bG X (binaryOp .Mult) (rI ja fun i j=>.int (i * j)):=Gw fun _ _ _ _ _ _ _ hc q=>mul_int q hc.ok
def JG:bG X (binaryOp .Mod) (rI (fun _ j=>0 < j) fun i j=>.int (i % j)):=Gw fun i j _ _ _ _ _ hc q=>by
 have h1:(0:Int) < j:=hc;exact mod_int' (by omega) (by rw [Int.fmod_eq_emod_of_nonneg i (by omega)];exact q)
def Lk:bG X (binaryOp .Pow) (rI Er fun i j=>.int (i ^ j.toNat)):=Gw fun _ _ _ _ _ _ _ hc q=>pow_int_small hc.1 hc.2.1 hc.2.2 q
def NW {f:Value->Sem Value}{g:Int->Int}
  (rule:∀ (i:Int)(t:Tok)(s:Shared)(Q:Value->Shared->Prop)(E:Value->Shared->Prop),Q (.int (g i) s.toks) { s with toks:=s.toks + 1 }->wpAny (model X.prog X.w) X.A (f (.int i t)) Q E s) :
  Fv X f (rU fun i=>.int (g i)):=by
 intro pins s σ H x v Q I rx h;obtain ⟨i,rfl,q⟩:=h;obtain ⟨t,rfl⟩:=rx;exact rule i t s _ _ ⟨.int (g i),H,I.tok _,⟨_,rfl⟩,q⟩
def IL:Fv X (unaryOp .USub) (rU fun i=>.int (-i)):=NW fun _ _ _ _ _ q=>neg_int q
end
def EI:V->V->Bool
 | .aY,.aY=>true | .aY,.int _=>true | .int _,.aY=>true | .aY,.bl _=>true | .bl _,.aY=>true | .aY,.str _=>true | .str _,.aY=>true
 | .int _,.int _=>true | .bl _,.bl _=>true | .str _,.str _=>true | .lC _,.lC _=>true
 | .int _,.str _=>true | .str _,.int _=>true | .bl _,.str _=>true | .str _,.bl _=>true
 | _,_=>false
def M4:R2:=fun x y H Q=>EI x y=true/\Q (.bl (decide (x=y))) H
def MQ:R2:=fun x y H Q=>EI x y=true/\Q (.bl (!decide (x=y))) H
def yR {i j:Int}:decide (V.int i=V.int j)=(i == j):=by
 rw [Bool.eq_iff_iff];simp
def Dh {i j:Bool}:decide (V.bl i=V.bl j)=(i == j):=by
 rw [Bool.eq_iff_iff];simp
def zz {i j:Str}:decide (V.str i=V.str j)=(i == j):=by
 rw [Bool.eq_iff_iff];simp
def zF {i j:Array UInt8}:decide (V.lC i=V.lC j)=(i.toList == j.toList):=by
 rw [Bool.eq_iff_iff];cases i;cases j;simp
section
variable {X:Cx}{a b c:Expr}{ta tb tc:TE}{pos:Pos}
def aQ {pins:List (Addr×Obj)}{σ:St}{H:Hp}{s:Shared}{Q:VK}{k k':Bool}(I:Inv X pins σ H s)(q:Q (.bl k) H)(e:k=k'):EP X pins σ Q (.bool k') s:=by
 subst e;exact ⟨.bl k,H,I,rfl,q⟩
def LW:bG X (compareOp .Eq) M4:=by
 intro pins s σ H x y v u Q I rx ry h;obtain ⟨hs,q⟩:=h;cases x with
 | aY =>
  cases rx;cases y with
  | aY=>cases ry;exact PySem.EqNone.eq_none_none (aQ I q (by simp))
  | bl j=>cases ry;exact PySem.EqNone.eq_none_bool (aQ I q (by simp))
  | int j=>obtain ⟨t',rfl⟩:=ry;exact PySem.EqNone.eq_none_int (aQ I q (by simp))
  | str j=>obtain ⟨t',rfl⟩:=ry;exact PySem.EqNone.eq_none_str (aQ I q (by simp))
  | _=>exact absurd (show false=true from hs) ON
 | bl i =>
  cases rx;cases y with
  | aY=>cases ry;exact PySem.EqNone.eq_bool_none (aQ I q (by simp))
  | bl j=>cases ry;exact eq_bool (aQ I q Dh)
  | str j=>obtain ⟨t',rfl⟩:=ry;exact PySem.EqMixed.eq_bool_str (aQ I q (by simp))
  | _=>exact absurd (show false=true from hs) ON
 | int i =>
  obtain ⟨t,rfl⟩:=rx;cases y with
  | aY=>cases ry;exact PySem.EqNone.eq_int_none (aQ I q (by simp))
  | int j=>obtain ⟨t',rfl⟩:=ry;exact eq_int (aQ I q yR)
  | str j=>obtain ⟨t',rfl⟩:=ry;exact PySem.EqMixed.eq_int_str (aQ I q (by simp))
  | _=>exact absurd (show false=true from hs) ON
 | str i =>
  obtain ⟨t,rfl⟩:=rx;cases y with
  | aY=>cases ry;exact PySem.EqNone.eq_str_none (aQ I q (by simp))
  | bl j=>cases ry;exact PySem.EqMixed.eq_str_bool (aQ I q (by simp))
  | int j=>obtain ⟨t',rfl⟩:=ry;exact PySem.EqMixed.eq_str_int (aQ I q (by simp))
  | str j=>obtain ⟨t',rfl⟩:=ry;exact eq_str (aQ I q zz)
  | _=>exact absurd (show false=true from hs) ON
 | lC i =>
  obtain ⟨t,rfl⟩:=rx;cases y with
  | lC j=>obtain ⟨t',rfl⟩:=ry;exact PySem.W.eq_bytes (aQ I q zF)
  | _=>exact absurd (show false=true from hs) ON
 | _=>cases y <;> exact absurd (show false=true from hs) ON
def Mz:bG X (compareOp .NotEq) MQ:=by
 intro pins s σ H x y v u Q I rx ry h;obtain ⟨hs,q⟩:=h;cases x with
 | aY =>
  cases rx;cases y with
  | aY=>cases ry;exact PySem.EqNone.ne_none_none (aQ I q (by simp))
  | bl j=>cases ry;exact PySem.EqNone.ne_none_bool (aQ I q (by simp))
  | int j=>obtain ⟨t',rfl⟩:=ry;exact PySem.EqNone.ne_none_int (aQ I q (by simp))
  | str j=>obtain ⟨t',rfl⟩:=ry;exact PySem.EqNone.ne_none_str (aQ I q (by simp))
  | _=>exact absurd (show false=true from hs) ON
 | bl i =>
  cases rx;cases y with
  | aY=>cases ry;exact PySem.EqNone.ne_bool_none (aQ I q (by simp))
  | bl j=>cases ry;exact ne_bool (aQ I q (congrArg not Dh))
  | str j=>obtain ⟨t',rfl⟩:=ry;exact PySem.EqMixed.ne_bool_str (aQ I q (by simp))
  | _=>exact absurd (show false=true from hs) ON
 | int i =>
  obtain ⟨t,rfl⟩:=rx;cases y with
  | aY=>cases ry;exact PySem.EqNone.ne_int_none (aQ I q (by simp))
  | int j=>obtain ⟨t',rfl⟩:=ry;exact ne_int (aQ I q (congrArg not yR))
  | str j=>obtain ⟨t',rfl⟩:=ry;exact PySem.EqMixed.ne_int_str (aQ I q (by simp))
  | _=>exact absurd (show false=true from hs) ON
 | str i =>
  obtain ⟨t,rfl⟩:=rx;cases y with
  | aY=>cases ry;exact PySem.EqNone.ne_str_none (aQ I q (by simp))
  | bl j=>cases ry;exact PySem.EqMixed.ne_str_bool (aQ I q (by simp))
  | int j=>obtain ⟨t',rfl⟩:=ry;exact PySem.EqMixed.ne_str_int (aQ I q (by simp))
  | str j=>obtain ⟨t',rfl⟩:=ry;exact ne_str (aQ I q (congrArg not zz))
  | _=>exact absurd (show false=true from hs) ON
 | lC i =>
  obtain ⟨t,rfl⟩:=rx;cases y with
  | lC j=>obtain ⟨t',rfl⟩:=ry;exact PySem.W.ne_bytes (aQ I q (congrArg not zF))
  | _=>exact absurd (show false=true from hs) ON
 | _=>cases y <;> exact absurd (show false=true from hs) ON
def ue:bG X (compareOp .Lt) (mJ fun i j=>.bl (decide (i < j))):=zU fun _ _ _ _ _ _ _ q=>lt_int q
def MI:bG X (compareOp .LtE) (mJ fun i j=>.bl (decide (i<=j))):=zU fun _ _ _ _ _ _ _ q=>le_int q
def Mm:bG X (compareOp .Gt) (mJ fun i j=>.bl (decide (j < i))):=zU fun _ _ _ _ _ _ _ q=>gt_int q
def L7:bG X (compareOp .GtE) (mJ fun i j=>.bl (decide (j<=i))):=zU fun _ _ _ _ _ _ _ q=>ge_int q
def Ll:bG X (compareOp .Is) (fun x y H Q=>y=.aY/\Q (.bl (decide (x=.aY))) H):=by
 intro pins s σ H x y v u Q I rx ry h;obtain ⟨rfl,q⟩:=h;cases ry;refine is_none_gen (aQ I q ?_);cases x <;> first
  | (cases rx;rfl)
  | (obtain ⟨t,rfl⟩:=rx;rfl)
def bG.or {f:Value->Value->Sem Value}{r r':R2}(h:bG X f r)(h':bG X f r'):bG X f (fun x y H Q=>r x y H Q\/r' x y H Q):=by
 intro pins s σ H x y v u Q I rx ry q;rcases q with q | q
 ·exact h pins s σ H x y v u Q I rx ry q
 ·exact h' pins s σ H x y v u Q I rx ry q
def jA (b:Expr){op:CmpOp}(h:op≠.In:=by decide)(h2:op≠.NotIn:=by decide):behindInMarks op b=false:=by
 have e1:(op == CmpOp.In)=false:=by cases op <;> first | rfl | exact absurd rfl h
 have e2:(op == CmpOp.NotIn)=false:=by cases op <;> first | rfl | exact absurd rfl h2
 cases b <;> simp [behindInMarks,e1,e2]
def Hi {op:CmpOp}{r:R2}(ho:bG X (compareOp op) r)(ha:PE X a ta)(hb:PE X b tb)(hm:behindInMarks op b=false):PE X (.Compare a [op] [b] pos) (K3 r ta tb):=by
 intro pins s σ H Q I h;exact wpAny_Compare1 (DG ha hb I h fun v u s2 x y H2 I2 rx ry q=>ho pins s2 σ H2 x y v u Q I2 rx ry q) hm
inductive Bd (Q:(Bool->Hp->Prop)) (x:V)(H':Hp):Prop
 | mk:∀ k,(x=.bl k)->(Q k H')->Bd Q x H'
def MG (t:TE):TT:=fun σ H Q=>t σ H fun x H'=>Bd Q x H'
def IM (r r':R2)(ta tb tc:TE):TE:=fun σ H Q=>ta σ H fun x H1=>tb σ H1 fun y H2=>r x y H2 fun z H3=>∃ k,z=.bl k /\
 (if k=true then tc σ H3 fun w' H4=>r' y w' H4 Q else Q (.bl false) H3)
def DQ {op op':CmpOp}{r r':R2}(ho:bG X (compareOp op) r)(ho':bG X (compareOp op') r')(ha:PE X a ta)(hb:PE X b tb)(hc:PE X c tc)
  (hm:lastMarks [op,op'] [b,c]=false:=by with_unfolding_all rfl):PT X (.Compare a [op,op'] [b,c] pos) (MG (IM r r' ta tb tc)):=by
 intro pins s σ H Q I h;refine isTrue_chain (aF (ha pins s σ H _ I h) fun v s1 ⟨x,H1,I1,r1,q1⟩=>test_link (aF (hb pins s1 σ H1 _ I1 q1) fun u s2 ⟨y,H2,I2,r2,q2⟩ =>
  aF (ho pins s2 σ H2 x y v u _ I2 r1 r2 q2) fun d s3 ⟨z,H3,I3,r3,k,e,q3⟩=>?_)) hm
 subst e;cases r3;refine wpAny_truthy_bool ?_;cases k with
 | false =>
  obtain ⟨k',e',q'⟩:=q3;cases e';exact ite_ff ⟨H3,I3,q'⟩
 | true =>
  refine ite_tt (test_last (aF (hc pins s3 σ H3 _ I3 q3) fun w' s4 ⟨z',H4,I4,r4,q4⟩=>aF (ho' pins s4 σ H4 y z' u w' _ I4 r2 r4 q4) fun d' s5 ⟨z2,H5,I5,r5,k2,e2,q5⟩=>?_))
  subst e2;cases r5;exact wpAny_truthy_bool ⟨H5,I5,q5⟩
def se (K:PySem.W.Frag) (x:V)(H:Hp)(k:Bool):Prop :=
 match x with
 | .aY=>k=false
 | .bl b=>k=b
 | .int i=>k=(i != 0)
 | .str y=>y.length<=sizeLine/\k=((y.length:Int) != 0)
 | .lC y=>y.size<=sizeLine/\k=((y.size:Int) != 0)
 | .ref p=>(∃ xs,bI K H p xs/\k=!xs.isEmpty)\/(∃ xs,bW K H p xs/\k=!xs.isEmpty)\/∃ kvs,H p=some (.dK kvs)/\k=!kvs.isEmpty
 | _=>False
def AI {κ:Type}{kvs:List (κ×V)}{vs:List (κ×Value)}(r:KV kvs vs):(!vs.isEmpty)=!kvs.isEmpty:=by
 cases r <;> rfl
def qz {xs:List V}{its:List Value}(r:Vals xs its):(!its.toArray.isEmpty)=!xs.isEmpty:=by
 cases r <;> simp
def lJ:(sizeLine:Nat) < 2 ^ 63:=by rw [sizeLine_eq];decide
def By:NF X (fun x H Q=>∃ k,se X.K x H k/\Q k H):=by
 intro pins s σ H x v Q I rx h;obtain ⟨k,e,q⟩:=h;have hl:=lJ;have hs:sizeLine=16777216:=sizeLine_eq;cases x with
 | aY =>
  cases rx;have e':k=false:=e;subst e';exact truthy_none ⟨H,I,q⟩
 | bl b =>
  cases rx;have e':k=b:=e;subst e';exact wpAny_truthy_bool ⟨H,I,q⟩
 | int i =>
  obtain ⟨t,rfl⟩:=rx;have e':k=(i != 0):=e;subst e';exact PySem.P.truthy_int ⟨H,I,q⟩
 | str y =>
  obtain ⟨t,rfl⟩:=rx;obtain ⟨hy,e'⟩:y.length<=sizeLine/\k=((y.length:Int) != 0):=e;subst e';exact PySem.P.truthy_str (by omega) ⟨H,I.tok _,q⟩
 | lC y =>
  obtain ⟨t,rfl⟩:=rx;obtain ⟨hy,e'⟩:y.size<=sizeLine/\k=((y.size:Int) != 0):=e;subst e';exact PySem.W.truthy_bytes (by omega) ⟨H,I.tok _,q⟩
 | ref p =>
  cases rx;have e':(∃ xs,bI X.K H p xs/\k=!xs.isEmpty)\/(∃ xs,bW X.K H p xs/\k=!xs.isEmpty)\/∃ kvs,H p=some (.dK kvs)/\k=!kvs.isEmpty:=e;rcases e' with ⟨xs,hx,e'⟩ | ⟨xs,hx,e'⟩ | ⟨kvs,hx,e'⟩
  ·subst e';obtain ⟨its,r,pl,hz⟩:=I.list hx;have hlen:=r.length;exact wpAny_truthy_list pl.isList (by simp only [OJ];omega) ⟨H,I.tok _,by rw [qz r];exact q⟩
  ·subst e';obtain ⟨its,r,pl,hz⟩:=I.tuple hx;have hlen:=r.length;exact truthy_tuple pl (by simp only [OJ];omega) ⟨H,I.tok _,by rw [qz r];exact q⟩
  ·subst e';obtain ⟨hz,hS,vs,r,m⟩:kvs.length<=sizeLine/\(p == sysModules)=false/\∃ vs,KV kvs vs/\s.heap.DictOf (b8 X.prog X.w) p vs:=I.hok p _ hx;have hlen:kvs.length=vs.length:=Paired.length r;exact wpAny_truthy_dict hS m (by omega) ⟨H,I.tok _,by rw [AI r];exact q⟩
 | _=>exact (show False from e).elim
def wj (ha:PE X a ta)(he:∀ whole,isTrue a X.env whole=(do let v <- whole;standAt a.pos;holding [v] (truthy v))) :
  PT X a (fun σ H Q=>ta σ H fun x H'=>∃ k,se X.K x H' k/\Q k H'):=by
 intro pins s σ H Q I h;exact isTrue_plain (aF (ha pins s σ H _ I h) fun v s1 ⟨x,H1,I1,r1,q1⟩=>By pins s1 σ H1 x v Q I1 r1 q1) (he _)
def Az:bG X (binaryOp .Add) (fun x y H Q=>∃ i j,x=.str i/\y=.str j/\i.length + j.length<=sizeLine/\Q (.str (i++j)) H):=by
 intro pins s σ H x y v u Q I rx ry h;obtain ⟨i,j,rfl,rfl,hz,q⟩:=h;obtain ⟨t,rfl⟩:=rx;obtain ⟨t',rfl⟩:=ry;exact add_str (fun t' tk=>⟨.str (i++j),H,I.tok _,⟨_,rfl⟩,q⟩) hz
def vals1 {x:V}{us:List Value}(r:Vals [x] us):∃ u,us=[u]/\RelV x u:=by
 cases r with
 | cons r1 r2=>cases r2;exact ⟨_,rfl,r1⟩
def vals2 {x y:V}{us:List Value}(r:Vals [x,y] us):∃ u w',us=[u,w']/\RelV x u/\RelV y w':=by
 cases r with
 | cons r1 r2 =>
  cases r2 with
  | cons r3 r4=>cases r4;exact ⟨_,_,rfl,r1,r3⟩
def Ed:cj X (.builtin "abs") (fun xs H Q=>∃ i,xs=[.int i]/\Q (.int (if i < 0 then -i else i)) H):=by
 intro pins s σ H xs us Q I r h;obtain ⟨i,rfl,q⟩:=h;obtain ⟨u,rfl,t,rfl⟩:=vals1 r;exact call_abs_int fun u tk=>⟨.int (if i < 0 then -i else i),H,I.tok _,⟨_,rfl⟩,q⟩
def BC (hc:X.calm=true):cj X (.builtin "max") (fun xs H Q=>∃ i j,xs=[.int i,.int j]/\Q (.int (if j > i then j else i)) H):=by
 intro pins s σ H xs us Q I r h;obtain ⟨i,j,rfl,q⟩:=h;obtain ⟨u,w',rfl,⟨t,rfl⟩,⟨t',rfl⟩⟩:=vals2 r;refine max_two_ints (I.ok.hd hc) fun h' tk k=>⟨_,H,I.kept k,?_,q⟩
 by_cases hj:j > i
 ·rw [if_pos hj,if_pos hj];exact ⟨_,rfl⟩
 ·rw [if_neg hj,if_neg hj];exact ⟨_,rfl⟩
def BH (hc:X.calm=true):cj X (.builtin "min") (fun xs H Q=>∃ i j,xs=[.int i,.int j]/\Q (.int (if j < i then j else i)) H):=by
 intro pins s σ H xs us Q I r h;obtain ⟨i,j,rfl,q⟩:=h;obtain ⟨u,w',rfl,⟨t,rfl⟩,⟨t',rfl⟩⟩:=vals2 r;refine min_two_ints (I.ok.hd hc) fun h' tk k=>⟨_,H,I.kept k,?_,q⟩
 by_cases hj:j < i
 ·rw [if_pos hj,if_pos hj];exact ⟨_,rfl⟩
 ·rw [if_neg hj,if_neg hj];exact ⟨_,rfl⟩
def Dd:cj X (.type "int") (fun xs H Q=>(∃ i,xs=[.int i]/\Q (.int i) H)\/∃ k,xs=[.bl k]/\Q (.int (if k then 1 else 0)) H):=by
 intro pins s σ H xs us Q I r h;rcases h with ⟨i,rfl,q⟩ | ⟨k,rfl,q⟩
 ·obtain ⟨u,rfl,t,rfl⟩:=vals1 r;exact call_int_int ⟨.int i,H,I,⟨_,rfl⟩,q⟩
 ·obtain ⟨u,rfl,r1⟩:=vals1 r;cases r1;exact call_int_bool ⟨.int (if k then 1 else 0),H,I.tok _,⟨_,rfl⟩,q⟩
end
structure DU (h:Heap)(x dx C:Addr)(mA:Str->Option Value):Prop where
 obj:h.get? x=some (PySem.W.instObj C dx)
 ns:h.Ns1 dx mA
 ne:dx≠x
def AU {h:Heap}{dx:Addr}{mA:Str->Option Value}(n:h.Ns1 dx mA):∃ od,h.get? dx=some od/\∀ name,PySem.W.lookIn name od=some (mA name):=by
 obtain ⟨o,es,ep,ho,hd,hk,_,hm⟩:=n;refine ⟨o,ho,fun name=>?_⟩
 have e:=hm name;unfold nsFind findBy at e;rw [<- Array.find?_toList] at e;unfold PySem.W.lookIn;rw [hd];dsimp only;split
 ·rename_i y q;rw [q] at e;exact congrArg some e
 ·rename_i q;rw [q] at e;have a:es.toList.any (·.refKey)=false:=by
   rw [List.any_eq_false];intro y hy;obtain ⟨z,t,hkey⟩:=hk y (Array.mem_toList_iff.mp hy);simp [DictEntry.refKey,hkey]
  have a':¬ es.toList.any (·.refKey)=true:=by rw [a];exact ON
  rw [if_neg a'];exact congrArg some e
def DU.look {h:Heap}{x dx C:Addr}{mA:Str->Option Value}(I:DU h x dx C mA):∃ od,PySem.W.InstAt h x (PySem.W.instObj C dx) C (some od)/\∀ name,PySem.W.lookIn name od=some (mA name) :=
 let ⟨od,ho,hl⟩:=AU I.ns
 ⟨od,⟨I.obj,rfl,rfl,ho⟩,hl⟩
section
variable {prog:Program}{w:World}{A:Around}{E:Value->Shared->Prop}{s:Shared}{K:PySem.W.Frag}{x dx C f:Addr}{mA:Str->Option Value}{name:Str}{v:Value}
end
def jb.some_of {v:V}{o:Option Value}(r:jb (some v) o):∃ u,o=some u/\RelV v u:=by
 cases o with
 | none=>exact (show False from r).elim
 | some u=>exact ⟨u,rfl,r⟩
section
variable {P:Program}{w:World}{H H':Hp}{h h':Heap}{a C dx:Addr}{fs fs':List (Str×V)}
def gn (hok:cS P w H h)(e:H a=some (.ins C dx fs)):∃ mA,DU h a dx C mA/\(∀ f,jb (fs.lookup f) (mA f))/\PySem.Within mA (fs.map (·.1))/\fs.length<=1000/\H dx=some (.own a):=by
 obtain ⟨d,z,ne,ob,mA,n,r,q⟩:=(show bf P w H h a (.ins C dx fs) from hok a _ e)
 exact ⟨mA,⟨ob,n,ne⟩,r,q,z,d⟩
end
structure JW (K:PySem.W.Frag)(C:Addr):Prop where
 pg:PySem.W.plainGet K C Str.empty=true
 hd:PySem.W.hasDictIn K C=true
 po:PySem.W.plainOver K C=true
 sa:PySem.W.findIn K (.ref C) "__setattr__"=some (some (.builtin "object.__setattr__"))
def JW.get {K:PySem.W.Frag}{C:Addr}(c:JW K C) (f:Str):PySem.W.plainGet K C f=true:=c.pg
section
variable {X:Cx}{pins:List (Addr×Obj)}{σ:St}{H:Hp}{s:Shared}{a C dx:Addr}{fs:List (Str×V)}{f:Str}{v:V}{A:Around}{E:Value->Shared->Prop}
end
section
variable {X:Cx}{o e value:Expr}{f:Str}{pos pos' tpos:Pos}{ta tv:TE}
end
section
variable {X:Cx}{pins:List (Addr×Obj)}{σ:St}{H:Hp}{s:Shared}{A:Around}{E:Value->Shared->Prop}{Q:Value->Shared->Prop}{c:Value}{b:Bool}
inductive fL (K:PySem.W.Frag)(H:Hp):V->Value->Prop where
 | aY:fL K H .aY (.type "NoneType")
 | bl (x:Bool):fL K H (.bl x) (.type "bool")
 | int (i:Int):fL K H (.int i) (.type "int")
 | str (x:Str):fL K H (.str x) (.type "str")
 | zD (x:UInt64):fL K H (.zD x) (.type "float")
 | lst {a:Addr}{xs:List V}(e:H a=some (.lst xs)):fL K H (.ref a) (.type "list")
 | bY {a:Addr}{o:Obj}{xs:List V}(e:H a=some (.bY o (.lst xs))):fL K H (.ref a) (.type "list")
 | kl {a:Addr}{its:Array Value}{n:Nat}(e:K.lookup a=some { cls:=.type "list",data:=.seq its n }):fL K H (.ref a) (.type "list")
 | tup {a:Addr}{xs:List V}(e:H a=some (.tup xs)):fL K H (.ref a) (.type "tuple")
 | dK {a:Addr}{kvs:List (Key×V)}(e:H a=some (.dK kvs)):fL K H (.ref a) (.type "dict")
 | dT {a:Addr}{kvs:List (List Key×V)}(e:H a=some (.dT kvs)):fL K H (.ref a) (.type "dict")
 | ins {a C dx:Addr}{fs:List (Str×V)}(e:H a=some (.ins C dx fs))(cl:JW K C)(ha:PySem.W.findIn K (.ref C) "__class__"=some (some (.builtin "object.__class__")))
   (hn:PySem.W.specialIn K (.builtin "object.__class__") "__get__"=some (some (.builtin "getset_descriptor.__get__")))(htk:PySem.W.takesIn K (.builtin "object.__class__")=some true)
   (hm:PySem.W.mroIn K C (.type "object")=some true):fL K H (.ref a) (.ref C)
def AZ {x:V}{u t:Value}(I:Inv X pins σ H s)(rx:RelV x u)(ty:fL X.K H x t)(e:PySem.W.kitOne X.K t c=some b)(h:∀ tk,Q (.bool b) { s with toks:=tk }) :
  wpAny (model X.prog X.w) A (call (.builtin "isinstance") [u,c]) Q E s:=by
 cases ty with
 | aY=>cases (show u=Value.none from rx);exact PySem.W.kia_one PySem.W.kitx_none I.fE True.intro e (fun z=>nomatch z) h
 | bl y=>cases (show u=Value.bool y from rx);exact PySem.W.kia_one PySem.W.kitx_bool I.fE True.intro e (fun z=>nomatch z) h
 | int i=>obtain ⟨t,q⟩:=(show ∃ t,u=Value.int i t from rx);cases q;exact PySem.W.kia_one PySem.W.kitx_int I.fE True.intro e (fun z=>nomatch z) h
 | str y=>obtain ⟨t,q⟩:=(show ∃ t,u=Value.str y t from rx);cases q;exact PySem.W.kia_one PySem.W.kitx_str I.fE True.intro e (fun z=>nomatch z) h
 | zD y=>obtain ⟨t,q⟩:=(show ∃ t,u=Value.float y t from rx);cases q;exact PySem.W.kia_one PySem.W.kitx_float I.fE True.intro e (fun z=>nomatch z) h
 | @lst a xs ea =>
  cases (show u=Value.ref a from rx)
  obtain ⟨_,_,n,_,h1⟩:=(show bf X.prog X.w H s.heap a (.lst xs) from I.hok a _ ea)
  exact PySem.W.kia_one PySem.W.kitx_list I.fE ⟨_,h1,rfl⟩ e (fun z=>nomatch z) h
 | @bY a ob xs ea =>
  cases (show u=Value.ref a from rx)
  obtain ⟨_,_,_,n,_,h1⟩:=(show bf X.prog X.w H s.heap a (.bY ob (.lst xs)) from I.hok a _ ea)
  exact PySem.W.kia_one PySem.W.kitx_list I.fE ⟨_,h1,rfl⟩ e (fun z=>nomatch z) h
 | @kl a its n ea =>
  cases (show u=Value.ref a from rx)
  exact PySem.W.kia_one PySem.W.kitx_list I.fE ⟨_,I.fE a _ ea,rfl⟩ e (fun z=>nomatch z) h
 | @tup a xs ea =>
  cases (show u=Value.ref a from rx)
  obtain ⟨_,_,_,p⟩:=(show bf X.prog X.w H s.heap a (.tup xs) from I.hok a _ ea)
  obtain ⟨o,h1,h2,_⟩:=p;exact PySem.W.kia_one PySem.W.kitx_tuple I.fE ⟨o,h1,h2⟩ e (fun z=>nomatch z) h
 | @dK a kvs ea =>
  cases (show u=Value.ref a from rx)
  obtain ⟨_,_,vs,_,p⟩:=(show bf X.prog X.w H s.heap a (.dK kvs) from I.hok a _ ea)
  obtain ⟨o,es,ep,h1,h2,_⟩:=p;exact PySem.W.kia_one PySem.W.kitx_dict I.fE ⟨o,h1,h2.1⟩ e (fun z=>nomatch z) h
 | @dT a kvs ea =>
  cases (show u=Value.ref a from rx)
  obtain ⟨_,_,xs,_,o,es,ep,h1,h2,_⟩:=(show bf X.prog X.w H s.heap a (.dT kvs) from I.hok a _ ea)
  exact PySem.W.kia_one PySem.W.kitx_dict I.fE ⟨o,h1,h2.1⟩ e (fun z=>nomatch z) h
 | @ins a C dx fs ea cl ha hn htk hm =>
  cases (show u=Value.ref a from rx)
  obtain ⟨mA,O,_⟩:=gn I.hok ea;obtain ⟨od,J,_⟩:=O.look;exact PySem.W.kia_one (PySem.W.kitx_own (cl.get _) cl.hd ha hn htk hm) I.fE J e (fun z=>nomatch z) h
end
structure dJ (k:Nat)(A:Around):Prop where
 hd:A.handled=none
 dp:A.depth + 3 * k + 5 < recursionLimit
 un:A.units + 16 * k + 200 < cLine
def dJ.mono {j k:Nat}{A:Around}(r:dJ k A)(h:j<=k):dJ j A:=⟨r.hd,by have:=r.dp;omega,by have:=r.un;omega⟩
theorem dJ.deeper {k:Nat}{A:Around}(r:dJ (k + 1) A)(env:Env):dJ k (A.deeper env) :=
 ⟨r.hd,by have:=r.dp;show A.depth + 1 + 3 * k + 5 < _;omega,by have:=r.un;show A.units + 3 + 16 * k + 200 < _;omega⟩
theorem dJ.depth {k:Nat}{A:Around}(r:dJ k A):A.depth < recursionLimit:=by have:=r.dp;omega
theorem dJ.units {k:Nat}{A:Around}(r:dJ k A):A.units + 64 < cLine:=by have:=r.un;omega
def Np:TA:=fun _ H Q=>Q [] H
def Mw (ta:TE)(tr:TA):TA:=fun σ H Q=>ta σ H fun x H1=>tr σ H1 fun xs H2=>Q (x::xs) H2
section
variable {X:Cx}{e:Expr}{es:List Expr}{te:TE}{t:TA}{pos:Pos}
def eS:PA X [] Np:=fun _ _ _ _ H Q I h=>Calls.spliced_nil ⟨[],H,I,.nil,h⟩
def cJ (ha:PE X e te)(hr:PA X es t)(hs:starEach (e::es) X.env=(false,eval e X.env)::starEach es X.env:=by rfl):PA X (e::es) (Mw te t):=by
 intro pos pins s σ H Q I h;rw [hs];show wpAny _ _ (spliced ((false,eval e X.env)::backTo pos (starEach es X.env))) _ _ s;refine Calls.spliced_cons (aF (ha pins s σ H _ I h) fun u s1 ⟨x,H1,I1,r1,q1⟩=>?_)
 exact aF (hr pos pins s1 σ H1 _ I1 q1) fun us s2 ⟨xs,H2,I2,r2,q2⟩=>⟨x::xs,H2,I2,.cons r1 r2,q2⟩
def Nk (t:TA):TE:=fun σ H Q=>t σ H fun xs H1=>xs.length<=sizeLine/\∀ p,H1 p=none->Q (.ref p) (upd H1 p (.tup xs))
def M5 (t:TA):TE:=fun σ H Q=>t σ H fun xs H1=>xs.length<=sizeLine/\∀ p,H1 p=none->Q (.ref p) (upd H1 p (.lst xs))
def CK {x1}(h:PA X es t):PE X (.Tuple es x1 pos) (Nk t):=by
 intro pins s σ H Q I hq;refine wpAny_Tuple_spliced (aF (h pos pins s σ H _ I hq) fun us s1 ⟨xs,H1,I1,r,z,q⟩=>⟨by rw [<- r.length];exact z,?_⟩)
 have hf:H1 s1.heap.objs.size=none:=I1.hok.fresh (O5 _);refine ⟨.ref s1.heap.objs.size,upd H1 s1.heap.objs.size (.tup xs),I1.laid (t':=s1.toks) (fun b u e=>OF _ e) (O5 _) ?_,rfl,q _ hf⟩
 exact ⟨z,us,r,⟨_,Of _ rfl,rfl,_,rfl⟩⟩
def Br (h:PA X es t):PE X (.List es pos) (M5 t):=by
 intro pins s σ H Q I hq;refine wpAny_List_spliced (aF (h pos pins s σ H _ I hq) fun us s1 ⟨xs,H1,I1,r,z,q⟩=>⟨by rw [<- r.length];exact z,?_⟩)
 have hf:H1 s1.heap.objs.size=none:=I1.hok.fresh (O5 _);refine ⟨.ref s1.heap.objs.size,upd H1 s1.heap.objs.size (.lst xs),I1.laid (t':=s1.toks) (fun b u e=>OF _ e) (O5 _) ?_,rfl,q _ hf⟩
 exact ⟨z,us,0,r,Of _ rfl⟩
end
abbrev Sp:=List V->Hp->VK->XK->Prop
abbrev ki:=List Env->Hp->Shared->XK->Value->Shared->Prop
structure zQ (P:Program)(w:World)(K:PySem.W.Frag)(mg:Str->Option Value)(base:Heap)(A:Around)(outer:List Env)(s:Shared)(H:Hp):Prop where
 frames:A.frames=some outer
 mod:Mod K mg base
 bs:∀ b o,base.get? b=some o->s.heap.get? b=some o/\H b=none
 sO:base.objs.size<=s.heap.objs.size
 jC:s.heap.FunFrames base outer
 zA:∀ b∈frs outer,H b=none
 hok:cS P w H s.heap
 bare:AllBare s.gens
def CE (outer:List Env)(P:Program)(w:World)(H:Hp)(s:Shared)(Q:VK)(u:Value)(s':Shared):Prop :=
 ∃ v H',s'.os=s.os/\AllBare s'.gens/\Un (frs outer) [] H H' s.heap s'.heap/\cS P w H' s'.heap/\RelV v u/\Q v H'
def CR (CX:ki)(outer:List Env)(P:Program)(w:World)(H:Hp)(s:Shared)(Q:VK)(E:XK)(r:Result)(s':Shared):Prop :=
 match r with
 | .ok (.ret u)=>CE outer P w H s Q u s'
 | .ok _=>False
 | .error e=>CX outer H s E e s'
structure aX (P:Program)(w:World)(K:PySem.W.Frag)(mg:Str->Option Value)(base:Heap)(CX:ki) (k:Nat)(f:Addr)(fd:FuncData)(ps:List Str)(sp:Sp):Prop where
 len:∀ vs H Q E,sp vs H Q E->vs.length=ps.length
 run:∀ (A:Around)(outer:List Env)(s:Shared)(H:Hp)(args:Args)(us:List Value)(vs:List V)(Q:VK)(E:XK),dJ k A->zQ P w K mg base A outer s H->BindsTo s fd args (ps.zip us)->Vals vs us->sp vs H Q E ->
  codeAny (model P w) A (.call (.ref f) args) (CR CX outer P w H s Q E) s
def aX.imp {P:Program}{w:World}{K:PySem.W.Frag}{mg:Str->Option Value}{base:Heap}{CX:ki}{k:Nat}{f:Addr}{fd:FuncData}{ps:List Str}{sp sp':Sp}(F:aX P w K mg base CX k f fd ps sp)
  (h:∀ vs H Q E,sp' vs H Q E->sp vs H Q E):aX P w K mg base CX k f fd ps sp' :=
 ⟨fun vs H Q E q=>F.len vs H Q E (h _ _ _ _ q),fun A outer s H args us vs Q E hr he hb hv hs=>F.run A outer s H args us vs Q E hr he hb hv (h _ _ _ _ hs)⟩
section
variable {X:Cx}{pins:List (Addr×Obj)}{σ:St}{H:Hp}{s s':Shared}
def Inv.Nl (I:Inv X pins σ H s):zQ X.prog X.w X.K X.mg X.base X.A X.stack s H :=
 ⟨I.ok.frames,I.ok.mod,I.bs,Nat.le_trans I.ok.sO I.sz,I.stack,I.nW,I.hok,I.bare⟩
def Inv.after {Q:VK}{u:Value}(I:Inv X pins σ H s)(h:CE X.stack X.prog X.w H s Q u s'):EP X pins σ Q u s':=by
 obtain ⟨v,H',os,bare,un,hok,r,q⟩:=h;obtain ⟨hh,g,d,t,os'⟩:=s';obtain rfl:os'=s.os:=os;exact ⟨v,H',I.call (h':=hh) (g':=g) (d':=d) (t':=t) (ch:=[]) un hok bare (fun b z=>absurd z (by simp)),r,q⟩
end
def LU (sp:Sp)(dvs:List V)(E:XK)(t:TA):TE:=fun σ H Q=>t σ H fun vs H1=>sp (vs++dvs) H1 Q E
def Binds (K:PySem.W.Frag)(fd:FuncData)(ps:List Str)(ds:List Value):Prop :=
 ∀ (s:Shared)(us:List Value),K.In s.heap->(us++ds).length=ps.length->BindsTo s fd ⟨us,[]⟩ (ps.zip (us++ds))
def Binds.all {K:PySem.W.Frag}{fd:FuncData}{ps:List Str}(h:∀ us:List Value,us.length=ps.length->bindArgs fd ⟨us,[]⟩=pure (ps.zip us)):Binds K fd ps []:=fun s us _ hl=>by
 rw [List.append_nil] at hl ⊢;exact .of_eq (h us hl)
def Passes (CX:ki)(X:Cx)(E:XK):Prop:=∀ (pins:List (Addr×Obj))(σ:St)(H:Hp)(s:Shared)(e:Value)(s':Shared),Inv X pins σ H s->CX X.stack H s E e s'->X.xe e s'
section
variable {X:Cx}{CX:ki}{k:Nat}{f C:Addr}{fd:FuncData}{ps:List Str}{sp:Sp}{dvs:List V}{ds:List Value}{E:XK}{x m:Str}{p pos apos:Pos}{e o:Expr}{es:List Expr}{ta:TE}{t:TA}
def JS {pins:List (Addr×Obj)}{σ:St}{H:Hp}{s:Shared}{Q:VK}{us:List Value}{vs:List V}(F:aX X.prog X.w X.K X.mg X.base CX k f fd ps sp)(hr:dJ k X.A)(hb:Binds X.K fd ps ds)(hd:Vals dvs ds)(hx:Passes CX X E)
  (I:Inv X pins σ H s)(r:Vals vs us)(h:sp (vs++dvs) H Q E):wpAny (model X.prog X.w) X.A (call (.ref f) us) (EP X pins σ Q) X.xe s:=by
 have r2:Vals (vs++dvs) (us++ds):=r.append hd;have hl:(us++ds).length=ps.length:=by rw [<- r2.length];exact F.len _ _ _ _ h
 refine wpAny_call (codeAny_mono (F.run X.A X.stack s H ⟨us,[]⟩ (us++ds) (vs++dvs) Q E hr I.Nl (hb s us I.fE hl) r2 h) fun r s' hq=>?_)
 cases r with
 | error e=>exact hx pins σ H s e s' I hq
 | ok fl =>
  cases fl with
  | ret u=>exact I.after hq
  | next=>exact False.elim hq
  | brk=>exact False.elim hq
  | cont=>exact False.elim hq
def Ik (F:aX X.prog X.w X.K X.mg X.base CX k f fd ps sp)(hr:dJ k X.A)(hg:Gl X x)(hm:X.mg x=some (.ref f))(hk:PySem.W.keepIn X.K (.ref f)=true)(hb:Binds X.K fd ps ds)(hd:Vals dvs ds)(hx:Passes CX X E)
  (ha:PA X (e::es) t)(hdb:(x == ("__debug__":Str))=false:=by decide)(he:starEach (e::es) X.env=(false,eval e X.env)::starEach es X.env:=by rfl)(hpl:(backTo pos (starEach es X.env)).any (·.1)=false:=by rfl) :
  PE X (.Call (.Name x p) (e::es) [] pos) (LU sp dvs E t):=by
 intro pins s σ H Q I h;refine wpAny_Call_Name_kw (zk I hg hm ?_ hdb);refine PySem.W.callWith_K (h₀:=X.base) I.ok.mod.yV hk (aF (ha pos pins s σ H _ I h) fun us s1 ⟨vs,H1,I1,r,q⟩=>⟨I1.fE,?_⟩) he hpl
 exact JS F hr hb hd hx I1 r q
end
section
variable {X:Cx}{CX:ki}{k:Nat}{f C:Addr}{fd:FuncData}{ps ks:List Str}{sp:Sp}{E:XK}{x m:Str}{p pos apos kpos:Pos}{e o:Expr}{es:List Expr}{kws:List Keyword}{te ta:TE}{t tk:TA}{nm:Option Str}
variable {g:List Value->List Value->List Value}{gV:List V->List V->List V}
end
structure aB (N P:List Str)(sc:Scope):Prop where
 kind:sc.kind=.function
 co:sc.isCoroutine=false
 gen:sc.isGenerator=false
 nd:N.Nodup
 pre:N.take P.length=P
 par:∀ x∈P,sc.names.lookup x=some .local\/sc.names.lookup x=some .cell
 ve:∀ y∈sc.names,y.2≠.free
theorem tG {kindOf:Str->Option NameKind}{x:Str}:∀ {binds:List (Str×Value)}{m:Str->Option Value},(∀ v,(x,v)∉binds)->bindL kindOf binds m x=m x
 | [],_,_=>rfl
 | (n,v)::r,m,h=>by
  unfold bindL;rw [tG fun w hw=>h w (O6 _ hw)]
  split
  ·have:x≠n:=by rintro rfl;exact h v N9
   simp [this]
  ·rfl
theorem tQ {kindOf:Str->Option NameKind}{x:Str}:∀ {binds:List (Str×Value)}{m:Str->Option Value},(∀ v,(x,v)∉binds)->bindC kindOf binds m x=m x
 | [],_,_=>rfl
 | (n,v)::r,m,h=>by
  unfold bindC;rw [tQ fun w hw=>h w (O6 _ hw)]
  split
  ·rfl
  ·have:x≠n:=by rintro rfl;exact h v N9
   simp [this]
theorem tR {kindOf:Str->Option NameKind}{x:Str}{v:Value}:∀ {P:List Str}{vs:List Value}{i:Nat}{m:Str->Option Value},P.Nodup->P[i]?=some x->vs[i]?=some v->kindOf x=some .local ->
  bindL kindOf (P.zip vs) m x=some v
 | [],_,_,_,_,h,_,_=>by simp at h
 | _::_,[],_,_,_,_,h,_=>by simp at h
 | p::P,w::vs,0,m,nd,h1,h2,hk=>by
  simp at h1 h2;subst h1;subst h2;show bindL kindOf ((p,w)::P.zip vs) m p=_;unfold bindL;rw [tG fun v hv=>(List.nodup_cons.mp nd).1 (List.of_mem_zip hv).1,if_pos hk]
  simp
 | p::P,w::vs,i + 1,m,nd,h1,h2,hk=>by
  show bindL kindOf ((p,w)::P.zip vs) m x=_;unfold bindL;exact tR (i:=i) (List.nodup_cons.mp nd).2 (by simpa using h1) (by simpa using h2) hk
theorem sR {kindOf:Str->Option NameKind}{x:Str}{v:Value}:∀ {P:List Str}{vs:List Value}{i:Nat}{m:Str->Option Value},P.Nodup->P[i]?=some x->vs[i]?=some v->kindOf x≠some .local ->
  bindC kindOf (P.zip vs) m x=some v
 | [],_,_,_,_,h,_,_=>by simp at h
 | _::_,[],_,_,_,_,h,_=>by simp at h
 | p::P,w::vs,0,m,nd,h1,h2,hk=>by
  simp at h1 h2;subst h1;subst h2;show bindC kindOf ((p,w)::P.zip vs) m p=_;unfold bindC;rw [tQ fun v hv=>(List.nodup_cons.mp nd).1 (List.of_mem_zip hv).1,if_neg hk]
  simp
 | p::P,w::vs,i + 1,m,nd,h1,h2,hk=>by
  show bindC kindOf ((p,w)::P.zip vs) m x=_;unfold bindC;exact sR (i:=i) (List.nodup_cons.mp nd).2 (by simpa using h1) (by simpa using h2) hk
def start (N:List Str)(vs:List V):St:=vs.map some++List.replicate (N.length - vs.length) none
def fN (CX:ki)(P:Program)(w:World)(K:PySem.W.Frag)(mg:Str->Option Value)(base:Heap)(N:List Str) (qual:Str)(scope:Scope)(f:Addr)(cd:Value)(A:Around)(outer:List Env)(s:Shared)(H:Hp)(E:XK):Cx where
 prog:=P
 w:=w
 K:=K
 mg:=mg
 base:=base
 A:=A.deeper (envOfC qual scope s.heap.objs.size f cd)
 N:=N
 s₀:=s
 H₀:=H
 env:=envOfC qual scope s.heap.objs.size f cd
 outer:=outer
 stack:=envOfC qual scope s.heap.objs.size f cd::outer
 ex:=[]
 calm:=true
 fn:=fun _=>true
 pn:=[]
 xe:=fun e s'=>wpAny (model P w) (A.deeper (envOfC qual scope s.heap.objs.size f cd)) (leaving (envOfC qual scope s.heap.objs.size f cd) e) (fun _ s''=>CX outer H s E e s'') (fun e' s''=>CX outer H s E e' s'') s'
def vR {sc:Scope}{n:Nat}{x:Str}(h:sc.names.lookup x=some .cell):∃ c,(cellsFrom n sc.names []).lookup x=some c:=by
 have q:=PySem.W.cellsFrom_some sc.names n [] (.inl h);exact Option.isSome_iff_exists.mp q
def Bg {CX:ki}{P:Program}{w:World}{K:PySem.W.Frag}{mg:Str->Option Value}{base:Heap}{N ps:List Str}{qual:Str}{scope:Scope}{f:Addr}{cd:Value}{A:Around}{outer:List Env}{s s1:Shared}{H:Hp}{E:XK}{us:List Value}{vs:List V}
  (S:aB N ps scope)(hd:A.handled=none)(e0:zQ P w K mg base A outer s H)(hl:vs.length=ps.length)(r:Vals vs us)
  (x:InCallC s s.heap.objs.size (bindL (envOfC qual scope s.heap.objs.size f cd).kindOf (ps.zip us) fun _=>none) (cellsFrom (s.heap.objs.size + 1) scope.names []) (bindC (envOfC qual scope s.heap.objs.size f cd).kindOf (ps.zip us) fun _=>none) s1) :
  Inv (fN CX P w K mg base N qual scope f cd A outer s H E) [] (start N vs) H s1:=by
 have hpl:ps.length<=N.length:=by have:=congrArg List.length S.pre;rw [List.length_take] at this;omega
 obtain ⟨h1,tk,rfl,hk⟩:=x.done;have noA:∀ b:Addr,b∉(fN CX P w K mg base N qual scope f cd A outer s H E).ex:=fun b z=>absurd (show b∈([]:List Addr) from z) (by simp)
 refine ⟨⟨e0.mod,S.kind,rfl,rfl,O5 _,fun y z c h1 h2=>?_,fun y hy=>?_,fun y c _ h=>?_,fun _=>hd,Around.frames_deeper e0.frames,.inr ⟨rfl,rfl⟩,fun b z=>absurd z (noA b),e0.bs,e0.sO,fun b _ _=>noA b,fun b z=>absurd z (noA b),e0.jC,e0.zA⟩,
  rfl,e0.bare,Un.kept hk,⟨_,x.toInCall.ns,fun i y v h1 h2 h3=>?_⟩,fun y c h=>⟨_,x.cell y c h⟩,e0.hok.fresh (O5 _),fun y c h=>?_,fun p hp=>absurd (show p∈([]:List (Addr×Obj)) from hp) (by simp),e0.hok.kept hk,?_⟩
 ·exact name_of_addr x.apart (PySem.mem_of_lookup h1) (PySem.mem_of_lookup h2)
 ·have hy:scope.names.lookup y=some .cell\/scope.names.lookup y=some .free:=hy;rcases hy with hy | hy
  ·exact vR hy
  ·exact absurd rfl (S.ve _ (PySem.mem_of_lookup hy))
 ·exact Nat.le_of_lt (x.above y c (PySem.mem_of_lookup h))
 ·have hi:i < vs.length:=by
   unfold start at h2
   by_cases hi:i < vs.length
   ·exact hi
   ·rw [List.getElem?_append_right (by simpa using hi)] at h2
    rw [List.getElem?_replicate] at h2;split at h2 <;> cases h2
  have ha:vs[i]?=some v:=by
   unfold start at h2;rw [List.getElem?_append_left (by simpa using hi),OG] at h2
   cases e:vs[i]? with
   | none=>rw [e] at h2;cases h2
   | some a=>rw [e] at h2;cases h2;rfl
  obtain ⟨u,hu,rv⟩:=r.get ha;have hp:ps[i]?=some y:=by
   rw [<- S.pre,List.getElem?_take_of_lt (by omega)];exact h1
  have ndP:ps.Nodup:=by rw [<- S.pre];exact S.nd.sublist (List.take_sublist _ _)
  refine ⟨u,rv,?_⟩;rcases S.par y (OO hp) with k | k
  ·exact .inl ⟨k,tR ndP hp hu k⟩
  ·obtain ⟨c,e⟩:=vR (n:=s.heap.objs.size + 1) k;refine .inr ⟨.inl k,c,e,?_⟩;have q:=x.cell y c e;rw [sR ndP hp hu (by show scope.names.lookup y≠_;rw [k];decide)] at q
   exact q
 ·exact e0.hok.fresh (Nat.le_of_lt (x.above y c (PySem.mem_of_lookup h)))
 ·unfold start;show _=N.length;rw [OR,O7,List.length_replicate];omega
def My {CX:ki}{P:Program}{w:World}{K:PySem.W.Frag}{mg:Str->Option Value}{base:Heap}{k:Nat}{f:Addr}{name qual:Str}{params:Arguments}{body:List Stmt}{scope:Scope}{dV kV doc pm cdv ct oc:Value}{an od:Option Addr}
  {osl:Array (Option Value)}{N ps:List Str}{sp:Sp}(lk:K.lookup f=some ⟨oc,od,.func (PySem.W.fnOf name qual params body scope dV kV doc pm an cdv ct),osl⟩)(hcd:PySem.W.codeIn K cdv qual=true)(S:aB N ps scope)
  (len:∀ vs H Q E,sp vs H Q E->vs.length=ps.length)
  (hbody:∀ (A:Around)(outer:List Env)(s:Shared)(H:Hp)(vs:List V)(Q:VK)(E:XK),dJ k (A.deeper (envOfC qual scope s.heap.objs.size f cdv))->sp vs H Q E ->
   ∃ t,mT (fN CX P w K mg base N qual scope f cdv A outer s H E) body t/\t { nx:=fun _ H'=>Q .aY H',rt:=Q } (start N vs) H) :
  aX P w K mg base CX (k + 1) f (PySem.W.fnOf name qual params body scope dV kV doc pm an cdv ct) ps sp:=by
 refine ⟨len,fun A outer s H args us vs Q E hr e0 hb r hsp=>?_⟩
 have hl:=len _ _ _ _ hsp;have KX:K.In s.heap:=e0.mod.yV.keeps fun b o e=>(e0.bs b o e).1
 have lim:s.heap.NoLimit:=e0.mod.nolimit.keeps fun b o e=>(e0.bs b o e).1
 have hkind:∀ y∈ps.zip us,scope.names.lookup y.1=some .local\/(scope.names.lookup y.1=some .cell/\((cellsFrom (s.heap.objs.size + 1) scope.names []).lookup y.1).isSome=true):=fun ⟨n,v⟩ hy=>by
  rcases S.par n (List.of_mem_zip hy).1 with q | q
  ·exact .inl q
  ·exact .inr ⟨q,PySem.W.cellsFrom_some _ _ _ (.inl q)⟩
 refine codeAny_call_function hr.depth (KX _ _ lk) rfl S.co S.gen rfl (PySem.W.codeRec_of KX hcd) (hb _ _ _ _ ?_);refine wpAny_newFunctionEnv_cells S.kind hkind fun env he s1 x=>?_
 subst he;refine ⟨lim.keeps x.toInCall.keep,codeAny_func ?_⟩;obtain ⟨t,ht,hq⟩:=hbody A outer s H vs Q E (hr.deeper _) hsp;have I:Inv (fN CX P w K mg base N qual scope f cdv A outer s H E) [] (start N vs) H s1:=Bg S hr.hd e0 hl r x;refine wpAny_mono (ht [] s1 (start N vs) H _ I hq) (fun fl s' hs=>?_) fun e s' hs=>hs
 have fin:∀ {σ':St}{H':Hp}{v:V}{u:Value},Inv (fN CX P w K mg base N qual scope f cdv A outer s H E) [] σ' H' s'->RelV v u->Q v H'->CE outer P w H s Q u s' :=
  fun {σ' H' v u} J rv q=>⟨v,H',J.os,J.bare,J.base,J.hok,rv,q⟩
 cases fl with
 | ret u =>
  obtain ⟨v,σ',H',J,rv,q⟩:=hs;exact fin J rv q
 | next =>
  obtain ⟨σ',H',J,q⟩:=hs;exact fin (v:=V.aY) (u:=Value.none) J rfl q
 | brk =>
  obtain ⟨_,_,_,q⟩:=hs;exact False.elim q
 | cont =>
  obtain ⟨_,_,_,q⟩:=hs;exact False.elim q
section
variable {X:Cx}{x:Str}{p pos:Pos}{e:Expr}{es:List Expr}{t:TA}{id T:String}{r:List V->Hp->VK->Prop}
def MR (r:List V->Hp->VK->Prop)(t:TA):TE:=fun σ H Q=>t σ H fun vs H1=>r vs H1 Q
def mF (hc:cj X (.builtin id) r)(hg:Gl X x)(hm:X.mg x=none)(hv:bootBuiltins x=some (.builtin id))(ha:PA X (e::es) t)(hn:x≠"__name__":=by decide)(hdb:(x == ("__debug__":Str))=false:=by decide)
  (he:starEach (e::es) X.env=(false,eval e X.env)::starEach es X.env:=by rfl)(hpl:(backTo pos (starEach es X.env)).any (·.1)=false:=by rfl):PE X (.Call (.Name x p) (e::es) [] pos) (MR r t):=by
 intro pins s σ H Q I h;refine wpAny_Call_Name_kw (jR I hg hm hv ?_ hn hdb);exact PyProof.Rows.callWith_builtin1 (aF (ha pos pins s σ H _ I h) fun us s1 ⟨vs,H1,I1,r1,q1⟩=>hc pins s1 σ H1 vs us Q I1 r1 q1) he hpl
def iN (hc:cj X (.type T) r)(hg:Gl X x)(hm:X.mg x=none)(hv:bootBuiltins x=some (.type T))(ha:PA X (e::es) t)(hn:x≠"__name__":=by decide)(hdb:(x == ("__debug__":Str))=false:=by decide)
  (he:starEach (e::es) X.env=(false,eval e X.env)::starEach es X.env:=by rfl)(hpl:(backTo pos (starEach es X.env)).any (·.1)=false:=by rfl):PE X (.Call (.Name x p) (e::es) [] pos) (MR r t):=by
 intro pins s σ H Q I h;refine wpAny_Call_Name_kw (jR I hg hm hv ?_ hn hdb);exact PyProof.Rows.callWith_type1 (aF (ha pos pins s σ H _ I h) fun us s1 ⟨vs,H1,I1,r1,q1⟩=>hc pins s1 σ H1 vs us Q I1 r1 q1) he hpl
end
end L2
namespace HT
open PySem PyProof.Rows
section
open PySem.SeqAt
open PySem.AutoSeq1 (wpAny_loadPart')
open PySem.MeetsSeq PySem.MeetsSeq2 PySem.MeetsSeq3
end
section
variable {prog:Program}{w:World}{A:Around}{E:Value->Shared->Prop}{s:Shared}
def II {t b:Addr}{vs ws:List Value}{Q:Value->Shared->Prop}(ht:IsTup s.heap t vs.toArray)(hb:IsTup s.heap b ws.toArray)(hv:vs≠[])
  (h1:ws=[]->Q (.ref t) s)(h2:ws≠[]->Q (.ref s.heap.objs.size) { s with heap:=s.heap.push { cls:=.type "tuple",data:=.seq (vs++ws).toArray } })
  (hsz:vs.length + ws.length<=sizeLine):wpAny (model prog w) A (binaryOp .Add (.ref t) (.ref b)) Q E s:=by
 obtain ⟨⟨cls,dd,data,sl⟩,ho,hc,n,hd⟩:=id ht;obtain ⟨⟨cls2,dd2,data2,sl2⟩,ho2,hc2,n2,hd2⟩:=id hb;simp only at hc hd hc2 hd2;subst hc hd hc2 hd2;have e:vs.toArray++ws.toArray=(vs++ws).toArray:=by simp
 by_cases hw:ws=[]
 ·exact concat_meets ⟨_,ho,rfl⟩ ⟨_,ho2,rfl⟩ noFill_tuple_add seq_tuple_add PySem.F.slot_tuple_add PySem.F.entry_tuple_add (PySem.F.args_tuple_add_2 _ _)
   (tuple_addW1 t b vs.toArray ws.toArray n n2 dd dd2 sl sl2 (by simpa using hv) (by simp [hw])) ⟨ho,ho2,h1 hw⟩
 ·refine concat_meets ⟨_,ho,rfl⟩ ⟨_,ho2,rfl⟩ noFill_tuple_add seq_tuple_add PySem.F.slot_tuple_add PySem.F.entry_tuple_add (PySem.F.args_tuple_add_2 _ _)
   (tuple_addW2 t b vs.toArray ws.toArray n n2 dd dd2 sl sl2 (by simpa using hv) (by simpa using hw) (by rw [OJ,OJ];exact hsz)) ⟨ho,ho2,?_⟩
  rw [e];exact h2 hw
def aC (n d:Nat):Option Int->Nat
 | none=>d
 | some v=>if v < 0 then (v + (n:Int)).toNat else min v.toNat n
def oz (n d k:Nat):aC n d (some (k:Int))=min k n:=by
 show (if (k:Int) < 0 then ((k:Int) + (n:Int)).toNat else min (k:Int).toNat n)=min k n
 rw [if_neg (by omega),Int.toNat_natCast]
def Lq (n d:Nat)(hd:d<=n)(o:Option Int):aC n d o<=n:=by
 cases o with
 | none=>exact hd
 | some v =>
  show (if v < 0 then (v + (n:Int)).toNat else min v.toNat n)<=n
  by_cases hv:v < 0
  ·rw [if_pos hv];omega
  ·rw [if_neg hv];exact Nat.min_le_right _ _
def zj (v:Int) (n d:Nat):(if v < 0 then max (v + (n:Int)) 0 else min v (n:Int))=((aC n d (some v):Nat):Int):=by
 show (if v < 0 then max (v + (n:Int)) 0 else min v (n:Int))=(((if v < 0 then (v + (n:Int)).toNat else min v.toNat n):Nat):Int)
 by_cases hv:v < 0
 ·simp only [if_pos hv];omega
 ·simp only [if_neg hv];omega
def AB (lo hi:Option Int) (n:Nat):Builtin.Slice.sliceAdjust lo hi 1 (n:Int)=(((aC n 0 lo:Nat):Int),((aC n n hi:Nat):Int)):=by
 have h1:¬ ((1:Int) < 0):=by omega
 unfold Builtin.Slice.sliceAdjust;simp only [h1,if_false];refine Prod.ext ?_ ?_
 ·cases lo with
  | none=>rfl
  | some v=>exact zj v n 0
 ·cases hi with
  | none=>rfl
  | some v=>exact zj v n n
def z9 (i j:Nat):Builtin.Slice.slicePlaces (i:Int) (j:Int) 1=j - i:=by
 unfold Builtin.Slice.slicePlaces;have h1:(1:Int) > 0:=by omega
 simp only [h1,if_true,Int.ediv_one];split <;> omega
def qH {v:Value}{o:Option Int}{Q:Option Int->Shared->Prop}(p:IsPart v o)(h:Q o s):wpAny (model prog w) A (Builtin.Slice.slicePartIndex v) Q E s:=by
 cases p with
 | none=>exact slicePart_none h
 | int i t=>exact slicePart_int h
def jP {sl:Addr}{vl vu:Value}{lo hi:Option Int}{n:Nat}{Q:Int×Int×Nat->Shared->Prop}(hs:s.heap.IsSliceOf sl vl vu .none)(pl:IsPart vl lo)(pu:IsPart vu hi)
  (h:Q (((aC n 0 lo:Nat):Int),1,aC n n hi - aC n 0 lo) s):wpAny (model prog w) A (Builtin.Slice.sliceApplied (.ref sl) (pure (n:Int))) Q E s:=by
 obtain ⟨os,hos,hcs,hds⟩:=id hs;unfold Builtin.Slice.sliceApplied Builtin.Slice.sliceFields;refine N8 (N8 (wpAny_field hos hds (x:=vl) rfl (N8 (wpAny_field hos hds (x:=vu) rfl (N8 (wpAny_field hos hds (x:=.none) rfl (O0 ?_)))))));refine N8 (slicePart_none ?_);show wpAny _ _ (if ((1:Int) == 0)=true then _ else _) _ _ s
 rw [if_neg (by decide)]
 refine N8 (qH pl (N8 (qH pu (N8 (O0 ?_)))));show wpAny _ _ (match Builtin.Slice.sliceAdjust lo hi 1 (n:Int) with | (lo,hi)=>pure (lo,(1:Int),Builtin.Slice.slicePlaces lo hi 1)) _ _ s
 rw [AB lo hi n];show wpAny _ _ (pure (((aC n 0 lo:Nat):Int),(1:Int),Builtin.Slice.slicePlaces ((aC n 0 lo:Nat):Int) ((aC n n hi:Nat):Int) 1)) _ _ s;rw [z9];exact O0 h
def EV (xs:Array Value) (i k:Nat):((List.range k).filterMap fun (m:Nat)=>xs[((i:Int) + (m:Int) * 1).toNat]?).toArray=((xs.toList.drop i).take k).toArray:=by
 have e:(fun (m:Nat)=>xs[((i:Int) + (m:Int) * 1).toNat]?)=fun m=>xs[i + m]?:=by
  funext m;have:((i:Int) + (m:Int) * 1).toNat=i + m:=by omega
  rw [this]
 rw [e];have:=pick_run xs i k;rw [List.filterMap_map] at this;have e2:((fun x=>xs[x]?) ∘ fun x=>i + x)=fun m=>xs[i + m]?:=rfl
 rw [e2] at this;rw [this]
def oK {t sl:Addr}{items:Array Value}{vl vu:Value}{lo hi:Option Int}{Q:Value->Shared->Prop}(ht:IsTup s.heap t items)(hs:s.heap.IsSliceOf sl vl vu .none)(pl:IsPart vl lo)(pu:IsPart vu hi)
  (hw:¬ (aC items.size 0 lo=0/\aC items.size items.size hi=items.size))
  (h:Q (.ref s.heap.objs.size) { s with heap:=s.heap.push { cls:=.type "tuple",data:=.seq ((items.toList.drop (aC items.size 0 lo)).take (aC items.size items.size hi - aC items.size 0 lo)).toArray } })
  (hsz:items.size<=sizeLine):wpAny (model prog w) A (getItem (.ref t) (.ref sl)) Q E s:=by
 have htake:sizeOk (.seq ((items.toList.drop (aC items.size 0 lo)).take (aC items.size items.size hi - aC items.size 0 lo)).toArray):=by
  show ((items.toList.drop (aC items.size 0 lo)).take (aC items.size items.size hi - aC items.size 0 lo)).toArray.size<=sizeLine;rw [OJ,List.length_take,List.length_drop,Array.length_toList];exact Nat.le_trans (Nat.min_le_right _ _) (Nat.le_trans (Nat.sub_le _ _) hsz)
 have hj:aC items.size items.size hi<=items.size:=Lq _ _ (O5 _) hi;obtain ⟨os,hos,hcs,hds⟩:=id hs;have hTs:s.TypeIs (.ref sl) "slice":=⟨os,hos,hcs⟩;unfold getItem
 try with_reducible refine wpAny_holding ?_
 first | refine N8 (O0 ?_) | skip
 refine N8 (wpAny_sequenceKey ht.typeIs (by decide) ?_)
 refine N8 (wpAny_callSpecial?_slot (name:=Str.ofString "__getitem__") ht.typeIs PyProof.Rows.slot_tuple_getitem
  (wpAny_call_entry PyProof.Rows.slot_tuple_getitem ht.typeIs entry_tuple_getitem ?_ (args_tuple_getitem _ _)))
 show wpAny _ _ (Builtin.Tuple.tupleItemsOf (.ref t) >>= _) _ _ s;refine N8 (tupleItemsOf_ ht ?_);refine N8 (wpAny_typeOf hTs ?_);rw [if_pos (by decide)]
 refine N8 (jP hs pl pu ?_);have hno:¬ ((((aC items.size 0 lo:Nat):Int) == 0 && (1:Int) == 1 && (aC items.size items.size hi - aC items.size 0 lo) == items.size)=true):=by
  intro q;rw [OA,OA] at q;have q1:((aC items.size 0 lo:Nat):Int)=0:=eq_of_beq q.1.1;have q2:aC items.size items.size hi - aC items.size 0 lo=items.size:=eq_of_beq q.2;exact hw ⟨by omega,by omega⟩
 show wpAny _ _ (if (((aC items.size 0 lo:Nat):Int) == 0 && (1:Int) == 1 && (aC items.size items.size hi - aC items.size 0 lo) == items.size)=true then _ else _) _ _ s
 rw [if_neg hno,EV]
 first
  | exact N8 (m:=Builtin.Tuple.tupleExact _) (wpAny_newObj_type (O0 ⟨_,rfl,O0 h⟩) htake)
  | exact N8 (m:=Builtin.Tuple.tupleExact _) (wpAny_newObj_type (N8 (O0 (O0 ⟨_,rfl,O0 h⟩))) htake)
  | exact N8 (N8 (m:=Builtin.Tuple.tupleExact _) (wpAny_newObj_type (O0 (O0 ⟨_,rfl,O0 h⟩)) htake))
  | exact N8 (N8 (m:=Builtin.Tuple.tupleExact _) (wpAny_newObj_type (O0 ⟨_,rfl,O0 h⟩) htake))
end
end HT
namespace L2
open PySem PySem.Spec PyProof.Rows
abbrev TO:=St->Hp->(Option Int->Hp->Prop)->Prop
def PO (X:Cx)(e:Option Expr)(t:TO):Prop :=
 ∀ (pins:List (Addr×Obj))(s:Shared)(σ:St)(H:Hp)(Q:Option Int->Hp->Prop),Inv X pins σ H s->t σ H Q ->
  wpAny (model X.prog X.w) X.A (evalPart e X.env) (fun u s'=>∃ o H',Inv X pins σ H' s'/\IsPart u o/\Q o H') X.xe s
def ID:TO:=fun _ H Q=>Q none H
def LR (t:TE):TO:=fun σ H Q=>t σ H fun x H1=>∃ i,x=.int i/\Q (some i) H1
def intsAre_of {ns:List Int}:∀ {us:List Value},Vals (ns.map V.int) us->IntsAre us ns:=by
 induction ns with
 | nil=>intro us r;rw [List.map_nil] at r;cases r;exact .nil
 | cons n ns ih =>
  intro us r;rw [OM] at r;cases r with
  | cons r1 r2 =>
   obtain ⟨t,e⟩:=r1;subst e;exact .cons n t (ih r2)
section
variable {X:Cx}{e:Expr}{te:TE}{lo hi:Option Expr}{tl th:TO}{pos p2:Pos}
def zq:PO X none ID:=by
 intro pins s σ H Q I h;rw [evalPart_none];exact O0 ⟨none,H,I,.none,h⟩
def zd (h:PE X e te):PO X (some e) (LR te):=by
 intro pins s σ H Q I hw;rw [evalPart_some];refine aF (h pins s σ H _ I hw) fun u s1 ⟨x,H1,I1,r1,q1⟩=>?_
 obtain ⟨i,rfl,q⟩:=q1;obtain ⟨t,rfl⟩:=r1;exact ⟨some i,H1,I1,.int i t,q⟩
def Cr (X:Cx)(r:V->Option Int->Option Int->Hp->VK->Prop):Prop :=
 ∀ (pins:List (Addr×Obj))(s:Shared)(σ:St)(H:Hp) (x:V)(v vl vu:Value)(lo hi:Option Int)(sl:Addr)(Q:VK),Inv X pins σ H s->RelV x v->s.heap.IsSliceOf sl vl vu .none->IsPart vl lo->IsPart vu hi->r x lo hi H Q ->
  ∃ T id,typeLookup (.type T) "__getitem__"=pure (some (.builtin id))/\s.TypeIs v T/\wpAny (model X.prog X.w) X.A (getItem v (.ref sl)) (EP X pins σ Q) X.xe s
def NY (r:V->Option Int->Option Int->Hp->VK->Prop)(te:TE)(tl th:TO):TE:=fun σ H Q=>te σ H fun x H1=>tl σ H1 fun l H2=>th σ H2 fun u H3=>r x l u H3 Q
def u7 {r:V->Option Int->Option Int->Hp->VK->Prop}(hr:Cr X r)(he:PE X e te)(hl:PO X lo tl)(hu:PO X hi th):PE X (.Subscript e (.Slice lo hi none p2) pos) (NY r te tl th):=by
 intro pins s σ H Q I h;refine Subscript_ (aF (he pins s σ H _ I h) fun v s1 ⟨x,H1,I1,r1,q1⟩=>?_)
 refine wpAny_Slice (aF (hl pins s1 σ H1 _ I1 q1) fun vl s2 ⟨l,H2,I2,pl,q2⟩=>aF (hu pins s2 σ H2 _ I2 q2) fun vu s3 ⟨u,H3,I3,pu,q3⟩=>?_)
 rw [evalPart_none];refine O0 ?_;have I4:Inv X pins σ H3 { s3 with heap:=s3.heap.push { cls:=.type "slice",data:=.fields #[vl,vu,.none] } }:=I3.kept (t':=s3.toks) fun b ob q=>OF _ q
 obtain ⟨T,id,hT,ht,hg⟩:=hr pins { s3 with heap:=s3.heap.push { cls:=.type "slice",data:=.fields #[vl,vu,.none] } } σ H3 x v vl vu l u s3.heap.objs.size Q I4 r1 (Heap.IsSliceOf.new ..) pl pu q3
 show wpAny (model X.prog X.w) X.A (subscriptTail e (.Slice lo hi none p2) v (.ref s3.heap.objs.size)) (EP X pins σ Q) X.xe { s3 with heap:=s3.heap.push { cls:=.type "slice",data:=.fields #[vl,vu,.none] } }
 exact tail_any (ops:=[.ref s3.heap.objs.size,v]) ht hT hg (by with_unfolding_all rfl)
def mE (xs:List V)(lo hi:Option Int):List V:=(xs.drop (HT.aC xs.length 0 lo)).take (HT.aC xs.length xs.length hi - HT.aC xs.length 0 lo)
def pe (xs:List V)(lo hi:Option Int):(mE xs lo hi).length<=xs.length:=by
 unfold mE;rw [List.length_take,List.length_drop];exact Nat.le_trans (Nat.min_le_right _ _) (Nat.sub_le _ _)
def Ng (K:PySem.W.Frag):V->Option Int->Option Int->Hp->VK->Prop:=fun x lo hi H Q=>∃ a xs,x=.ref a/\bW K H a xs /\
 ¬ (HT.aC xs.length 0 lo=0/\HT.aC xs.length xs.length hi=xs.length)/\∀ p,H p=none->Q (.ref p) (upd H p (.tup (mE xs lo hi)))
def Jj:Cr X (Ng X.K):=by
 intro pins s σ H x v vl vu lo hi sl Q I rx hs pl pu h;obtain ⟨a,xs,rfl,hx,hw,q⟩:=h;cases rx;obtain ⟨its,r,ht,hz⟩:=I.tuple hx;have hlen:its.toArray.size=xs.length:=by rw [OJ];exact r.length.symm
 refine ⟨"tuple",_,PyProof.Rows.slot_tuple_getitem.lookup,ht.typeIs,?_⟩;refine HT.oK ht hs pl pu (by rw [hlen];exact hw) ?_ (by rw [hlen];exact hz)
 rw [hlen];refine ⟨.ref s.heap.objs.size,_,I.laid (t':=s.toks) (o:=.tup (mE xs lo hi)) (fun b ob q=>OF _ q) (O5 _) ?_,rfl,q _ (I.hok.fresh (O5 _))⟩
 exact ⟨Nat.le_trans (pe xs lo hi) hz,_,(r.drop (HT.aC xs.length 0 lo)).take (HT.aC xs.length xs.length hi - HT.aC xs.length 0 lo),IsTup.new _ _⟩
def Fg (K:PySem.W.Frag):R2:=fun x y H Q=>∃ a b xs ys,x=.ref a/\y=.ref b/\bW K H a xs/\bW K H b ys/\xs≠[]/\xs.length + ys.length<=sizeLine /\
 (ys=[]->Q (.ref a) H)/\(ys≠[]->∀ p,H p=none->Q (.ref p) (upd H p (.tup (xs++ys))))
def Vals.rJ {xs:List V}{us:List Value}(r:Vals xs us):us=[]↔xs=[]:=by
 cases r with
 | nil=>simp
 | cons _ _=>simp
def G9:bG X (binaryOp .Add) (Fg X.K):=by
 intro pins s σ H x y v u Q I rx ry h;obtain ⟨a,b,xs,ys,rfl,rfl,ha,hb,hx,hz,q1,q2⟩:=h;cases rx;cases ry;obtain ⟨its,r1,p1,_⟩:=I.tuple ha;obtain ⟨its2,r2,p2,_⟩:=I.tuple hb;refine HT.II p1 p2 (fun z=>hx (r1.rJ.mp z)) (fun z=>⟨.ref a,H,I,rfl,q1 (r2.rJ.mp z)⟩) (fun z=>?_) (by rw [<- r1.length,<- r2.length];exact hz)
 refine ⟨.ref s.heap.objs.size,_,I.laid (t':=s.toks) (o:=.tup (xs++ys)) (fun b ob q=>OF _ q) (O5 _) ?_,rfl,q2 (fun w=>z (r2.rJ.mpr w)) _ (I.hok.fresh (O5 _))⟩
 exact ⟨by rw [OR];exact hz,_,r1.append r2,IsTup.new _ _⟩
end
def nS (n:Nat) (i:Int):Option Nat:=if 0<=i then (if i < n then some i.toNat else none) else if -(n:Int)<=i then some (i + n).toNat else none
def dg {α:Type}(xs:List α) (i:Int):Option α:=(nS xs.length i).bind fun j=>xs[j]?
def y9 {n:Nat}{i:Int}{j:Nat}(h:nS n i=some j):seqIndex? i n=some j/\j < n/\-(n:Int)<=i/\i < n:=by
 unfold nS at h
 by_cases h0:0<=i
 ·rw [if_pos h0] at h
  by_cases h1:i < n
  ·rw [if_pos h1] at h;have e:i.toNat=j:=Option.some.inj h;exact ⟨by rw [seqIndex_of h0 h1,e],by omega,by omega,h1⟩
  ·rw [if_neg h1] at h;cases h
 ·rw [if_neg h0] at h
  by_cases h1:-(n:Int)<=i
  ·rw [if_pos h1] at h;have e:(i + n).toNat=j:=Option.some.inj h;exact ⟨by rw [seqIndex_neg (by omega) h1,e],by omega,h1,by omega⟩
  ·rw [if_neg h1] at h;cases h
def rT {α:Type}{xs:List α}{i:Int}{v:α}(h:dg xs i=some v):∃ j,seqIndex? i xs.length=some j/\xs[j]?=some v/\j < xs.length/\-(xs.length:Int)<=i/\i < xs.length:=by
 unfold dg at h;cases e:nS xs.length i with
 | none=>rw [e] at h;cases h
 | some j =>
  rw [e] at h;obtain ⟨h1,h2,h3,h4⟩:=y9 e;exact ⟨j,h1,h,h2,h3,h4⟩
def lI (b:Expr):Prop:=∀ o i,subscripted b false o i=operate [o,i] (getItem o i)
def mU (X:Cx)(r:R2):Prop :=
 ∀ (value slice:Expr)(pins:List (Addr×Obj))(s:Shared)(σ:St)(H:Hp) (x y:V)(v u:Value)(Q:VK),Inv X pins σ H s->RelV x v->RelV y u->r x y H Q ->
  subscripted slice false v u=operate [v,u] (getItem v u)->wpAny (model X.prog X.w) X.A (subscriptTail value slice v u) (EP X pins σ Q) X.xe s
def KS (X:Cx)(id:String)(r:V->List V->Hp->VK->Prop):Prop :=
 ∀ (pins:List (Addr×Obj))(s:Shared)(σ:St)(H:Hp) (x:V)(xs:List V)(v:Value)(us:List Value)(Q:VK),Inv X pins σ H s->RelV x v->Vals xs us->r x xs H Q ->
  wpAny (model X.prog X.w) X.A (call (.builtin id) (v::us)) (EP X pins σ Q) X.xe s
section
variable {X:Cx}{a b:Expr}{ta tb:TE}{pos:Pos}
def mU.or {r r':R2}(h:mU X r)(h':mU X r'):mU X (fun x y H Q=>r x y H Q\/r' x y H Q):=by
 intro value slice pins s σ H x y v u Q I rx ry q hs;rcases q with q | q
 ·exact h value slice pins s σ H x y v u Q I rx ry q hs
 ·exact h' value slice pins s σ H x y v u Q I rx ry q hs
def GF {r:R2}(hr:mU X r)(ha:PE X a ta)(hb:PE X b tb)(hs:lI b):PE X (.Subscript a b pos) (K3 r ta tb):=by
 intro pins s σ H Q I h;exact Subscript_ (DG ha hb I h fun v u s2 x y H2 I2 rx ry q=>hr a b pins s2 σ H2 x y v u Q I2 rx ry q (hs _ _))
inductive GG (K:PySem.W.Frag) (x:V) (y:V)(H:Hp)(Q:VK):Prop
 | mk:∀ p xs i v,(x=.ref p)->(y=.int i)->(bI K H p xs)->(dg xs i=some v)->(Q v H)->GG K x y H Q
def I0 (K:PySem.W.Frag):R2:=fun x y H Q=>GG K x y H Q
inductive Fx (K:PySem.W.Frag) (x:V) (y:V)(H:Hp)(Q:VK):Prop
 | mk:∀ p xs i v,(x=.ref p)->(y=.int i)->(bW K H p xs)->(dg xs i=some v)->(Q v H)->Fx K x y H Q
def Lh (K:PySem.W.Frag):R2:=fun x y H Q=>Fx K x y H Q
inductive FD (x:V) (y:V)(H:Hp)(Q:VK):Prop
 | mk:∀ z i c,(x=.str z)->(y=.int i)->(z.length<=sizeLine)->(dg z.cps.toList i=some c)->(Q (.str ⟨#[c]⟩) H)->FD x y H Q
def Jf:R2:=fun x y H Q=>FD x y H Q
def Iz:mU X (I0 X.K):=by
 intro value slice pins s σ H x y v u Q I rx ry h hs;obtain ⟨p,xs,i,z,rfl,rfl,hq,he,q⟩:=h;cases rx;obtain ⟨t,rfl⟩:=ry;obtain ⟨its,r,pl,hz⟩:=I.list hq;obtain ⟨j,h1,h2,h3,h4,h5⟩:=rT he;obtain ⟨w,ew,rw'⟩:=r.get h2;have hl:=r.length;have hn:=lJ;have fin:EP X pins σ Q w s:=⟨z,H,I,rw',q⟩
 by_cases h0:0<=i
 ·have hj:i.toNat=j:=by
   rw [seqIndex_of h0 h5] at h1;exact Option.some.inj h1
  exact item_listR pl.isList h0 (by omega) (by rw [hj];simpa using ew) fin hs
 ·have hj:(i + (its.toArray.size:Int)).toNat=j:=by
   rw [seqIndex_neg (by omega) h4] at h1
   rw [OJ,<- hl];exact Option.some.inj h1
  exact subscriptTail_builtinR (x:=w) pl.isList.typeIs slot_list_getitem.lookup
   (wpAny_getItem_list_neg (Q:=fun r s'=>r=w/\EP X pins σ Q r s') pl.isList (by omega) (by rw [OJ] <;> omega) (by omega) (by rw [hj];simpa using ew) ⟨rfl,fin⟩) hs
def KQ:mU X (Lh X.K):=by
 intro value slice pins s σ H x y v u Q I rx ry h hs;obtain ⟨p,xs,i,z,rfl,rfl,hq,he,q⟩:=h;cases rx;obtain ⟨t,rfl⟩:=ry;obtain ⟨its,r,pl,hz⟩:=I.tuple hq;obtain ⟨j,h1,h2,h3,h4,h5⟩:=rT he;obtain ⟨w,ew,rw'⟩:=r.get h2;have hl:=r.length;have hn:=lJ;have fin:EP X pins σ Q w s:=⟨z,H,I,rw',q⟩;exact subscriptTail_builtinR (x:=w) pl.typeIs slot_tuple_getitem.lookup
  (getItem_tuple (j:=j) (Q:=fun r s'=>r=w/\EP X pins σ Q r s') pl (by omega) (by omega) (by rw [OJ,<- hl];exact h1) (by simpa using ew) ⟨rfl,fin⟩) hs
def Jq:mU X Jf:=by
 intro value slice pins s σ H x y v u Q I rx ry h hs;obtain ⟨z,i,c,rfl,rfl,hz,he,q⟩:=h;obtain ⟨t,rfl⟩:=rx;obtain ⟨t',rfl⟩:=ry;obtain ⟨j,h1,h2,h3,h4,h5⟩:=rT he;have hl:z.cps.toList.length=z.length:=by simp [Str.length]
 rw [hl] at h1 h4 h5;have hn:=lJ;exact tail_any (typeIs_str s z t) slot_str_getitem.lookup (getItem_str (c:=c) (by
  have e1:decide (i < -(2 ^ 63:Int))=false:=decide_eq_false (by omega)
  have e2:decide (i >= 2 ^ 63)=false:=decide_eq_false (by omega)
  rw [e1,e2,Bool.or_false]) (by rw [h1];simpa using h2) ⟨.str ⟨#[c]⟩,H,I.tok _,⟨_,rfl⟩,q⟩) hs
def Jb (K:PySem.W.Frag):R2:=fun x y H Q=>I0 K x y H Q\/Lh K x y H Q\/Jf x y H Q
def Cm:mU X (Jb X.K):=Iz.or (KQ.or Jq)
def Ah (its:List Value) (n j:Nat)(u:Value):Obj.mapSeq (·.setIfInBounds j u) { cls:=.type "list",data:=.seq its.toArray n }={ cls:=.type "list",data:=.seq (its.set j u).toArray n }:=by
 simp [Obj.mapSeq]
theorem Inv.lst {pins:List (Addr×Obj)}{σ:St}{H:Hp}{s:Shared}{p:Addr}{xs:List V}(I:Inv X pins σ H s)(h:H p=some (.lst xs)) :
  ∃ (its:List Value) (n:Nat),Vals xs its/\s.heap.get? p=some { cls:=.type "list",data:=.seq its.toArray n }/\xs.length<=sizeLine:=by
 obtain ⟨z,its,n,r,e⟩:=I.hok p _ h;exact ⟨its,n,r,e,z⟩
def Inv.LG {pins:List (Addr×Obj)}{σ:St}{H:Hp}{s:Shared}{p:Addr}{xs ys:List V}{its its':List Value}{n n':Nat}{f:Obj->Obj}(I:Inv X pins σ H s)(h:H p=some (.lst xs))
  (ho:s.heap.get? p=some { cls:=.type "list",data:=.seq its.toArray n })(hf:f { cls:=.type "list",data:=.seq its.toArray n }={ cls:=.type "list",data:=.seq its'.toArray n' })(r:Vals ys its')(hz:ys.length<=sizeLine) (t:Nat) :
  Inv X pins σ (upd H p (.lst ys)) { s with heap:=s.heap.update p f,toks:=t }:=by
 have e:(s.heap.update p f).get? p=some { cls:=.type "list",data:=.seq its'.toArray n' }:=by
  rw [Heap.get?_update_self f ho (by rw [hf] <;> rfl),hf]
 refine I.write (x:=p) (e:=p) (by rw [h];trivial) (.inl rfl) (fun b u hb q=>(Heap.get?_update_other _ _ (Ne.symm hb)).trans q) ⟨_,e⟩ ?_
 exact ⟨hz,its',n',r,e⟩
inductive Dl (o:V) (i:V) (v:V)(H:Hp)(Q:(Hp->Prop)):Prop
 | mk:∀ p xs k j,(o=.ref p)->(i=.int k)->(H p=some (.lst xs))->(nS xs.length k=some j)->(Q (upd H p (.lst (xs.set j v))))->Dl o i v H Q
def Gx:V->V->V->Hp->(Hp->Prop)->Prop:=fun o i v H Q=>Dl o i v H Q
def set_list:Ek X Gx:=by
 intro pins s σ H o i v ov iv u Q I ro ri rv h;obtain ⟨p,xs,k,j,rfl,rfl,hp,hj,q⟩:=h;cases ro;obtain ⟨t,rfl⟩:=ri;obtain ⟨its,n,r,ho,hz⟩:=I.lst hp;obtain ⟨h1,h2,h3,h4⟩:=y9 hj;have hl:=r.length;have hn:=lJ;have I':Inv X pins σ (upd H p (.lst (xs.set j v))) { s with heap:=s.heap.update p (Obj.mapSeq (·.setIfInBounds j u)) } :=
  I.LG hp ho (Ah its n j u) (r.set rv j) (by rw [List.length_set];exact hz) s.toks
 by_cases h0:0<=k
 ·have hk:k.toNat=j:=by
   rw [seqIndex_of h0 h4] at h1;exact Option.some.inj h1
  exact PySem.W.ki_setAt ho h0 (by omega) (by rw [OJ,<- hl];exact h4) (by rw [hk];exact ⟨_,I',q⟩)
 ·have hk:(k + (its.toArray.size:Int)).toNat=j:=by
   rw [seqIndex_neg (by omega) h3] at h1
   rw [OJ,<- hl];exact Option.some.inj h1
  exact PySem.W.ki_setBack ho (by omega) (by rw [OJ,<- hl];exact h3) (by omega) (by rw [hk];exact ⟨_,I',q⟩)
def v9 (lo hi:Option Int) (n:Nat):(sliceBounds lo hi none n).1=((HT.aC n 0 lo:Nat):Int)/\(sliceBounds lo hi none n).2.1=((HT.aC n n hi:Nat):Int)/\(sliceBounds lo hi none n).2.2=1:=by
 have one:∀ i:Int,(sliceBounds (some i) none none n).1=((HT.aC n 0 (some i):Nat):Int):=fun i=>by
  simp only [sliceBounds,HT.aC,Option.getD_none,show (1:Int) > 0 by decide,if_true]
  by_cases h:i < 0
  ·simp only [h,if_true] <;> omega
  ·simp only [h,if_false] <;> omega
 refine ⟨?_,?_,rfl⟩
 ·cases lo with
  | none=>simp [sliceBounds,HT.aC]
  | some i=>exact one i
 ·cases hi with
  | none=>simp [sliceBounds,HT.aC]
  | some i=>exact one i
def tZ (its:List Value)(lo hi:Option Int):slicePick its.toArray lo hi none=((its.drop (HT.aC its.length 0 lo)).take (HT.aC its.length its.length hi - HT.aC its.length 0 lo)).toArray:=by
 obtain ⟨h1,h2,h3⟩:=v9 lo hi its.toArray.size;unfold slicePick;rw [h1,h2,h3];simp only [sliceRange_one,pick_run,OJ] <;> rfl
inductive Ft (K:PySem.W.Frag) (x:V)(lo:Option Int)(hi:Option Int)(H:Hp)(Q:VK):Prop
 | mk:∀ a xs,(x=.ref a)->(bI K H a xs)->(∀ p,H p=none->Q (.ref p) (upd H p (.lst (mE xs lo hi))))->Ft K x lo hi H Q
def Jr (K:PySem.W.Frag):V->Option Int->Option Int->Hp->VK->Prop:=fun x lo hi H Q=>Ft K x lo hi H Q
def GP:Cr X (Jr X.K):=by
 intro pins s σ H x v vl vu lo hi sl Q I rx hs pl pu h;obtain ⟨a,xs,rfl,hx,q⟩:=h;cases rx;obtain ⟨its,r,ht,hz⟩:=I.list hx;have hlen:=r.length;refine ⟨"list",_,slot_list_getitem.lookup,ht.isList.typeIs,?_⟩;refine wpAny_getItem_list_slice ht.isList hs pl pu .none (by simp) ?_ (by rw [OJ] <;> omega)
 rw [tZ,<- hlen];refine ⟨.ref s.heap.objs.size,_,I.laid (t':=s.toks) (o:=.lst (mE xs lo hi)) (fun b ob q=>OF _ q) (O5 _) ?_,rfl,q _ (I.hok.fresh (O5 _))⟩
 exact ⟨Nat.le_trans (pe xs lo hi) hz,_,0,(r.drop (HT.aC xs.length 0 lo)).take (HT.aC xs.length xs.length hi - HT.aC xs.length 0 lo),Of _ rfl⟩
def wQ:cj X (.builtin "len") (fun xs H Q=>∃ p ys,xs=[.ref p]/\(bI X.K H p ys\/bW X.K H p ys)/\Q (.int ys.length) H):=by
 intro pins s σ H xs us Q I r h;obtain ⟨p,ys,rfl,hq,q⟩:=h;obtain ⟨u,rfl,rx⟩:=vals1 r;cases rx;have hn:=lJ;rcases hq with hq | hq
 ·obtain ⟨its,r',pl,hz⟩:=I.list hq;have hlen:=r'.length;exact Calls.call_len_list pl.isList (by simp only [OJ] <;> omega) ⟨.int ys.length,H,I.tok _,⟨s.toks + 1,by rw [OJ,hlen]⟩,q⟩
 ·obtain ⟨its,r',pl,hz⟩:=I.tuple hq;have hlen:=r'.length;exact len_tuple pl (by simp only [OJ] <;> omega) ⟨.int ys.length,H,I.tok _,⟨s.toks + 1,by rw [OJ,hlen]⟩,q⟩
def cj.or {f:Value}{r r':List V->Hp->VK->Prop}(h:cj X f r)(h':cj X f r'):cj X f (fun xs H Q=>r xs H Q\/r' xs H Q):=by
 intro pins s σ H xs us Q I rs q;rcases q with q | q
 ·exact h pins s σ H xs us Q I rs q
 ·exact h' pins s σ H xs us Q I rs q
def uB:cj X (.type "list") (fun xs H Q=>∃ p ys,xs=[.ref p]/\(bI X.K H p ys\/bW X.K H p ys)/\∀ l,H l=none->Q (.ref l) (upd H l (.lst ys))):=by
 intro pins s σ H xs us Q I r h;obtain ⟨p,ys,rfl,hq,q⟩:=h;obtain ⟨u,rfl,rx⟩:=vals1 r;cases rx;have fin:∀ (its:List Value),Vals ys its->ys.length<=sizeLine->∀ (h':Heap) (c':Nat),(∀ b o',s.heap.get? b=some o'->h'.get? b=some o') ->
   h'.get? s.heap.objs.size=some { cls:=.type "list",dict:=none,data:=.seq its.toArray c',slots:=#[] }->EP X pins σ Q (.ref s.heap.objs.size) { s with heap:=h' }:=fun its r' hz h' c' kp e =>
  ⟨.ref s.heap.objs.size,_,I.laid (t':=s.toks) kp (O5 _) (show bf X.prog X.w _ h' _ (.lst ys) from ⟨hz,its,c',r',e⟩),rfl,q _ (I.hok.fresh (O5 _))⟩
 rcases hq with hq | hq
 ·obtain ⟨its,r',pl,hz⟩:=I.list hq;have hlen:=r'.length;obtain ⟨o,ho,hc,n,hd⟩:=pl.isList;exact call_list_seq p (.inl rfl) ho hc hd (fun h' c' kp e=>fin its r' hz h' c' kp e) (by simp only [OJ] <;> omega)
 ·obtain ⟨its,r',pl,hz⟩:=I.tuple hq;have hlen:=r'.length;obtain ⟨o,ho,hc,n,hd⟩:=pl;exact call_list_seq p (.inr rfl) ho hc hd (fun h' c' kp e=>fin its r' hz h' c' kp e) (by simp only [OJ] <;> omega)
def mQ:cj X (.type "tuple") (fun xs H Q=>∃ p ys,xs=[.ref p]/\((bI X.K H p ys/\∀ l,H l=none->Q (.ref l) (upd H l (.tup ys)))\/(bW X.K H p ys/\Q (.ref p) H))):=by
 intro pins s σ H xs us Q I r h;obtain ⟨p,ys,rfl,h⟩:=h;obtain ⟨u,rfl,rx⟩:=vals1 r;cases rx;rcases h with ⟨hq,q⟩ | ⟨hq,q⟩
 ·obtain ⟨its,r',pl,hz⟩:=I.list hq;have hlen:=r'.length;refine call_tuple_list pl.isList (fun h' kp=>?_) (by simp only [OJ] <;> omega)
  have I1:Inv X pins σ H { s with heap:=h' }:=I.kept (t':=s.toks) kp
  have I2:Inv X pins σ (upd H h'.objs.size (.tup ys)) { s with heap:=h'.push { cls:=.type "tuple",data:=.seq its.toArray } } :=
   I1.laid (t':=s.toks) (fun b o e=>OF _ e) (O5 _) (show bf X.prog X.w _ _ _ (.tup ys) from ⟨hz,its,r',IsTup.new _ _⟩)
  exact ⟨.ref h'.objs.size,_,I2,rfl,q _ (I1.hok.fresh (O5 _))⟩
 ·obtain ⟨its,r',pl,hz⟩:=I.tuple hq;exact call_tuple_same pl ⟨.ref p,H,I,rfl,q⟩
def LB (K:PySem.W.Frag)(T:String) (x:V)(H:Hp):Prop:=match x with
 | .str _=>T="str"
 | .int _=>T="int"
 | .ref p=>(T="list"/\∃ xs,bI K H p xs)\/(T="tuple"/\∃ o,K.lookup p=some o/\o.cls=.type "tuple"/\o.dict=none) \/
   (T="dict"/\((∃ kvs,H p=some (.dK kvs))\/∃ kvs,H p=some (.dT kvs)))\/(T="set"/\∃ S n,H p=some (.set S n))
 | _=>False
def CJ {pins:List (Addr×Obj)}{σ:St}{H:Hp}{s:Shared}{T:String}{x:V}{v:Value}(I:Inv X pins σ H s)(r:RelV x v)(ty:LB X.K T x H) :
  s.TypeIs v T/\∀ a,v=.ref a->∃ ob,s.heap.get? a=some ob/\ob.dict=none:=by
 cases x with
 | str z =>
  obtain ⟨t,rfl⟩:=r;cases (show T="str" from ty)
  exact ⟨typeIs_str s z t,fun _ e=>nomatch e⟩
 | int i =>
  obtain ⟨t,rfl⟩:=r;cases (show T="int" from ty)
  exact ⟨typeIs_int s i t,fun _ e=>nomatch e⟩
 | ref p =>
  cases r;rcases ty with ⟨rfl,xs,hq⟩ | ⟨rfl,o,hk,hc,hd⟩ | ⟨rfl,hk⟩ | ⟨rfl,S,n,hk⟩
  ·obtain ⟨its,_,pl,_⟩:=I.list hq;refine ⟨pl.isList.typeIs,fun a e=>?_⟩
   cases e;obtain ⟨o,n,e,c,hd,_⟩:=pl;exact ⟨o,e,hd⟩
  ·refine ⟨⟨o,I.fE p o hk,hc⟩,fun a e=>?_⟩
   cases e;exact ⟨o,I.fE _ o hk,hd⟩
  ·have z:∃ o,s.heap.get? p=some o/\o.ExactDict:=by
    rcases hk with ⟨kvs,hk⟩ | ⟨kvs,hk⟩
    ·obtain ⟨_,_,_,_,o,_,_,e,ex,_⟩:=I.hok p _ hk;exact ⟨o,e,ex⟩
    ·obtain ⟨_,_,_,_,o,_,_,e,ex,_⟩:=I.hok p _ hk;exact ⟨o,e,ex⟩
   obtain ⟨o,e,ex⟩:=z;refine ⟨⟨o,e,ex.1⟩,fun a e2=>?_⟩
   cases e2;exact ⟨o,e,ex.2.1⟩
  ·obtain ⟨o,_,_,_,e,ex,_⟩:=I.hok p _ hk;refine ⟨⟨o,e,ex.1⟩,fun a e2=>?_⟩
   cases e2;exact ⟨o,e,ex.2.1⟩
 | _=>exact False.elim ty
def M8 (K:PySem.W.Frag)(T:String)(r:V->List V->Hp->VK->Prop)(to:TE):TE:=fun σ H Q=>to σ H fun x H1=>LB K T x H1/\r x [] H1 Q
def NZ (K:PySem.W.Frag)(T:String)(r:V->List V->Hp->VK->Prop)(to:TE)(t:TA):TE:=fun σ H Q=>to σ H fun x H1=>LB K T x H1/\t σ H1 fun xs H2=>r x xs H2 Q
variable {o e:Expr}{es:List Expr}{to:TE}{t:TA}{name:Str}{apos cpos:Pos}{T id:String}{r:V->List V->Hp->VK->Prop}
def JH (pa:PlainAttrs T)(slot:Slot T name id)(hty:typeOf (.builtin id)=pure (.type "method_descriptor"))(hm:KS X id r)(ho:PE X o to)
  (hbase:attributeBase o name X.env (eval o X.env)=eval o X.env:=by rfl)(hline:(apos.endLine == cpos.line)=true:=by rfl):PE X (.Call (.Attribute o name apos) [] [] cpos) (M8 X.K T r to):=by
 intro pins s σ H Q I h;refine wpAny_Call_method0_late hbase hline (aF (ho pins s σ H _ I h) fun v s1 ⟨x,H1,I1,r1,ty,q1⟩=>?_)
 obtain ⟨h1,h2⟩:=CJ I1 r1 ty;exact ⟨T,id,pa,slot,hty,h1,h2,Calls.callWith_builtin rfl (PySem.evalArgs_none (hm pins s1 σ H1 x [] v [] Q I1 r1 .nil q1))⟩
def rG (pa:PlainAttrs T)(slot:Slot T name id)(hty:typeOf (.builtin id)=pure (.type "method_descriptor"))(hm:KS X id r)(ho:PE X o to)(ha:PA X (e::es) t)
  (hbase:attributeBase o name X.env (eval o X.env)=eval o X.env:=by rfl)
  (hfew:((backTo cpos (starEach (e::es) X.env)).all (fun x=>!x.1) && (backToKw cpos (keywordEach [] X.env)).all (fun x=>x.1.isSome)
   && decide ((e::es).length + ([]:List Keyword).length + (if ([]:List Keyword).isEmpty then 0 else 1) < 30))=true:=by rfl)
  (hline:(apos.endLine == cpos.line)=true:=by rfl)(hs:starEach (e::es) X.env=(false,eval e X.env)::starEach es X.env:=by rfl)(hplain:(backTo cpos (starEach es X.env)).any (·.1)=false:=by rfl) :
  PE X (.Call (.Attribute o name apos) (e::es) [] cpos) (NZ X.K T r to t):=by
 intro pins s σ H Q I h;refine wpAny_Call_method_late hbase hfew hline rfl (aF (ho pins s σ H _ I h) fun v s1 ⟨x,H1,I1,r1,ty,q1⟩=>?_)
 obtain ⟨h1,h2⟩:=CJ I1 r1 ty;refine ⟨T,id,pa,slot,hty,h1,h2,?_⟩;have hA:=ha cpos pins s1 σ H1 _ I1 q1;rw [hs] at hA ⊢;refine Calls.callWith_builtin (by show (false || (backTo cpos (starEach es X.env)).any (·.1))=false;rw [hplain] <;> rfl) (Calls.evalArgs_plain ?_)
 exact aF hA fun us s2 ⟨vs,H2,I2,r2,q2⟩=>hm pins s2 σ H2 x vs v us Q I2 r1 r2 q2
/- xs.append(e),list.index on a module's tuple .. are MtR facts of 06m -/
end
def qK (X:Cx)(id:String)(r:V->List V->Hp->VK->Prop):Prop :=
 ∀ (pins:List (Addr×Obj))(s:Shared)(σ:St)(H:Hp) (x:V)(xs:List V)(v:Value)(us:List Value)(Q:VK),Inv X pins σ H s->RelV x v->Vals xs us->r x xs H Q ->
  wpAny (model X.prog X.w) X.A (call (.builtin id) (v::us)) (EP X pins σ Q) X.xe s
def Vals.one:∀ {x:V}{us:List Value},Vals [x] us->∃ u,us=[u]/\RelV x u
 | _,_,.cons r .nil=>⟨_,rfl,r⟩
def Vals.two:∀ {x y:V}{us:List Value},Vals [x,y] us->∃ u v,us=[u,v]/\RelV x u/\RelV y v
 | _,_,_,.cons r (.cons q .nil)=>⟨_,_,rfl,r,q⟩
def Vals.zero:∀ {us:List Value},Vals [] us->us=[]
 | _,.nil=>rfl
theorem Vals.dropLast {xs:List V}{us:List Value}(h:Vals xs us):Vals xs.dropLast us.dropLast:=by
 induction h with
 | nil=>exact .nil
 | cons r t ih =>
  cases t with
  | nil=>exact .nil
  | cons q t'=>exact .cons r ih
theorem Vals.eraseIdx:∀ {xs:List V}{us:List Value} (i:Nat),Vals xs us->Vals (xs.eraseIdx i) (us.eraseIdx i)
 | _,_,_,.nil=>.nil
 | _,_,0,.cons _ t=>t
 | _,_,i + 1,.cons r t=>.cons r (Vals.eraseIdx i t)
theorem Vals.rep {xs:List V}{us:List Value}(h:Vals xs us):∀ k:Nat,Vals (List.replicate k xs).flatten (List.replicate k us).flatten
 | 0=>.nil
 | k + 1=>by
  rw [List.replicate_succ,List.replicate_succ,List.flatten_cons,List.flatten_cons];exact Vals.append h (Vals.rep h k)
def Ac {α:Type}(l:List α):l.eraseIdx (l.length - 1)=l.dropLast:=by
 induction l with
 | nil=>rfl
 | cons a r ih =>
  cases r with
  | nil=>rfl
  | cons b r =>
   have e:(a::b::r).length - 1=((b::r).length - 1) + 1:=by
    have h1:(a::b::r).length=r.length + 2:=rfl;have h2:(b::r).length=r.length + 1:=rfl;omega
   rw [e,List.eraseIdx_cons_succ,ih]
   all_goals rfl
theorem tL {α:Type}:∀ (l:List α) (i:Nat),(l.eraseIdx i).length<=l.length
 | [],_=>O5 _
 | _::_,0=>Nat.le_succ _
 | _::r,i + 1=>Nat.succ_le_succ (tL r i)
theorem foldl_rep (its:List Value):∀ (k:Nat)(acc:List Value),
  List.foldl (fun x1 x2=>x1++x2) acc.toArray (List.replicate k its.toArray)=(acc++(List.replicate k its).flatten).toArray
 | 0,acc=>by simp
 | k + 1,acc=>by
  have e:acc.toArray++its.toArray=(acc++its).toArray:=by simp
  have e2:(acc++its)++(List.replicate k its).flatten=acc++(List.replicate (k + 1) its).flatten:=by
   rw [List.replicate_succ,List.flatten_cons,List.append_assoc]
  rw [<- e2,<- foldl_rep its k (acc++its),<- e,List.replicate_succ,List.foldl_cons]
section
variable {X:Cx}{pins:List (Addr×Obj)}{σ:St}{H:Hp}{s:Shared}{l b:Addr}{xs ys zs:List V}
def Inv.DN {its its':List Value}{n:Nat}{f:Array Value->Array Value}{t':Nat}(I:Inv X pins σ H s)(hH:H l=some (.lst xs))
  (e:s.heap.get? l=some { cls:=.type "list",data:=.seq its.toArray n })(hf:f its.toArray=its'.toArray)(hv:Vals ys its')(hz:ys.length<=sizeLine) :
  Inv X pins σ (upd H l (.lst ys)) { s with heap:=s.heap.update l (Obj.mapSeq f),toks:=t' }:=by
 have q:=PySem.IsL.update e f;rw [hf] at q;refine I.write (x:=l) (e:=l) (by rw [hH];exact trivial) (.inl rfl) (fun b' u hb hu=>(Heap.get?_update_other s.heap (Obj.mapSeq f) (Ne.symm hb)).trans hu) ⟨_,q⟩ ?_
 exact ⟨hz,its',_,hv,q⟩
def Inv.Ju {its:List Value}{t':Nat}(I:Inv X pins σ H s)(hv:Vals ys its)(hz:ys.length<=sizeLine) :
  Inv X pins σ (upd H s.heap.objs.size (.lst ys)) { s with heap:=s.heap.push { cls:=.type "list",data:=.seq its.toArray },toks:=t' } :=
 I.laid (fun _ _ q=>OF _ q) (O5 _) ⟨hz,its,0,hv,Of _ rfl⟩
theorem Inv.fresh (I:Inv X pins σ H s):H s.heap.objs.size=none:=I.hok.fresh (O5 _)
def Inv.EH (I:Inv X pins σ H s)(hH:H l=some (.lst xs)):xs.length<=sizeLine/\∃ (its:List Value) (n:Nat),Vals xs its/\xs.length=its.length/\s.heap.get? l=some { cls:=.type "list",data:=.seq its.toArray n }:=by
 obtain ⟨z,its,n,r,e⟩:=I.hok l _ hH;exact ⟨z,its,n,r,r.length,e⟩
def DB {n:Nat}(h:n<=sizeLine):Builtin.List.listTooLong n=false:=by
 unfold Builtin.List.listTooLong;exact decide_eq_false (by omega)
end
section
variable {X:Cx}
def yH:V->List V->Hp->VK->Prop:=fun x vs H Q=>∃ l xs y,x=.ref l/\vs=[y]/\H l=some (.lst xs)/\xs.length < sizeLine/\Q .aY (upd H l (.lst (xs++[y])))
def dX:qK X "list.append" yH:=by
 intro pins s σ H x vs v us Q I rx rv h;obtain ⟨l,xs,y,rfl,rfl,hH,hz,q⟩:=h;cases rx;obtain ⟨u,rfl,ru⟩:=rv.one;obtain ⟨z,its,n,r,hl,e⟩:=I.EH hH;refine call_meets F.slot_list_append ⟨_,e,rfl⟩ F.entry_list_append (F.args_list_append_2 _ _) (PySem.list_append l its.toArray n u (by rw [OJ];omega)) ⟨e,?_⟩
 refine ⟨.aY,_,I.DN (its':=its++[u]) hH e (by simp) (r.append (.cons ru .nil)) ?_,rfl,q⟩
 rw [OR,List.length_singleton];omega
inductive Fz (x:V)(vs:List V)(H:Hp)(Q:VK):Prop
 | mk:∀ l xs y,(x=.ref l)->(vs=[])->(H l=some (.lst xs))->(xs[xs.length - 1]?=some y)->(Q y (upd H l (.lst xs.dropLast)))->Fz x vs H Q
def E7:V->List V->Hp->VK->Prop:=fun x vs H Q=>Fz x vs H Q
def Lj:qK X "list.pop" E7:=by
 intro pins s σ H x vs v us Q I rx rv h;obtain ⟨l,xs,y,rfl,rfl,hH,hy,q⟩:=h;cases rx;have hus:=rv.zero;subst hus;obtain ⟨z,its,n,r,hl,e⟩:=I.EH hH;obtain ⟨u,hu,ru⟩:=r.get hy;have hy':its.toArray[its.toArray.size - 1]?=some u:=by
  show its.toArray[its.length - 1]?=some u;rw [<- OZ,<- hl];exact hu
 refine call_meets F.slot_list_pop ⟨_,e,rfl⟩ F.entry_list_pop (F.args_list_pop_1 _) (MeetsSeq.list_pop_last l its.toArray n u hy' (by rw [OJ];omega)) ⟨e,?_⟩
 refine ⟨y,_,I.DN (its':=its.dropLast) hH e ?_ r.dropLast ?_,ru,q⟩
 ·show its.toArray.eraseIdxIfInBounds (its.toArray.size - 1)=its.dropLast.toArray;rw [OJ,List.eraseIdxIfInBounds_toArray,Ac]
 ·rw [List.length_dropLast];omega
inductive zh (x:V)(vs:List V)(H:Hp)(Q:VK):Prop
 | mk:∀ l xs i k y,(x=.ref l)->(vs=[.int i])->(H l=some (.lst xs))->(-(2 ^ 63)<=i)->(i < 2 ^ 63)->(seqIndex? i xs.length=some k)->(xs[k]?=some y)->(Q y (upd H l (.lst (xs.eraseIdx k))))->zh x vs H Q
def wV:V->List V->Hp->VK->Prop:=fun x vs H Q=>zh x vs H Q
def Ey:qK X "list.pop" wV:=by
 intro pins s σ H x vs v us Q I rx rv h;obtain ⟨l,xs,i,k,y,rfl,rfl,hH,h1,h2,hk,hy,q⟩:=h;cases rx;obtain ⟨u,rfl,ru⟩:=rv.one;obtain ⟨t,rfl⟩:=ru;obtain ⟨z,its,n,r,hl,e⟩:=I.EH hH;obtain ⟨w,hw,rw'⟩:=r.get hy;refine call_meets F.slot_list_pop ⟨_,e,rfl⟩ F.entry_list_pop (F.args_list_pop_2 _ _)
  (MeetsSeq.list_pop_at l its.toArray n i t k w (fitsIndex_both h1 h2) (by rw [OJ,<- hl];exact hk) (by rw [<- OZ];exact hw) (by rw [OJ];omega)) ⟨e,?_⟩
 refine ⟨y,_,I.DN (its':=its.eraseIdx k) hH e ?_ (r.eraseIdx k) ?_,rw',q⟩
 ·show its.toArray.eraseIdxIfInBounds k=(its.eraseIdx k).toArray;rw [List.eraseIdxIfInBounds_toArray]
 ·have:=tL xs k;omega
def len_rep {α:Type}(xs:List α) (k:Nat):(List.replicate k xs).flatten.length=k * xs.length:=by
 induction k with
 | zero=>simp
 | succ k ih=>rw [List.replicate_succ,List.flatten_cons,OR,ih,Nat.succ_mul,Nat.add_comm]
end
section
variable {prog:Program}{w:World}{A:Around}{E:Value->Shared->Prop}{s:Shared}
end
section
variable {X:Cx}
end
section
variable {κ:Type} [DecidableEq κ]
def bL (kvs:List (κ×V))(k:κ):Option V:=(kvs.find? fun kv=>decide (kv.1=k)).map (·.2)
def putK (kvs:List (κ×V))(k:κ) (v:V):List (κ×V) :=
 if (kvs.any fun kv=>decide (kv.1=k))=true then kvs.map (fun kv=>if kv.1=k then (kv.1,v) else kv) else kvs++[(k,v)]
def qf {p:κ×V}{r:List (κ×V)}{k:κ}(e:p.1=k):bL (p::r) k=some p.2:=by simp [bL,List.find?_cons,e]
def qa {p:κ×V}{r:List (κ×V)}{k:κ}(e:¬ p.1=k):bL (p::r) k=bL r k:=by simp [bL,List.find?_cons,e]
theorem pP (k:κ):∀ kvs:List (κ×V),(kvs.any fun kv=>decide (kv.1=k))=(bL kvs k).isSome
 | []=>rfl
 | p::r=>by
  rw [List.any_cons]
  by_cases e:p.1=k
  ·simp only [qf e,decide_eq_true e,Bool.true_or,Option.isSome_some]
  ·rw [qa e,decide_eq_false e,Bool.false_or];exact pP k r
def kO (kvs:List (κ×V))(k:κ) (v:V):(putK kvs k v).length<=kvs.length + 1:=by
 unfold putK;split
 ·rw [O7];omega
 ·rw [OR,List.length_cons,List.length_nil];omega
def jb.eZ {o:Option V}{u:Option Value}(r:jb o u):o.isSome=u.isSome:=by
 cases o with
 | none=>cases u with
  | none=>rfl
  | some _=>exact (show False from r).elim
 | some _=>cases u with
  | none=>exact (show False from r).elim
  | some _=>rfl
def KV.val {kvs:List (κ×V)}{vs:List (κ×Value)}(r:KV kvs vs)(k:κ):jb (bL kvs k) (valueAt vs k):=by
 unfold KV at r
 induction r with
 | nil=>exact True.intro
 | @cons p q ps qs h t ih =>
  obtain ⟨h1,h2⟩:=h
  by_cases e:p.1=k
  ·have e':q.1=k:=h1.symm.trans e;have b:valueAt (q::qs) k=some q.2:=by simp [valueAt,List.find?_cons,e']
   rw [qf e,b];exact h2
  ·have e':¬ q.1=k:=fun z=>e (h1.trans z)
   have b:valueAt (q::qs) k=valueAt qs k:=by simp [valueAt,List.find?_cons,e']
   rw [qa e,b];exact ih
theorem KV.any {kvs:List (κ×V)}{vs:List (κ×Value)}(r:KV kvs vs)(k:κ):(kvs.any fun kv=>decide (kv.1=k))=vs.any fun kv=>decide (kv.1=k):=by
 unfold KV at r
 induction r with
 | nil=>rfl
 | cons h t ih=>rw [List.any_cons,List.any_cons,ih,h.1]
def KV.repl {kvs:List (κ×V)}{vs:List (κ×Value)}(r:KV kvs vs)(k:κ){y:V}{u:Value}(ry:RelV y u) :
  KV (kvs.map fun kv=>if kv.1=k then (kv.1,y) else kv) (vs.map fun kv=>if kv.1=k then (kv.1,u) else kv):=by
 unfold KV at r ⊢
 induction r with
 | nil=>exact .nil
 | @cons p q ps qs h t ih =>
  rw [OM,OM];refine .cons ?_ ih;obtain ⟨h1,h2⟩:=h
  by_cases e:p.1=k
  ·rw [if_pos e,if_pos (h1.symm.trans e)];exact ⟨h1,ry⟩
  ·rw [if_neg e,if_neg (fun z=>e (h1.trans z))];exact ⟨h1,h2⟩
def KV.put {kvs:List (κ×V)}{vs:List (κ×Value)}(r:KV kvs vs)(k:κ){y:V}{u:Value}(ry:RelV y u):KV (putK kvs k y) (stored vs k u):=by
 unfold putK stored;rw [r.any k]
 by_cases e:(vs.any fun kv=>decide (kv.1=k))=true
 ·rw [if_pos e,if_pos e];exact r.repl k ry
 ·rw [if_neg e,if_neg e];exact Paired.snoc r ⟨rfl,ry⟩
theorem KV.length {kvs:List (κ×V)}{vs:List (κ×Value)}(r:KV kvs vs):kvs.length=vs.length:=Paired.length r
end
def oj {P:Program}{w:World}{k:Key}{u:Value}(r:RelV (kV k) u):(b8 P w).is k u=true:=by
 cases k with
 | inl i=>obtain ⟨t,e⟩:=(show ∃ t,u=Value.int i t from r);subst e;exact yg P w i t
 | inr x=>obtain ⟨t,e⟩:=(show ∃ t,u=Value.str x t from r);subst e;exact x8 P w x t
theorem sF {P:Program}{w:World}:∀ {ks:List Key}{us:List Value},Vals (ks.map kV) us->ItemsAre (b8 P w) ks us
 | [],_,r=>by rw [List.map_nil] at r;cases r;exact .nil
 | k::ks,_,r=>by
  rw [OM] at r;cases r with
  | cons h t=>exact .cons (oj h) (sF t)
abbrev KT (H:Hp):List (List Key×V)->List (List Key×Addr×Value)->Prop:=Paired fun p q=>p.1=q.1/\H q.2.1=some (.tup (p.1.map kV))/\RelV p.2 q.2.2
def KT.val {H:Hp}{kvs:List (List Key×V)}{xs:List (List Key×Addr×Value)}(r:KT H kvs xs)(k:List Key):jb (bL kvs k) ((atKey xs k).map (·.2)):=by
 induction r with
 | nil=>exact True.intro
 | @cons p q ps qs h t ih =>
  obtain ⟨h1,_,h2⟩:=h
  by_cases e:p.1=k
  ·have e':q.1=k:=h1.symm.trans e;have b:atKey (q::qs) k=some q.2:=by simp [atKey,List.find?_cons,e']
   rw [qf e,b];exact h2
  ·have e':¬ q.1=k:=fun z=>e (h1.trans z)
   have b:atKey (q::qs) k=atKey qs k:=by simp [atKey,List.find?_cons,e']
   rw [qa e,b];exact ih
def KT.repl {H:Hp}{kvs:List (List Key×V)}{xs:List (List Key×Addr×Value)}(r:KT H kvs xs)(k:List Key){y:V}{u:Value}(ry:RelV y u) :
  KT H (kvs.map fun kv=>if kv.1=k then (kv.1,y) else kv) (xs.map (putAt k u)):=by
 induction r with
 | nil=>exact .nil
 | @cons p q ps qs h t ih =>
  rw [OM,OM];refine .cons ?_ ih;obtain ⟨h1,h2,h3⟩:=h;unfold putAt
  by_cases e:p.1=k
  ·rw [if_pos e,if_pos (h1.symm.trans e)];exact ⟨h1,h2,ry⟩
  ·rw [if_neg e,if_neg (fun z=>e (h1.trans z))];exact ⟨h1,h2,h3⟩
def KT.put {H:Hp}{kvs:List (List Key×V)}{xs:List (List Key×Addr×Value)}(r:KT H kvs xs)(k:List Key){b:Addr}{y:V}{u:Value}(hb:H b=some (.tup (k.map kV)))(ry:RelV y u) :
  KT H (putK kvs k y) (storedH xs k b u):=by
 have e:(kvs.any fun kv=>decide (kv.1=k))=(atKey xs k).isSome:=by
  rw [pP,(r.val k).eZ,Option.isSome_map]
 unfold putK storedH;rw [e]
 by_cases q:(atKey xs k).isSome=true
 ·rw [if_pos q,if_pos q];exact r.repl k ry
 ·rw [if_neg q,if_neg q];exact Paired.snoc r ⟨rfl,hb,ry⟩
def KT.keeps {H H':Hp}{kvs:List (List Key×V)}{xs:List (List Key×Addr×Value)}(r:KT H kvs xs)(ht:∀ b ys,H b=some (.tup ys)->H' b=some (.tup ys)):KT H' kvs xs :=
 Paired.Ad r fun _ _ z=>⟨z.1,ht _ _ z.2.1,z.2.2⟩
section
variable {P:Program}{w:World}{H:Hp}{h:Heap}{a:Addr}
def F8 {u:HO}(ok:cS P w H h)(e:Rd H a u):bf P w H h a u:=e.ok ok
def oA {kvs:List (Key×V)}(ok:cS P w H h)(e:Rd H a (.dK kvs)):kvs.length<=sizeLine/\(a == sysModules)=false/\∃ vs,KV kvs vs/\h.DictOf (b8 P w) a vs :=
 show bf P w H h a (.dK kvs) from F8 ok e
def Gb {kvs:List (Key×V)}(ok:cS P w H h)(e:H a=some (.dK kvs)):kvs.length<=sizeLine/\(a == sysModules)=false/\∃ vs,KV kvs vs/\h.DictOf (b8 P w) a vs:=oA ok (.inl e)
def lM {ks:List Key}(ok:cS P w H h)(e:H a=some (.tup (ks.map kV))):(tupleKind (b8 P w)).is h ks a:=by
 obtain ⟨_,its,r,o,h1,h2,n,h3⟩:=(show bf P w H h a (.tup (ks.map kV)) from ok a _ e)
 exact ⟨o,its.toArray,n,h1,h2,h3,by simpa using sF r⟩
def qP {kvs:List (List Key×V)}(ok:cS P w H h)(e:Rd H a (.dT kvs)):kvs.length<=sizeLine/\(a == sysModules)=false /\
  ∃ xs,KT H kvs xs/\h.DictOfH (tupleKind (b8 P w)) a xs:=by
 obtain ⟨z,y,xs,r,o,es,ep,h1,h2,h3,h4,h5⟩:=(show bf P w H h a (.dT kvs) from F8 ok e)
 refine ⟨z,y,xs,r,o,es,ep,h1,h2,h3,h4,fun x hx=>?_,h5⟩
 have all:∀ {l:List (List Key×V)}{m:List (List Key×Addr×Value)},KT H l m->∀ x∈m,(tupleKind (b8 P w)).is h x.1 x.2.1:=by
  intro l m q
  induction q with
  | nil=>intro x hx;exact nomatch hx
  | @cons p q ps qs hq t ih =>
   intro x hx;rcases O9.mp hx with e | hx
   ·subst e;exact lM ok (by rw [<- hq.1];exact hq.2.1)
   ·exact ih x hx
 exact all r x hx
def Gu {kvs:List (List Key×V)}(ok:cS P w H h)(e:H a=some (.dT kvs)):kvs.length<=sizeLine/\(a == sysModules)=false /\
  ∃ xs,KT H kvs xs/\h.DictOfH (tupleKind (b8 P w)) a xs:=qP ok (.inl e)
end
def gR (H:Hp)(a:Addr) (y:V)(r:Option V):Prop :=
 (∃ kvs k,Rd H a (.dK kvs)/\y=kV k/\r=bL kvs k)\/∃ kvs k b,Rd H a (.dT kvs)/\y=.ref b/\H b=some (.tup (k.map kV))/\r=bL kvs k
def nQ (H:Hp)(a:Addr) (y v:V)(H':Hp):Prop :=
 (∃ kvs k,H a=some (.dK kvs)/\y=kV k/\kvs.length < sizeLine/\H'=upd H a (.dK (putK kvs k v))) \/
 ∃ kvs k b,H a=some (.dT kvs)/\y=.ref b/\H b=some (.tup (k.map kV))/\kvs.length < sizeLine/\H'=upd H a (.dT (putK kvs k v))
theorem gR.k {H:Hp}{a:Addr}{kvs:List (Key×V)}{k:Key}(e:H a=some (.dK kvs)):gR H a (kV k) (bL kvs k):=.inl ⟨kvs,k,.inl e,rfl,rfl⟩
def gR.t {H:Hp}{a b:Addr}{kvs:List (List Key×V)}{k:List Key}(e:H a=some (.dT kvs))(eb:H b=some (.tup (k.map kV))):gR H a (.ref b) (bL kvs k):=.inr ⟨kvs,k,b,.inl e,rfl,eb,rfl⟩
theorem nQ.k {H:Hp}{a:Addr}{kvs:List (Key×V)}{k:Key}{v:V}(e:H a=some (.dK kvs))(hl:kvs.length < sizeLine):nQ H a (kV k) v (upd H a (.dK (putK kvs k v))):=.inl ⟨kvs,k,e,rfl,hl,rfl⟩
def nQ.t {H:Hp}{a b:Addr}{kvs:List (List Key×V)}{k:List Key}{v:V}(e:H a=some (.dT kvs))(eb:H b=some (.tup (k.map kV)))(hl:kvs.length < sizeLine) :
  nQ H a (.ref b) v (upd H a (.dT (putK kvs k v))):=.inr ⟨kvs,k,b,e,rfl,eb,hl,rfl⟩
section
variable {X:Cx}{pins:List (Addr×Obj)}{σ:St}{H:Hp}{s:Shared}{a:Addr}{y v:V}{u r:Value}{o:Option V}{A:Around}{E:Value->Shared->Prop}
def Inv.big (I:Inv X pins σ H s):sysModules < s.heap.objs.size:=by
 have h:mainGlobals < s.heap.objs.size:=(I.mod.glob.keeps I.bk).lt;exact Nat.lt_trans (by decide) h
def Ba {Q:Value->Shared->Prop}(hu:A.units + 1 < cLine)(I:Inv X pins σ H s)(g:gR H a y (some v))(ry:RelV y u)(h:∀ w' s',Inv X pins σ H s'->RelV v w'->Q w' s') :
  wpAny (model X.prog X.w) A (getItem (.ref a) u) Q E s:=by
 rcases g with ⟨kvs,k,e,ey,l⟩ | ⟨kvs,k,b,e,ey,eb,l⟩
 ·subst ey;obtain ⟨z,hd,vs,rel,dd⟩:=oA I.hok e;obtain ⟨w',hw,rw'⟩:=jb.some_of (v:=v) (o:=valueAt vs k) (by rw [l];exact rel.val k)
  exact wpAny_getItem_of (oj ry) dd.mapOf hw (h w' _ (I.tok _) rw')
 ·subst ey;cases (show u=Value.ref b from ry)
  obtain ⟨z,hd,xs,rel,dd⟩:=qP I.hok e;obtain ⟨w',hw,rw'⟩:=jb.some_of (v:=v) (o:=(atKey xs k).map (·.2)) (by rw [l];exact rel.val k)
  obtain ⟨p,hp,hp2⟩:=Option.map_eq_some_iff.mp hw;refine wpAny_getItem_heap (tupleKind_room_in1 hu) (lM I.hok eb) dd hp ?_;rw [hp2];exact h w' _ (I.tok _) rw'
def Nn {Q:Value->Shared->Prop}(hu:A.units + 1 < cLine)(I:Inv X pins σ H s)(g:gR H a y o)(ry:RelV y u)(h:∀ s',Inv X pins σ H s'->Q (.bool o.isSome) s') :
  wpAny (model X.prog X.w) A (compareOp .In u (.ref a)) Q E s:=by
 rcases g with ⟨kvs,k,e,ey,l⟩ | ⟨kvs,k,b,e,ey,eb,l⟩
 ·subst ey;obtain ⟨z,hd,vs,rel,dd⟩:=oA I.hok e;refine wpAny_in_of (oj ry) hd dd.mapOf ?_;rw [<- (rel.val k).eZ,<- l];exact h _ (I.tok _)
 ·subst ey;cases (show u=Value.ref b from ry)
  obtain ⟨z,hd,xs,rel,dd⟩:=qP I.hok e;refine wpAny_in_heap (tupleKind_room_in1 hu) (lM I.hok eb) hd dd ?_;have q:=(rel.val k).eZ;rw [Option.isSome_map] at q;rw [<- q,<- l];exact h _ (I.tok _)
def G5 {Q:Value->Shared->Prop}(hu:A.units + 1 < cLine)(I:Inv X pins σ H s)(g:gR H a y o)(ry:RelV y u)(h:∀ s',Inv X pins σ H s'->Q (.bool (!o.isSome)) s') :
  wpAny (model X.prog X.w) A (compareOp .NotIn u (.ref a)) Q E s:=by
 rcases g with ⟨kvs,k,e,ey,l⟩ | ⟨kvs,k,b,e,ey,eb,l⟩
 ·subst ey;obtain ⟨z,hd,vs,rel,dd⟩:=oA I.hok e;refine wpAny_notIn_of (oj ry) hd dd.mapOf ?_;rw [<- (rel.val k).eZ,<- l];exact h _ (I.tok _)
 ·subst ey;cases (show u=Value.ref b from ry)
  obtain ⟨z,hd,xs,rel,dd⟩:=qP I.hok e;refine wpAny_notIn_heap (tupleKind_room_in1 hu) (lM I.hok eb) hd dd ?_;have q:=(rel.val k).eZ;rw [Option.isSome_map] at q;rw [<- q,<- l];exact h _ (I.tok _)
def oG {h':Heap}{t':Nat}{ob:HO}(I:Inv X pins σ H s)(mu:AW (H a))(hs:Heap.SameBut a s.heap h')(he:∃ q,h'.get? a=some q)(new:bf X.prog X.w (upd H a ob) h' a ob) :
  Inv X pins σ (upd H a ob) { s with heap:=h',toks:=t' } :=
 I.write (x:=a) (e:=a) mu (.inl rfl) (fun b q hb z=>(hs.2 b hb).trans z) he new
def AS {P:Program}{w:World}{H':Hp}{h':Heap}{kvs:List (Key×V)}{vs:List (Key×Value)}(z:kvs.length<=sizeLine)(hd:(a == sysModules)=false)(rel:KV kvs vs)(dd:h'.DictOf (b8 P w) a vs) :
  bf P w H' h' a (.dK kvs):=⟨z,hd,vs,rel,dd⟩
def A9 {H':Hp}{Q:Unit->Shared->Prop}(hu:A.units + 1 < cLine)(I:Inv X pins σ H s)(g:nQ H a y v H')(ry:RelV y u)(rv:RelV v r)(h:∀ s',Inv X pins σ H' s'->Q () s') :
  wpAny (model X.prog X.w) A (setItem (.ref a) u r) Q E s:=by
 rcases g with ⟨kvs,k,e,ey,l,eH⟩ | ⟨kvs,k,b,e,ey,eb,l,eH⟩
 ·subst ey eH;obtain ⟨z,hd,vs,rel,dd⟩:=Gb I.hok e;have hz:vs.length<=sizeLine:=by rw [<- rel.length];exact z
  have hl:(putK kvs k v).length<=sizeLine:=by have:=kO kvs k v;omega
  refine wpAny_setItem_pairs (hsz:=hz) (oj ry) dd fun h' dd' hs=>h _ ?_
  have he:∃ q,h'.get? a=some q:=let ⟨q,_,_,hq,_⟩:=dd';⟨q,hq⟩
  exact oG I (by rw [e];exact True.intro) hs he (AS hl hd (rel.put k rv) dd')
 ·subst ey eH;cases (show u=Value.ref b from ry)
  obtain ⟨z,hd,xs,rel,dd⟩:=Gu I.hok e;have hz:xs.length<=sizeLine:=by rw [<- Paired.length rel];exact z
  have hl:(putK kvs k v).length<=sizeLine:=by have:=kO kvs k v;omega
  refine wpAny_setItem_heap (hsz:=hz) (tupleKind_room_in1 hu) (lM I.hok eb) dd fun h' dd' hs=>h _ ?_
  obtain ⟨q,es,ep,hq,h2,h3,h4,_,h5⟩:=dd';refine oG I (by rw [e];exact True.intro) hs ⟨q,hq⟩ ⟨hl,hd,_,(rel.put k eb rv).keeps fun c ys ec=>?_,q,es,ep,hq,h2,h3,h4,h5⟩
  rw [ai (zO ec e (fun z=>nomatch z))]
  exact ec
end
section
variable {X:Cx}{pins:List (Addr×Obj)}{σ:St}{H:Hp}{s:Shared}{a:Addr}{kvs:List (Key×V)}{k:Key}{u:Value}{A:Around}{E:Value->Shared->Prop}
def L4 {Q:Value->Shared->Prop}(I:Inv X pins σ H s)(e:Rd H a (.dK kvs))(h:∀ t s',Inv X pins σ H s'->Q (.int kvs.length t) s'):wpAny (model X.prog X.w) A (call (.builtin "len") [.ref a]) Q E s:=by
 obtain ⟨z,hd,vs,rel,dd⟩:=oA I.hok e;refine call_len_dict hd dd (by rw [<- rel.length];rw [sizeLine_eq] at z;omega) ?_
 rw [<- rel.length];exact h _ _ (I.tok _)
end
def yt {X:Cx}{pins:List (Addr×Obj)}{σ:St}{H:Hp}{s:Shared}{a:Addr}{y:V}{o:Option V}(I:Inv X pins σ H s)(g:gR H a y o):s.TypeIs (.ref a) "dict":=by
 rcases g with ⟨kvs,k,e,_,_⟩ | ⟨kvs,k,b,e,_,_,_⟩
 ·obtain ⟨_,_,vs,_,dd⟩:=oA I.hok e;exact dd.typeIs
 ·obtain ⟨_,_,xs,_,dd⟩:=qP I.hok e;exact dd.typeIs
section
variable {X:Cx}{o i e value:Expr}{pos pos' tpos:Pos}{td ty tv:TE}
end
def EJ {P:Program}{w:World}{H:Hp}(h:Heap)(hb:sysModules < h.objs.size):bf P w H (h.push { cls:=.type "dict",data:=.dict #[] }) h.objs.size (.dK []) :=
 ⟨Nat.zero_le _,beq_eq_false_iff_ne.mpr (Ne.symm (OD hb)),[],.nil,Heap.DictOf.new h⟩
def Fb {P:Program}{w:World}{H:Hp}(h:Heap)(hb:sysModules < h.objs.size):bf P w H (h.push { cls:=.type "dict",data:=.dict #[] }) h.objs.size (.dT []) :=
 ⟨Nat.zero_le _,beq_eq_false_iff_ne.mpr (Ne.symm (OD hb)),[],.nil,_,#[],0,Of _ rfl,⟨rfl,rfl,rfl⟩,rfl,rfl,List.nodup_nil⟩
def KA:TE:=fun _ H Q=>∀ p,H p=none->Q (.ref p) (upd H p (.dT []))
section
variable {X:Cx}{pos:Pos}
def Ff:PE X (.Dict [] [] pos) KA:=fun pins s σ H Q I h =>
 wpAny_Dict_empty ⟨.ref s.heap.objs.size,_,I.laid (a:=s.heap.objs.size) (o:=.dT []) (t':=s.toks) (fun _ _ q=>OF _ q) (O5 _) (Fb s.heap I.big),rfl,h _ (I.hok.fresh (O5 _))⟩
end
def lK:List (TE×TE)->St->Hp->(List (V×V)->Hp->Prop)->Prop
 | [],_,H,Q=>Q [] H
 | (tk,tv)::r,σ,H,Q=>tk σ H fun x H1=>tv σ H1 fun y H2=>lK r σ H2 fun ps H3=>Q ((x,y)::ps) H3
abbrev VV:List (V×V)->List (Value×Value)->Prop:=Paired fun p q=>RelV p.1 q.1/\RelV p.2 q.2
def Cu (X:Cx)(pos:Pos)(keys:List (Option Expr))(values:List Expr)(trs:List (TE×TE)):Prop :=
 ∀ (pins:List (Addr×Obj))(s:Shared)(σ:St)(H:Hp)(Q:List (V×V)->Hp->Prop),Inv X pins σ H s->lK trs σ H Q ->
  wpAny (model X.prog X.w) X.A (evalPairs (pairTrees keys values X.env pos)) (fun vs s'=>∃ ps H',Inv X pins σ H' s'/\VV ps vs/\Q ps H') X.xe s
def Ic {X:Cx}{pos:Pos}:Cu X pos [] [] []:=fun pins s σ H Q I h=>pairTrees_nil_walk ⟨[],H,I,.nil,h⟩
def D7 {X:Cx}{pos:Pos}{k v:Expr}{ks:List (Option Expr)}{vs:List Expr}{tk tv:TE}{trs:List (TE×TE)}(hk:PE X k tk)(hv:PE X v tv)(hr:Cu X pos ks vs trs) :
  Cu X pos (some k::ks) (v::vs) ((tk,tv)::trs):=fun pins s σ H Q I h =>
 pairTrees_cons_walk (aF (hk pins s σ H _ I h) fun u s1 ⟨x,H1,I1,rx,q1⟩=>aF (hv pins s1 σ H1 _ I1 q1) fun w2 s2 ⟨y,H2,I2,ry,q2⟩ =>
  aF (hr pins s2 σ H2 _ I2 q2) fun ws s3 ⟨ps,H3,I3,rel,q3⟩=>⟨(x,y)::ps,H3,I3,.cons ⟨rx,ry⟩ rel,q3⟩)
def jW (kvs more:List (Key×V)):List (Key×V):=more.foldl (fun acc kv=>putK acc kv.1 kv.2) kvs
def KV.merge:∀ {more:List (Key×V)}{rs:List (Key×Value)}{kvs:List (Key×V)}{vs:List (Key×Value)},KV more rs->KV kvs vs->KV (jW kvs more) (merged vs rs):=by
 intro more rs kvs vs r;unfold KV at r
 induction r generalizing kvs vs with
 | nil=>intro q;exact q
 | @cons p q ps qs h t ih =>
  intro r0;have e:KV (putK kvs p.1 p.2) (stored vs q.1 q.2):=by
   have:=r0.put p.1 h.2;rw [<- h.1];exact this
  exact ih e
theorem mL:∀ (more kvs:List (Key×V)),(jW kvs more).length<=kvs.length + more.length
 | [],kvs=>by show kvs.length<=kvs.length + 0;omega
 | p::r,kvs=>by
  have h1:=mL r (putK kvs p.1 p.2);have h2:=kO kvs p.1 p.2;show (jW (putK kvs p.1 p.2) r).length<=_;rw [List.length_cons];omega
theorem qL {P:Program}{w:World}:∀ {kvs:List (Key×V)}{ws:List (Value×Value)},VV (kvs.map fun kv=>(kV kv.1,kv.2)) ws->∃ rs,Carries (b8 P w) ws rs/\KV kvs rs
 | [],_,r=>by rw [List.map_nil] at r;cases r;exact ⟨[],True.intro,.nil⟩
 | p::kvs,_,r=>by
  rw [OM] at r;cases r with
  | @cons a b as bs h t =>
   obtain ⟨rs,c,q⟩:=qL (P:=P) (w:=w) t;obtain ⟨b1,b2⟩:=b;exact ⟨(p.1,b2)::rs,⟨oj h.1,rfl,c⟩,.cons ⟨rfl,h.2⟩ q⟩
def Mj (trs:List (TE×TE)):TE:=fun σ H Q=>∀ p,H p=none->lK trs σ (upd H p (.dK [])) fun ps H2=>H2 p=some (.dK [])/\∃ kvs:List (Key×V),ps=kvs.map (fun kv=>(kV kv.1,kv.2))/\kvs.length<=15/\Q (.ref p) (upd H2 p (.dK (jW [] kvs)))
def HW {X:Cx}{pos:Pos}{keys:List (Option Expr)}{values:List Expr}{trs:List (TE×TE)}(h:Cu X pos keys values trs)(hall:keys.all (·.isSome)=true)(hl:keys.length=values.length)(h0:keys≠[])
  (h15:keys.length<=15):PE X (.Dict keys values pos) (Mj trs):=by
 intro pins s σ H Q I q;have hn:=I.hok.fresh (O5 s.heap.objs.size);have I1:=I.laid (a:=s.heap.objs.size) (o:=.dK []) (h':=s.heap.push { cls:=.type "dict",data:=.dict #[] }) (t':=s.toks) (fun _ _ q=>OF _ q) (O5 _) (EJ s.heap I.big)
 refine wpAny_Dict_walk (knd:=b8 X.prog X.w) hall hl h0 h15 (aF (h pins _ σ _ _ I1 (q _ hn)) fun ws s2 ⟨ps,H2,I2,rel,e,kvs,ep,lk,q2⟩=>?_)
 subst ep;obtain ⟨rs,c,rk⟩:=qL (P:=X.prog) (w:=X.w) rel;obtain ⟨z,hd,vs0,r0,dd⟩:=Gb I2.hok e;cases r0;refine ⟨rs,c,dd,fun h' dd' hs=>⟨.ref s.heap.objs.size,_,?_,rfl,q2⟩⟩
 have hz:(jW [] kvs).length<=sizeLine:=by
  have h1:=mL kvs [];rw [List.length_nil] at h1;rw [sizeLine_eq];omega
 have he:∃ q,h'.get? s.heap.objs.size=some q:=let ⟨q,_,_,hq,_⟩:=dd';⟨q,hq⟩
 exact oG I2 (by rw [e];exact True.intro) hs he (AS hz hd (rk.merge .nil) dd')
section
variable {X:Cx}{pins:List (Addr×Obj)}{σ:St}{H:Hp}{s:Shared}{a:Addr}{y d:V}{u r:Value}{o:Option V}{A:Around}{E:Value->Shared->Prop}
end
section
variable {X:Cx}{o e f:Expr}{apos cpos:Pos}{td ty tx:TE}
end
section
variable {X:Cx}{pins:List (Addr×Obj)}{σ:St}{H:Hp}{s:Shared}{a:Addr}{kvs:List (Key×V)}{A:Around}{E:Value->Shared->Prop}
end
section
variable {X:Cx}{pins:List (Addr×Obj)}{σ:St}{H:Hp}{s:Shared}{a:Addr}{y:V}{u:Value}{A:Around}{E:Value->Shared->Prop}
end
end L2
namespace M0
open PySem PySem.W PySem.Calls PyProof.Rows
def rD {P:Params}{h:Heap}:∀ (ns:List Int)(vs:List Value),WellAll P h vs (ns.map WData.int)->IntsAre vs ns:=by
 intro ns
 induction ns with
 | nil =>
  intro vs w;rw [List.map_nil] at w;cases w;exact .nil
 | cons n ns ih =>
  intro vs w;rw [OM] at w;cases w with
  | cons a b =>
   cases a;exact .cons _ _ (ih _ b)
def CD {l:OpenLaw}{n:Nat}(hn:l.most=some n){P:Params}{h:Heap}{args:List WData}{vals:List Value}
  (hpre:l.row.toRowW.claim.pre args=true)(hwl:WellAll P h vals args) :
  ∃ a vs ns,vals=[Value.ref a]/\args=[WData.list (ns.map WData.int)]/\h.get? a=some { cls:=.type "list",data:=.seq vs.toArray }/\IntsAre vs ns/\ns.length<=n:=by
 have hsh:WShape.hasAll [] args [.list .int]=true:=(pre_splitW hpre).1;have hc:l.pre.holds [] { args:=args }=true:=(pre_splitW hpre).2;obtain ⟨d,r,rfl,h1,h2⟩:=hasAllW_cons hsh;obtain rfl:=hasAllW_nil h2;obtain ⟨xs,rfl,h3⟩:=hasW_list h1;obtain ⟨ns,rfl⟩:=items_int h3;have hlen:ns.length<=n:=by
  unfold OpenLaw.pre at hc;have h4:(WTm.not (.lt (.lit (.int (n:Int))) (.len (.arg 0)))).holds [] { args:=[.list (ns.map .int)] }=true:=by
   have h4:=(holds_andW hc).1;rw [hn] at h4;exact h4
  have h5:=condW_of h4 (w_not (w_lt w_lit (w_len_list (w_arg rfl))));rw [O7] at h5;refine Nat.le_of_not_lt fun q=>?_
  have q':(n:Int) < ((ns.length:Nat):Int):=by omega
  first
   | (rw [decide_eq_true q'] at h5;exact absurd h5 (by decide))
   | (simp at h5;omega)
 cases hwl with
 | cons w1 w2 =>
  cases w2;cases w1 with
  | list ho hall=>exact ⟨_,_,ns,rfl,rfl,ho,rD ns _ hall,hlen⟩
def BX (l:OpenLaw)(args:List WData):l.row.toRowW.claim.post args (.bool true) args=true :=
 postW_of (r:=l.row.toRowW) (X:=(true == true))
  (show WShape.has [] (.bool true) .bool=true by first | rfl | decide | simp [WShape.has,WShape.arms,WShape.armsAll])
  (show (WTm.eq .res (.lit (.bool true))).value [] { args:=args,res:=some (.bool true),after:=args }=some (.bool (true == true)) from w_eq_bool (w_res rfl) w_lit) rfl
def xR {l:OpenLaw}{n:Nat}{q:Program}{loose:List Str}{XP:(Str->Option Value)->Heap->Prop}{YP:World->Heap->Prop}{d:DefRec}
  (hn:l.most=some n)(hdf:d.params.defaults=[])
  (call:∀ (w:World)(s₀ s₁:Shared)(mg mb:Str->Option Value)(fa:Addr)(o:Obj)(pm cd doc:Value)(a:Addr)(vs:List Value)(ns:List Int),
   Ground q loose [] XP w s₀ mg mb s₁.heap->YP w s₁.heap ->
   s₁.heap.get? fa=some o->o.data=.func (docDef d.name d.params d.body d.scope pm cd doc)->s₁.heap.CodeRec cd d.name->mg d.name=some (.ref fa) ->
   s₁.heap.get? a=some { cls:=.type "list",data:=.seq vs.toArray }->IntsAre vs ns->ns.length<=n->s₁.gens=#[] ->
   codeAny (model l.prog w) callerA (.call (.ref fa) ⟨[.ref a],[]⟩) (fun r s'=>r=.ok (.ret (.bool true))/\OldK s₁.heap s'.heap/\s'.os=s₁.os/\AllBare s'.gens) s₁) :
  WalkO q loose XP YP l.row.toRowW d [] (fun f vs=>PySem.call f vs):=by
 intro w s₀ s₁ mg mb G Y fa o pm cd doc dV kV ho hd hcd hD hmg hg args vals as hpre hlay hrd hwl hlo;obtain rfl:dV=.none:=Dflts.none hD hdf;obtain rfl:kV=.none:=Dflts.noKw hD;obtain ⟨a,vs,ns,rfl,rfl,hobj,hints,hlen⟩:=CD hn hpre hwl;refine enter_call (codeAny_mono (call w s₀ s₁ mg mb fa o pm cd doc a vs ns G Y ho (fd_plain hd) hcd hmg hobj hints hlen hg) fun r s' hq=>?_)
 obtain ⟨rfl,h2,h3,h4⟩:=hq;exact ⟨.inl ⟨.bool true,.bool true,[],rfl,fun _=>rfl,.bool true,BX l _,fun _=>⟨List.Pairwise.nil,fun _ hm=>(nomatch hm)⟩⟩,h2,h3,h4⟩
section
variable {prog:Program}{w:World}{A:Around}{E:Value->Shared->Prop}{s:Shared}{K:Frag}
end
end M0
namespace L2
open PySem PySem.Spec PyProof.Rows
theorem tS:∀ {vs:List Value}{ns:List Int},IntsAre vs ns->Vals (ns.map V.int) vs
 | _,_,.nil=>.nil
 | _,_,.cons n t h=>.cons ⟨t,rfl⟩ (tS h)
def Ej (H:Hp):Prop:=∀ b,H b=none\/∃ o xs,H b=some (.bY o (.lst xs))
end L2
/- THE LAST THEOREM (shape;LID,My.* are yours):
   My.Adr: a structure of the addresses that your layer names (classes,functions);My.Txt K t: a structure (Prop) of the equations over K;
   My.txt_mk:{K} {implicit addresses ..}(e1:nsIn K mainGlobals "law"=some (some (.ref f)))(e2:K.lookup f=some ⟨oc,od,.func (fnOf "law" "law" params body scope dV kV doc pm an cdv ct),sl⟩)(e3:codeIn K cdv "law"=true) ..:∃ t,My.Txt K t
set_option maxRecDepth 100000 in
set_option maxHeartbeats 0 in
theorem PySem.Challenge.cw_LID_holds : PySem.Challenge.rw_LID.Holds := by
 w_on;o_law;k_head;(case hw=>w_witness2)
 k_fill
 refine L2.walk_of (l:=PySem.Challenge.rw_LID) (n:=63) (k:=40) (x:="script") (CX:=fun w=>..) (sp:=fun _=>My.sp_law) rfl (by decide) rfl ⟨rfl,by decide,by decide⟩ (fun w h Y=>PySem.W.kIn_of Y) ?F ?S ?C
 case F =>
  intro w mg fa h KX G hmg;have T:∃ t,My.Txt (L2.KOf KX) t:=by
   dsimp only [L2.KOf]                          -- K must stand as «<heap const> w.params» for k_is
   refine' My.txt_mk ?e1 ?e2 ?e3 ..
   (case e1=>PySem.W.k_is)                    -- in the order: a name -> its address -> its object -> its parts
   (case e2=>PySem.W.k_is)
   ..
  obtain ⟨t,T⟩:=T;have e0:=hmg.symm.trans (PySem.W.mg_of KX G T.law);cases e0                                       -- fa is the law's own address;exact ⟨_,fun s u=>.of_eq rfl,fun base kb nb=>My.law_fn T kb nb⟩     -- if «.of_eq rfl» comes too early: refine' ⟨_,?b,fun base kb nb=>My.law_fn T kb nb⟩;exact fun s u=>.of_eq rfl
 case S=>exact fun w H a ns hl hO hS=>..
 case C=>exact ..
(the tactic k_is has no namespace: write k_is) -/
namespace L2
open PySem PySem.Spec PyProof.Rows
def ju (s:Stmt):Arguments:=match s with
 | .FunctionDef _ a _ _ _ _ _ _ _ _=>a
 | _=>{ posonlyargs:=[],args:=[],vararg:=none,kwonlyargs:=[],kw_defaults:=[],kwarg:=none,defaults:=[] }
def gu (s:Stmt):List Stmt:=match s with
 | .FunctionDef _ _ b _ _ _ _ _ _ _=>b
 | _=>[]
def ao (s:Stmt):Scope:=match s with
 | .FunctionDef _ _ _ _ _ _ sc _ _ _=>sc
 | _=>{ kind:=.function,names:=[],isGenerator:=false,isCoroutine:=false }
abbrev E0:XK:=fun _ _ _=>False
structure cH (K:PySem.W.Frag) (x qual:Str)(st:Stmt)(f:Addr)(fd:FuncData):Prop where
 ex:∃ (oc:Value)(od:Option Addr)(kV doc pm:Value)(an:Option Addr)(cdv ct:Value)(osl:Array (Option Value)),
  fd=PySem.W.fnOf x qual (ju st) (gu st) (ao st) .none kV doc pm an cdv ct/\K.lookup f=some ⟨oc,od,.func fd,osl⟩/\PySem.W.codeIn K cdv qual=true
 kp:PySem.W.keepIn K (.ref f)=true
section
variable {P:Program}{w:World}{K:PySem.W.Frag}{mg:Str->Option Value}{base:Heap}
def cH.binds {x qual:Str}{st:Stmt}{f:Addr}{fd:FuncData}{ps:List Str}(F:cH K x qual st f fd)
  (h:∀ (kV doc pm:Value)(an:Option Addr)(cdv ct:Value)(us:List Value),us.length=ps.length->bindArgs (PySem.W.fnOf x qual (ju st) (gu st) (ao st) .none kV doc pm an cdv ct) ⟨us,[]⟩=pure (ps.zip us)):Binds K fd ps []:=by
 obtain ⟨oc,od,kV,doc,pm,an,cdv,ct,osl,rfl,lk,hcd⟩:=F.ex;exact .all (h kV doc pm an cdv ct)
def K9 {x qual:Str}{st:Stmt}{f:Addr}{oc:Value}{od an:Option Addr}{osl:Array (Option Value)}{kV doc pm cdv ct:Value}(l:K.lookup f=some ⟨oc,od,.func (PySem.W.fnOf x qual (ju st) (gu st) (ao st) .none kV doc pm an cdv ct),osl⟩)
  (c:PySem.W.codeIn K cdv qual=true)(k:PySem.W.keepIn K (.ref f)=true):cH K x qual st f (PySem.W.fnOf x qual (ju st) (gu st) (ao st) .none kV doc pm an cdv ct):=⟨⟨oc,od,kV,doc,pm,an,cdv,ct,osl,rfl,l,c⟩,k⟩
end
section
variable {X:Cx}
def C0:cj X (.builtin "len") (fun xs H Q=>∃ a kvs,xs=[V.ref a]/\H a=some (.dK kvs)/\Q (.int kvs.length) H):=by
 intro pins s σ H xs us Q I r h;obtain ⟨a,kvs,rfl,ha,q⟩:=h;obtain ⟨u,rfl,ru⟩:=vals1 r;cases ru;exact L4 I (.inl ha) fun t s' I'=>⟨.int kvs.length,H,I',⟨t,rfl⟩,q⟩
end
def rW {A B:Prop}(h:B):if false=true then A else B:=by
 rw [if_neg ON];exact h
def rZ {A B:Prop}(h:A):if true=true then A else B:=by
 rw [if_pos rfl];exact h
def af (H H':Hp):Prop:=∀ b o,H b=some o->H' b=some o
def af.refl (H:Hp):af H H:=fun _ _ h=>h
def af.trans {H H1 H2:Hp}(a:af H H1)(b:af H1 H2):af H H2:=fun c o h=>b c o (a c o h)
def af.free {H H':Hp}(e:af H H'){l:Addr}(h:H' l=Option.none):H l=Option.none:=by
 cases q:H l with
 | none=>rfl
 | some o =>
  rw [e l o q] at h;cases h
section
variable {κ:Type} [DecidableEq κ]
end
def bM (cells:List (Str×Addr)):List (Str×NameKind)->List (Str×Addr)->List (Str×Addr)
 | [],acc=>acc
 | (n,k)::r,acc=>bM cells r (if (k == NameKind.free)=true then (n,(cells.lookup n).getD 0)::acc else acc)
theorem kJ {cells:List (Str×Addr)}{y:Str}{c:Addr}:∀ (names:List (Str×NameKind))(acc:List (Str×Addr)),(bM cells names acc).lookup y=some c ->
  ((y,NameKind.free)∈names/\(cells.lookup y).getD 0=c)\/acc.lookup y=some c
 | [],_,h=>.inr h
 | (n,k)::r,acc,h=>by
  rcases kJ r _ h with ⟨a,b⟩ | z
  ·exact .inl ⟨O6 _ a,b⟩
  ·clear h
   by_cases e:(k == NameKind.free)=true
   ·rw [if_pos e] at z;rw [List.lookup_cons] at z;cases q:(y == n) with
    | true =>
     rw [q] at z;have ek:k=NameKind.free:=by simpa using e
     have en:y=n:=by simpa using q
     subst ek en;exact .inl ⟨N9,Option.some.inj z⟩
    | false =>
     rw [q] at z;exact .inr z
   ·rw [if_neg e] at z;exact .inr z
theorem eN {cells:List (Str×Addr)}{y:Str}:∀ (names:List (Str×NameKind))(acc:List (Str×Addr)),((y,NameKind.free)∈names\/∃ c,acc.lookup y=some c)->∃ c,(bM cells names acc).lookup y=some c
 | [],_,h=>by
  rcases h with h | h
  ·cases h
  ·exact h
 | (n,k)::r,acc,h=>by
  refine eN r _ ?_;rcases h with h | ⟨c,h⟩
  ·rcases O9.mp h with e | h
   ·cases e;refine .inr ⟨(cells.lookup y).getD 0,?_⟩;rw [if_pos (by decide),List.lookup_cons,beq_self_eq_true]
   ·exact .inl h
  ·by_cases e:(k == NameKind.free)=true
   ·rw [if_pos e,List.lookup_cons];cases q:(y == n) with
    | true=>exact .inr ⟨_,rfl⟩
    | false=>exact .inr ⟨c,h⟩
   ·rw [if_neg e];exact .inr ⟨c,h⟩
def kq {scope:Scope}{env:Env}(h:∀ n,(n,NameKind.free)∈scope.names->∃ c,env.cells.lookup n=some c):closureFor scope env=pure (bM env.cells scope.names []):=by
 have key:∀ (names:List (Str×NameKind))(cs:List (Str×Addr)),(∀ n,(n,NameKind.free)∈names->∃ c,env.cells.lookup n=some c) ->
   (forIn names cs fun (x:Str×NameKind)(r:List (Str×Addr))=>(if (x.2 == NameKind.free)=true then (cellOf env x.1 >>= fun a=>pure (ForInStep.yield ((x.1,a)::r))) else pure (ForInStep.yield r):Sem _))=pure (bM env.cells names cs):=by
  intro names
  induction names with
  | nil=>intro cs _;rfl
  | cons p r ih =>
   intro cs hp;obtain ⟨n,k⟩:=p;rw [List.forIn_cons]
   by_cases e:(k == NameKind.free)=true
   ·have ek:k=NameKind.free:=by simpa using e
    obtain ⟨c,hc⟩:=hp n (by rw [ek];exact N9)
    rw [if_pos e];have e2:cellOf env n=pure c:=by unfold cellOf;rw [hc]
    show ((cellOf env n >>= fun a=>pure (ForInStep.yield ((n,a)::cs))) >>= _)=_
    rw [e2];show (forIn r ((n,c)::cs) _:Sem _)=_;rw [ih _ fun n' h'=>hp n' (O6 _ h')]
    show _=pure (bM env.cells r (if (k == NameKind.free)=true then (n,(env.cells.lookup n).getD 0)::cs else cs))
    rw [if_pos e,hc];rfl
   ·rw [if_neg e];show (forIn r cs _:Sem _)=_;rw [ih _ fun n' h'=>hp n' (O6 _ h')]
    show _=pure (bM env.cells r (if (k == NameKind.free)=true then (n,(env.cells.lookup n).getD 0)::cs else cs))
    rw [if_neg e]
 unfold closureFor;have e:=key scope.names [] h;show ((forIn scope.names [] fun (x:Str×NameKind)(r:List (Str×Addr))=>(if (x.2 == NameKind.free)=true then (cellOf env x.1 >>= fun a=>pure (ForInStep.yield ((x.1,a)::r))) else pure (ForInStep.yield r):Sem _)) >>= fun r=>pure r)=_
 rw [e];rfl
theorem cO {α:Type}{y:Str}{k:α}:∀ {l:List (Str×α)},l.lookup y=some k->(y,k)∈l
 | [],h=>by cases h
 | (n,j)::r,h=>by
  rw [List.lookup_cons] at h;cases q:(y == n) with
  | true =>
   rw [q] at h;have en:y=n:=by simpa using q
   cases h;rw [en];exact N9
  | false =>
   rw [q] at h;exact O6 _ (cO h)
theorem mG {env:Env}{x:Str}{k:NameKind}:∀ {names:List (Str×NameKind)},names.lookup x=some k ->
  (relabel { (default:Scope) with names:=names } env).names.lookup x=some k\/(k=.free/\(relabel { (default:Scope) with names:=names } env).names.lookup x=some .cell)
 | [],h=>by cases h
 | (n,j)::r,h=>by
  have ih:=@mG env x k r;rw [List.lookup_cons] at h;show List.lookup x ((if (j == NameKind.free && env.scope.kind == .function && env.kindOf n == some .cell)=true then (n,NameKind.cell) else (n,j))::_)=_\/(_/\List.lookup x ((if (j == NameKind.free && env.scope.kind == .function && env.kindOf n == some .cell)=true then (n,NameKind.cell) else (n,j))::_)=_)
  cases q:(x == n) with
  | true =>
   rw [q] at h;cases h
   by_cases e:(k == NameKind.free && env.scope.kind == .function && env.kindOf n == some .cell)=true
   ·rw [if_pos e,List.lookup_cons,q];refine .inr ⟨?_,rfl⟩;have z:=(OA _ _ ▸ (OA _ _ ▸ e).1:_/\_).1
    simpa using z
   ·rw [if_neg e,List.lookup_cons,q];exact .inl rfl
  | false =>
   rw [q] at h
   by_cases e:(j == NameKind.free && env.scope.kind == .function && env.kindOf n == some .cell)=true
   ·rw [if_pos e,List.lookup_cons,q];exact ih h
   ·rw [if_neg e,List.lookup_cons,q];exact ih h
theorem pX {env:Env}{x:Str}{k:NameKind}:∀ {names:List (Str×NameKind)},(relabel { (default:Scope) with names:=names } env).names.lookup x=some k->names.lookup x=some k\/(names.lookup x=some .free/\k=.cell)
 | [],h=>by cases h
 | (n,j)::r,h=>by
  have ih:=@pX env x k r;have h:List.lookup x ((if (j == NameKind.free && env.scope.kind == .function && env.kindOf n == some .cell)=true then (n,NameKind.cell) else (n,j))::(relabel { (default:Scope) with names:=r } env).names)=some k:=h
  rw [List.lookup_cons];cases q:(x == n) with
  | true =>
   by_cases e:(j == NameKind.free && env.scope.kind == .function && env.kindOf n == some .cell)=true
   ·rw [if_pos e,List.lookup_cons,q] at h;cases h;have z:=(OA _ _ ▸ (OA _ _ ▸ e).1:_/\_).1;exact .inr ⟨by simpa using z,rfl⟩
   ·rw [if_neg e,List.lookup_cons,q] at h;exact .inl h
  | false =>
   by_cases e:(j == NameKind.free && env.scope.kind == .function && env.kindOf n == some .cell)=true
   ·rw [if_pos e,List.lookup_cons,q] at h;exact ih h
   ·rw [if_neg e,List.lookup_cons,q] at h;exact ih h
def caps (ix:List Nat)(σ:St):St:=ix.map fun i=>(σ[i]?).join
def Cx.block (X:Cx)(scope:Scope)(C:Addr)(NB:List Str)(s2:Shared)(H2:Hp)(fp:List Addr):Cx :=
 { X with N:=NB,s₀:=s2,H₀:=H2,env:=compEnvC scope (bM X.env.cells scope.names []) C X.env,outer:=X.stack,ex:=fp,fn:=fun _=>false,pn:=[],xe:=fun _ _=>False }
def ng (X:Cx)(ifs:List Expr)(t:TT):Prop :=
 ∀ (pins:List (Addr×Obj))(s:Shared)(σ:St)(H:Hp)(Q:Bool->Hp->Prop),Inv X pins σ H s->t σ H Q ->
  wpAny (model X.prog X.w) X.A (forIn ifs true fun c r=>if r=true then do let ok <- isTrue c X.env (eval c X.env);pure (ForInStep.yield ok) else pure (ForInStep.yield r)) (TP X pins σ Q) X.xe s
def Nb:TT:=fun _ H Q=>Q true H
def HC {X:Cx}:ng X [] Nb:=fun _ _ _ H _ I h=>wpAny_tests_nil ⟨H,I,h⟩
def G6 {X:Cx}{c:Expr}{t:TT}(h:PT X c t):ng X [c] t:=fun pins s σ H Q I hw=>wpAny_tests_one (h pins s σ H Q I hw)
abbrev dO (its:List Value) (n:Nat):Obj:={ cls:=.type "list",data:=.seq its.toArray n }
section
variable {X:Cx}{scope:Scope}{x:Str}{NB:List Str}{ix:List Nat}{pins:List (Addr×Obj)}{σ:St}{H2:Hp}{s2:Shared}{fp:List Addr}
def vV (ix:List Nat)(σ:St):(caps ix σ).length=ix.length:=by unfold caps;rw [O7]
end
section
variable {X:Cx}{scope:Scope}{x:Str}{NB:List Str}{ix:List Nat}{pins:List (Addr×Obj)}{σ:St}{H2:Hp}{s2:Shared}{fp:List Addr}
def BS {C D:Addr}{H':Hp}{s4:Shared}{σB:St}{its:List Value}{n:Nat}{ys:List V}(I2:Inv X pins σ H2 s2)(f2:∀ b∈fp,dS X pins H2 b)(hD:s2.heap.objs.size<=D)
  (I4:Inv (X.block scope C NB s2 H2 fp) [(D,dO its n)] σB H' s4)(rv:Vals ys its)(hz:ys.length<=sizeLine):Inv X pins σ (upd H' D (.lst ys)) s4:=by
 have hp:=I4.pin (D,dO its n) (by show _∈[]++[(D,dO its n)];simp)
 have hfree:H' D=none:=hp.2.1;have m8:∀ b o,s2.heap.get? b=some o->b≠D:=fun b o e=>OD (OL (OB e) hD)
 have neT:∀ b o,H2 b=some o->b≠D:=fun b o e=>OD (OL (I2.hok.lt e) hD)
 have u:Un (frs X.stack) fp H2 H' s2.heap s4.heap:=I4.base;refine I2.AQ (ch:=fp) I4.os ⟨u.keep,u.slot,fun b o e n hx=>?_,u.there,fun b xs e=>?_,fun b o v e=>?_,fun b ps e=>?_⟩ (fun b o e=>?_) I4.bare fun b hb=>?_
 ·rw [ai (m8 b o e)];exact u.free b o e n hx
 ·rw [ai (neT b _ e)];exact u.tups b xs e
 ·rw [ai (neT b _ e)];exact u.jd b o v e
 ·rw [ai (neT b _ e)];exact u.jB b ps e
 ·by_cases hb:b=D
  ·subst hb;rw [aq] at e;cases e;exact ⟨hz,its,n,rv,hp.1⟩
  ·rw [ai hb] at e;have ne:∀ {c:Addr}{w:HO},H' c=some w->c≠D:=fun {c w} q z=>by rw [z,hfree] at q;cases q
   exact (I4.hok b o e).stay (fun _ _ _ q=>q) (fun c q=>by rw [ai (ne q)];exact q) fun c xs q=>by rw [ai (ne q)];exact q
 ·obtain ⟨_,g1,g2,g3,g4,g5⟩:=f2 b hb;exact ⟨g3,g1,g4,g5⟩
end
end L2
namespace L2
open PySem PySem.Spec PyProof.Rows PySem.W
def mS (a C:Addr)(dd:Option Addr):Heap->Prop:=fun h=>∃ (t0:Addr)(v1 v2 v3 v4 v5:Value)(sl:Array (Option Value)),h.get? a=some ⟨.ref C,dd,.fields #[.ref t0,v1,v2,v3,v4,v5],sl⟩
def Cn {P:Program}{w:World}{H:Hp}{h:Heap}{a C:Addr}{dd:Option Addr}(x:mS a C dd h):bf P w H h a (.ext (mS a C dd)):=by
 obtain ⟨t0,v1,v2,v3,v4,v5,sl,e⟩:=id x;exact ⟨x,⟨_,e⟩,fun h1 h2 ⟨t0,v1,v2,v3,v4,v5,sl,e⟩ k=>⟨t0,v1,v2,v3,v4,v5,sl,k _ e⟩⟩
def six (newId:String)(l:List (Option Value)):Bool:=l.length == 6 && (match (l[4]?:Option (Option Value)) with | some (some (Value.builtin n))=>n == newId | _=>false)
def yy (K:Frag)(C:Addr)(bmB:List Value):List Value->Bool
 | .ref C'::bm=>C' == C && tailIn K bmB bm
 | _=>false
def gU (K:Frag)(C:Addr)(bmB:List Value)(newId:String)(r:Option Value):Bool:=match K.lookup C with
 | some ob=>(match ob.cls with | .type t=>t == "type" | _=>false) && (match ob.data with
  | .cls cd=>(yy K C bmB cd.mro && six newId ob.slots.toList) && !cd.hasDel && (nsOkIn K cd.ns && nsIn K cd.ns "__init__" == some r)
  | _=>false)
 | none=>false
def Lm {newId:String}{l:List (Option Value)}(h:six newId l=true):∃ k0 k1 k2 k3 k5,l=[k0,k1,k2,k3,some (.builtin newId),k5]:=by
 unfold six at h;rw [OA] at h;obtain ⟨h1,h2⟩:=h;have h1:l.length=6:=eq_of_beq h1;rcases l with _ | ⟨k0,_ | ⟨k1,_ | ⟨k2,_ | ⟨k3,_ | ⟨k4,_ | ⟨k5,_ | ⟨k6,l⟩⟩⟩⟩⟩⟩⟩
 case cons.cons.cons.cons.cons.cons.nil =>
  cases k4 with
  | none=>cases h2
  | some v =>
   cases v with
   | builtin n=>exact ⟨k0,k1,k2,k3,k5,by rw [show n=newId from eq_of_beq h2]⟩
   | _=>cases h2
 case cons.cons.cons.cons.cons.cons.cons=>cases h1
 all_goals cases h1
def z8 {K:Frag}{C:Addr}{bmB l:List Value}(h:yy K C bmB l=true):∃ bm,l=.ref C::bm/\tailIn K bmB bm=true:=by
 cases l with
 | nil=>cases h
 | cons v bm =>
  cases v with
  | ref a =>
   have h:(a == C && tailIn K bmB bm)=true:=h;rw [OA] at h;exact ⟨bm,by rw [show a=C from eq_of_beq h.1],h.2⟩
  | _=>cases h
structure Ni (C:Addr)(bmB:List Value)(newId:String)(r:Option Value)(h:Heap):Prop where
 obj:∃ bm N nm q bs hdct sn sub ab col dd k0 k1 k2 k3 k5 mN,h.get? C=some (excClassObj nm q C N bs bm hdct sn sub ab col dd k0 k1 k2 k3 k5 newId)/\h.Ns N mN/\mN "__init__"=r/\OwnTail h bmB bm
def AD {K:Frag}{h:Heap}{N:Addr}{mg:Str->Option Value}{n:Str}{r:Option Value}(X:K.In h)(G:h.Ns N mg)(e:nsIn K N n=some r):mg n=r:=by
 obtain ⟨o,es,ep,ho,hd,_,hf⟩:=G;unfold nsIn at e;split at e
 ·rename_i c d es' n' sl q;have z:=X _ _ q;rw [ho] at z;cases z;cases hd;split at e
  ·rename_i en he;rw [<- hf];unfold nsFind findBy;rw [<- Array.find?_toList,he]
   first
    | (cases e;rfl)
    | (split at e <;> cases e <;> rfl)
  ·rename_i he;rw [<- hf];unfold nsFind findBy;rw [<- Array.find?_toList,he];split at e
   ·cases e
   ·cases e;rfl
 ·cases e
def Ig {K:Frag}{h:Heap}{C:Addr}{bmB:List Value}{newId:String}{r:Option Value}(X:K.In h)(q:gU K C bmB newId r=true):Ni C bmB newId r h:=by
 unfold gU at q;cases ho:K.lookup C with
 | none =>
  rw [ho] at q;cases q
 | some ob =>
  rw [ho] at q;obtain ⟨cls,dd,data,sl⟩:=ob;dsimp only at q;rw [OA] at q;obtain ⟨q0,q⟩:=q;have hc:cls=.type "type":=by
   cases cls with
   | type t=>exact congrArg Value.type (eq_of_beq q0)
   | _=>cases q0
  subst hc;cases data with
  | cls cd =>
   dsimp only at q;rw [OA,OA,OA,OA] at q;obtain ⟨⟨⟨q1,q2⟩,hdel⟩,hok,hni⟩:=q;obtain ⟨bm,hm,ht⟩:=z8 q1;obtain ⟨l⟩:=sl;obtain ⟨k0,k1,k2,k3,k5,hs⟩:=Lm q2;have hs:l=_:=hs;obtain ⟨nm,bs,mro,ns,qn,hd,sn,sub,ab,col,del⟩:=cd;dsimp only at hm hdel hok hni;have hdel:del=false:=by cases del <;> first | rfl | cases hdel
   have hni:=eq_of_beq hni;subst hm hdel hs;have G:h.Ns ns (h.nsMap ns):=.of_isNs (isNs_of_in X hok);exact ⟨bm,ns,nm,qn,bs,hd,sn,sub,ab,col,dd,k0,k1,k2,k3,k5,_,X _ _ ho,G,AD X G hni,tail_of_in X ht⟩
  | _=>cases q
def EU {P:Program}{w:World}{H:Hp}{h:Heap}{a:Addr}{o:HO}(x:bf P w H h a o):∃ ob,h.get? a=some ob:=by
 cases o with
 | lst xs=>obtain ⟨_,_,_,_,e⟩:=x;exact ⟨_,e⟩
 | tup xs=>obtain ⟨_,_,_,ob,e,_⟩:=x;exact ⟨_,e⟩
 | dK kvs=>obtain ⟨_,_,_,_,ob,_,_,e,_⟩:=x;exact ⟨_,e⟩
 | dT kvs=>obtain ⟨_,_,_,_,ob,_,_,e,_⟩:=x;exact ⟨_,e⟩
 | set S n=>obtain ⟨ob,_,_,_,e,_⟩:=x;exact ⟨_,e⟩
 | ins C dx fs=>obtain ⟨_,_,_,e,_⟩:=x;exact ⟨_,e⟩
 | own y=>exact x
 | xd fs=>obtain ⟨_,⟨od,_,_,e,_⟩,_⟩:=x;exact ⟨_,e⟩
 | oO lo hi=>obtain ⟨_,_,_,e⟩:=x;exact ⟨_,e⟩
 | bY ob u=>obtain ⟨e,_⟩:=x;exact ⟨_,e⟩
 | sY ps=>exact ⟨_,x⟩
 | met f y=>exact ⟨_,x⟩
 | ext φ=>obtain ⟨_,e,_⟩:=x;exact e
section
variable {X:Cx}{pins:List (Addr×Obj)}{σ:St}{H:Hp}{s:Shared}{h':Heap}
def Inv.jq (I:Inv X pins σ H s){a:Addr}(hn:s.heap.get? a=none):H a=none:=by
 cases z:H a with
 | none=>rfl
 | some o =>
  obtain ⟨ob,e⟩:=EU (I.hok a o z);rw [hn] at e;cases e
def Inv.Ay {a:Addr}{o:HO}{t':Nat}(I:Inv X pins σ H s)(k:∀ b u,s.heap.get? b=some u->h'.get? b=some u)(hn:s.heap.get? a=none)(new:bf X.prog X.w (upd H a o) h' a o) :
  Inv X pins σ (upd H a o) { s with heap:=h',toks:=t' }:=by
 have hf:=I.jq hn;have neA:∀ b u,s.heap.get? b=some u->b≠a:=fun b u e z=>by rw [z,hn] at e;cases e
 have neT:∀ b u,H b=some u->b≠a:=fun b u e z=>by rw [z,hf] at e;cases e
 refine I.un ⟨fun b u e _ _ _=>k b u e,fun b u e _ _ _=>⟨u.slots,k b u e⟩,fun b u e n _=>by rw [ai (neA b u e)];exact n,fun b u e _=>⟨u,k b u e⟩,fun b xs e=>by rw [ai (neT b _ e)];exact e,
  fun b u v e=>by rw [ai (neT b _ e)];exact e,fun b ps e=>⟨#[],by rw [ai (neT b _ e),e];simp⟩⟩ fun b u e=>?_
 by_cases hb:b=a
 ·subst hb;rw [aq] at e;cases e;exact new
 ·rw [ai hb] at e;exact (I.hok b u e).stay (fun c v _ q=>k c v q) (fun c q=>by rw [ai (neT c _ q)];exact q) fun c xs q=>by rw [ai (neT c _ q)];exact q
end
abbrev uz:List Value:=[.type "ValueError",.type "Exception",.type "BaseException",.type "object"]
section
variable {X:Cx}{x:Str}{p pos:Pos}{e:Expr}{es:List Expr}{t:TA}{C:Addr}
variable {CX:ki}{k:Nat}{f:Addr}{fd:FuncData}{ps:List Str}{sp:Sp}{E:XK}
end
end L2
namespace SM
open PySem PySem.SetTable
def run (M:Nat) (b:Nat):Nat->Nat×Nat
 | 0=>(b % M,b)
 | k + 1=>(((run M b k).1 * 5 + 1 + (run M b k).2 / 32) % M,(run M b k).2 / 32)
theorem pG (M b:Nat):∀ k,(run M b k).2=b / 32 ^ k
 | 0=>by simp [run]
 | k + 1=>by
  show (run M b k).2 / 32=_;rw [pG M b k,Nat.div_div_eq_div_mul,Nat.pow_succ]
def uS {M b:Nat}(hM:0 < M):∀ k,(run M b k).1 < M
 | 0=>Nat.mod_lt _ hM
 | k + 1=>Nat.mod_lt _ hM
def qQ (M i:Nat):Nat:=(i * 5 + 1) % M
def g8 (M:Nat):Nat->Nat->Nat
 | i,0=>i
 | i,r + 1=>qQ M (g8 M i r)
theorem oB (M i a:Nat):∀ b,g8 M i (a + b)=g8 M (g8 M i a) b
 | 0=>rfl
 | b + 1=>by
  show qQ M (g8 M i (a + b))=qQ M (g8 M (g8 M i a) b);rw [oB M i a b]
def ET (M:Nat):Nat->Nat->List Nat
 | _,0=>[]
 | i,r + 1=>i::ET M (qQ M i) r
theorem sW (M i:Nat):∀ r,g8 M (qQ M i) r=g8 M i (r + 1)
 | 0=>rfl
 | r + 1=>by
  show qQ M (g8 M (qQ M i) r)=qQ M (g8 M i (r + 1));rw [sW M i r]
theorem wJ (M:Nat):∀ (n i j:Nat),j∈ET M i n->∃ r,r < n/\g8 M i r=j
 | 0,_,_,h=>by cases h
 | n + 1,i,j,h=>by
  rcases O9.mp h with e | h
  ·exact ⟨0,Nat.zero_lt_succ _,e.symm⟩
  ·obtain ⟨r,hr,e⟩:=wJ M n _ j h;exact ⟨r + 1,Nat.succ_lt_succ hr,by rw [<- sW];exact e⟩
def full (M:Nat):Bool:=(List.range M).all (fun j=>(ET M 0 M).contains j) && decide (g8 M 0 M=0)
def Dp:full 8=true:=by decide +kernel
def Ih:full 32=true:=by decide +kernel
def ER:full 128=true:=by decide +kernel
def Fe:full 512=true:=by decide +kernel
def sG {M:Nat}(h:full M=true){j:Nat}(hj:j < M):∃ r,r < M/\g8 M 0 r=j:=by
 unfold full at h;rw [OA] at h;have z:=OC.mp h.1 j (List.mem_range.mpr hj);exact wJ M M 0 j (by simpa using z)
def vM {M:Nat}(h:full M=true){i j:Nat}(hi:i < M)(hj:j < M):∃ r,r < M/\g8 M i r=j:=by
 obtain ⟨a,ha,ea⟩:=sG h hi;obtain ⟨b,hb,eb⟩:=sG h hj;have back:g8 M 0 M=0:=by
  unfold full at h;rw [OA] at h;exact OS h.2
 by_cases q:a<=b
 ·refine ⟨b - a,by omega,?_⟩
  rw [<- ea,<- oB,show a + (b - a)=b by omega,eb]
 ·refine ⟨M - a + b,by omega,?_⟩
  rw [<- ea,<- oB,show a + (M - a + b)=M + b by omega,oB,back,eb]
theorem rM {M b k:Nat}(hb:b < 2 ^ 64)(hk:12<=k):∀ r,(run M b (k + r)).1=g8 M (run M b k).1 r
 | 0=>rfl
 | r + 1=>by
  show ((run M b (k + r)).1 * 5 + 1 + (run M b (k + r)).2 / 32) % M=qQ M (g8 M (run M b k).1 r);rw [rM hb hk r,pG];have e:b / 32 ^ (k + r) / 32=0:=by
   rw [Nat.div_div_eq_div_mul,<- Nat.pow_succ];refine Nat.div_eq_of_lt (OL hb ?_);have h1:(32:Nat) ^ 13<=32 ^ (k + r).succ:=Nat.pow_le_pow_right (by decide) (by omega)
   exact Nat.le_trans (by decide) h1
  rw [e,Nat.add_zero];rfl
def mV (m:Nat)(p:Probe):Probe :=
 if p.more > 0 then { p with j:=p.j + 1,more:=p.more - 1 } else
 { p with j:=(leap m p.i p.perturb).1,more:=runEnd m (leap m p.i p.perturb).1 - (leap m p.i p.perturb).1,i:=(leap m p.i p.perturb).1,perturb:=(leap m p.i p.perturb).2 }
def NR (m:Nat) (h:Int):Probe:={ j:=bits h % (m + 1),more:=runEnd m (bits h % (m + 1)) - bits h % (m + 1),i:=bits h % (m + 1),perturb:=bits h,dummy:=none }
def pr (m:Nat) (h:Int):Nat->Probe
 | 0=>NR m h
 | n + 1=>mV m (pr m h n)
def zb (h:Int):bits h < 2 ^ 64:=by
 unfold bits;have:=Int.emod_lt_of_pos h (show (0:Int) < 2 ^ 64 by decide)
 have h0:=Int.emod_nonneg h (show (2 ^ 64:Int)≠0 by decide)
 omega
theorem v8 (m:Nat) (h:Int):∀ n,(pr m h n).dummy=none
 | 0=>rfl
 | n + 1=>by
  show (mV m (pr m h n)).dummy=none;unfold mV;split <;> exact v8 m h n
def nY (m:Nat) (h:Int) (n k:Nat):Prop:=pr m h n={ j:=(run (m + 1) (bits h) k).1,more:=runEnd m (run (m + 1) (bits h) k).1 - (run (m + 1) (bits h) k).1,i:=(run (m + 1) (bits h) k).1,perturb:=(run (m + 1) (bits h) k).2,dummy:=none }
theorem rF {m:Nat}{h:Int}{n k:Nat}(a:nY m h n k):∀ r,r<=runEnd m (run (m + 1) (bits h) k).1 - (run (m + 1) (bits h) k).1 ->
  pr m h (n + r)={ j:=(run (m + 1) (bits h) k).1 + r,more:=runEnd m (run (m + 1) (bits h) k).1 - (run (m + 1) (bits h) k).1 - r,i:=(run (m + 1) (bits h) k).1,perturb:=(run (m + 1) (bits h) k).2,dummy:=none }
 | 0,_=>a
 | r + 1,hr=>by
  show mV m (pr m h (n + r))=_;rw [rF a r (by omega)]
  unfold mV;rw [if_pos (show runEnd m (run (m + 1) (bits h) k).1 - (run (m + 1) (bits h) k).1 - r > 0 by omega)]
  congr 1
def sQ (m i:Nat):runEnd m i - i<=9:=by
 unfold runEnd;split <;> omega
def EE {m:Nat}{h:Int}{n k:Nat}(a:nY m h n k):∃ n',n'<=n + 10/\nY m h n' (k + 1):=by
 have z:=rF a _ (O5 _);refine ⟨n + (runEnd m (run (m + 1) (bits h) k).1 - (run (m + 1) (bits h) k).1) + 1,by have:=sQ m (run (m + 1) (bits h) k).1;omega,?_⟩
 show mV m (pr m h (n + (runEnd m (run (m + 1) (bits h) k).1 - (run (m + 1) (bits h) k).1)))=_;rw [z];unfold mV;rw [if_neg (show ¬ (runEnd m (run (m + 1) (bits h) k).1 - (run (m + 1) (bits h) k).1 - (runEnd m (run (m + 1) (bits h) k).1 - (run (m + 1) (bits h) k).1) > 0) by omega)]
 rfl
theorem Df (m:Nat) (h:Int):∀ k,∃ n,n<=10 * k/\nY m h n k
 | 0=>⟨0,Nat.zero_le _,rfl⟩
 | k + 1=>by
  obtain ⟨n,hn,a⟩:=Df m h k;obtain ⟨n',hn',a'⟩:=EE a;exact ⟨n',by omega,a'⟩
def JN {m:Nat}(hf:full (m + 1)=true) (h:Int){j:Nat}(hj:j<=m):∃ n,n < 10 * turns m/\(pr m h n).j=j:=by
 obtain ⟨r,hr,e⟩:=vM hf (uS (b:=bits h) (Nat.zero_lt_succ m) 12) (Nat.lt_succ_of_le hj);obtain ⟨n,hn,a⟩:=Df m h (12 + r);refine ⟨n,?_,?_⟩
 ·unfold turns;omega
 ·rw [a];show (run (m + 1) (bits h) (12 + r)).1=j;rw [rM (zb h) (O5 _),e]
def i7 (xs:Array Nat):Prop:=∀ (i k x y:Nat),i < k->xs[i]?=some x->xs[k]?=some y->x < y
def i7.inj {xs:Array Nat}(h:i7 xs){i k x:Nat}(a:xs[i]?=some x)(b:xs[k]?=some x):i=k:=by
 rcases Nat.lt_trichotomy i k with z | z | z
 ·exact absurd (h i k x x z a b) (Nat.lt_irrefl _)
 ·exact z
 ·exact absurd (h k i x x z b a) (Nat.lt_irrefl _)
def m5 {α:Type}{xs:Array α}{i:Nat}{x:α}(h:xs[i]?=some x):i < xs.size:=(Array.getElem?_eq_some_iff.mp h).1
theorem pM {xs:Array Nat}(hr:i7 xs) (j:Nat):∀ (fuel lo hi:Nat),lo<=hi->hi<=xs.size->hi - lo<=fuel->(∀ i x,xs[i]?=some x->i < lo->x < j)->(∀ i x,xs[i]?=some x->hi<=i->j<=x) ->
  below.go xs j fuel lo hi<=xs.size/\∀ i x,xs[i]?=some x->(i < below.go xs j fuel lo hi↔x < j)
 | 0,lo,hi,h1,h2,h3,h4,h5=>by
  have e:lo=hi:=by omega
  subst e;unfold below.go;refine ⟨h2,fun i x hx=>⟨h4 i x hx,fun lt=>?_⟩⟩
  by_cases q:i < lo
  ·exact q
  ·exact absurd lt (Nat.not_lt.mpr (h5 i x hx (Nat.not_lt.mp q)))
 | fuel + 1,lo,hi,h1,h2,h3,h4,h5=>by
  unfold below.go
  by_cases q:lo < hi
  ·rw [if_pos q];have hm:(lo + hi) / 2 < xs.size:=by omega
   have gm:xs[(lo + hi) / 2]?=some xs[(lo + hi) / 2]:=Array.getElem?_eq_getElem hm;have gd:xs.getD ((lo + hi) / 2) j=xs[(lo + hi) / 2]:=by rw [Array.getD_eq_getD_getElem?,gm];rfl
   dsimp only;rw [gd]
   by_cases c:xs[(lo + hi) / 2] < j
   ·rw [if_pos c];refine pM hr j fuel _ hi (by omega) h2 (by omega) (fun i x hx hi'=>?_) h5
    by_cases e:i=(lo + hi) / 2
    ·subst e;rw [gm] at hx;cases hx;exact c
    ·exact Nat.lt_trans (hr i _ x _ (by omega) hx gm) c
   ·rw [if_neg c];refine pM hr j fuel lo _ (by omega) (by omega) (by omega) h4 fun i x hx hi'=>?_
    by_cases e:i=(lo + hi) / 2
    ·subst e;rw [gm] at hx;cases hx;exact Nat.not_lt.mp c
    ·exact Nat.le_trans (Nat.not_lt.mp c) (Nat.le_of_lt (hr _ i _ x (by omega) gm hx))
  ·rw [if_neg q];have e:lo=hi:=by omega
   subst e;refine ⟨h2,fun i x hx=>⟨h4 i x hx,fun lt=>?_⟩⟩
   by_cases q:i < lo
   ·exact q
   ·exact absurd lt (Nat.not_lt.mpr (h5 i x hx (Nat.not_lt.mp q)))
def lR {xs:Array Nat}(hr:i7 xs) (j:Nat):below xs j<=xs.size/\∀ i x,xs[i]?=some x->(i < below xs j↔x < j) :=
 pM hr j xs.size 0 xs.size (Nat.zero_le _) (O5 _) (by omega) (fun _ _ _ h=>absurd h (Nat.not_lt_zero _)) fun i x hx h=>absurd (m5 hx) (Nat.not_lt.mpr h)
def below_at {xs:Array Nat}(hr:i7 xs){i j:Nat}(h:xs[i]?=some j):below xs j=i:=by
 obtain ⟨h1,h2⟩:=lR hr j;have a:¬ i < below xs j:=fun q=>Nat.lt_irrefl _ ((h2 i j h).mp q)
 by_cases e:below xs j=i
 ·exact e
 ·have lt:below xs j < i:=by omega
  have hb:below xs j < xs.size:=Nat.lt_trans lt (m5 h);have gb:xs[below xs j]?=some xs[below xs j]:=Array.getElem?_eq_getElem hb;have:=hr _ _ _ _ lt gb h;exact absurd ((h2 _ _ gb).mpr this) (Nat.lt_irrefl _)
def tF {t:SetTable}(hr:i7 t.place){i j:Nat}(h:t.place[i]?=some j):t.slot j=.live i:=by
 unfold slot;dsimp only;rw [below_at hr h,h,if_pos (by simp)]
def zV {t:SetTable}(hr:i7 t.place)(hd:t.dummies=#[]){j:Nat}(h:∀ i:Nat,t.place[i]?≠some j):t.slot j=.empty:=by
 unfold slot;dsimp only;rw [if_neg (by simpa using h _)]
 have:has t.dummies j=false:=by
  unfold has;rw [hd];simp
 rw [this];rfl
def BB {xs:Array Nat}(hr:i7 xs){m:Nat}(hs:xs.size<=m):∃ j,j<=m/\∀ i:Nat,xs[i]?≠some j:=by
 refine Classical.byContradiction fun no=>?_
 have all:∀ j,j<=m->∃ i:Nat,xs[i]?=some j:=fun j hj=>Classical.byContradiction fun q=>no ⟨j,hj,fun i e=>q ⟨i,e⟩⟩
 have ge:∀ j,j<=m->∀ i:Nat,xs[i]?=some j->j<=i:=by
  intro j
  induction j with
  | zero=>intro _ i _;exact Nat.zero_le _
  | succ j ih =>
   intro hj i hi;obtain ⟨i0,h0⟩:=all j (by omega)
   have l0:=ih (by omega) i0 h0
   rcases Nat.lt_trichotomy i0 i with z | z | z
   ·omega
   ·subst z;rw [h0] at hi;have:=Option.some.inj hi;omega
   ·have:=hr i i0 _ _ z hi h0;omega
 obtain ⟨i,hi⟩:=all m (O5 _);have h1:=ge m (O5 _) i hi;have h2:=m5 hi;omega
def gn {α:Type}{xs:Array α}{p:Nat}(hp:p<=xs.size)(x:α) (i:Nat):(insertAt xs p x)[i]?=if i < p then xs[i]? else if i=p then some x else xs[i - 1]?:=by
 unfold insertAt;have s1:(xs.extract 0 p).size=p:=by rw [Array.size_extract];omega
 have s2:((xs.extract 0 p).push x).size=p + 1:=by rw [Array.size_push,s1]
 rw [Array.getElem?_append,s2]
 by_cases h1:i < p
 ·rw [if_pos (by omega),if_pos h1,Array.getElem?_push,s1,if_neg (by omega),Array.getElem?_extract,if_pos (by omega),Nat.zero_add]
 ·rw [if_neg h1]
  by_cases h2:i=p
  ·subst h2;rw [if_pos (by omega),if_pos rfl,Array.getElem?_push,s1,if_pos rfl]
  ·rw [if_neg (by omega),if_neg h2,Array.getElem?_extract]
   by_cases h3:i - (p + 1) < xs.size - p
   ·rw [if_pos (by omega),show p + (i - (p + 1))=i - 1 by omega]
   ·rw [if_neg (by omega)]
    exact (Array.getElem?_eq_none (by omega)).symm
def jZ {α:Type}{xs:Array α}{p:Nat}(hp:p<=xs.size)(x:α):(insertAt xs p x).size=xs.size + 1:=by
 unfold insertAt;rw [Array.size_append,Array.size_push,Array.size_extract,Array.size_extract];omega
abbrev Ent:=Int×Value
def In (t:SetTable) (j:Nat):Prop:=∃ i:Nat,t.place[i]?=some j
def Way (t:SetTable) (h:Int) (m:Nat):Prop:=∀ m',m' < m->In t (pr t.mask h m').j
structure TB (t:SetTable)(es:Array Ent):Prop where
 sz:t.place.size=es.size
 ri:i7 t.place
 le:∀ i j:Nat,t.place[i]?=some j->j<=t.mask
 du:t.dummies=#[]
 fu:full (t.mask + 1)=true
 od:t.mask % 2=1
 nf:t.place.size<=t.mask
 rc:∀ (i j:Nat)(e:Ent),t.place[i]?=some j->es[i]?=some e->∃ m,m < 10 * turns t.mask/\(pr t.mask e.1 m).j=j/\Way t e.1 m
section
variable {t:SetTable}{es:Array Ent}
theorem TB.fits (T:TB t es):t.fits es.size=true:=by
 unfold SetTable.fits fill;rw [T.sz,T.du];have:=T.nf;rw [T.sz] at this
 simpa using this
def TB.Kf (T:TB t es):t.gaveWay=false:=by
 unfold SetTable.gaveWay;rw [T.od];rfl
def TB.first (T:TB t es) (h:Int):∃ N,N < 10 * turns t.mask/\¬ In t (pr t.mask h N).j/\Way t h N:=by
 obtain ⟨j,hj,hn⟩:=BB T.ri T.nf;obtain ⟨n,hlt,e⟩:=JN T.fu h hj;have key:∀ n,¬ In t (pr t.mask h n).j->∃ N,N<=n/\¬ In t (pr t.mask h N).j/\Way t h N:=by
  intro n
  induction n using Nat.strongRecOn with
  | ind n ih =>
   intro hq
   by_cases w:Way t h n
   ·exact ⟨n,O5 _,hq,w⟩
   ·obtain ⟨m',q⟩:=Classical.not_forall.mp w;obtain ⟨lt,q⟩:=Classical.not_imp.mp q;obtain ⟨N,a,b,c⟩:=ih m' lt q;exact ⟨N,by omega,b,c⟩
 obtain ⟨N,a,b,c⟩:=key n (by rw [e];rintro ⟨i,hi⟩;exact hn i hi)
 exact ⟨N,by omega,b,c⟩
theorem zu (hr:i7 t.place)(hd:t.dummies=#[]){hashAt:Nat->Int}{h:Int}{N:Nat}(hN:¬ In t (pr t.mask h N).j)(hw:Way t h N):∀ (fuel n:Nat),n<=N->N - n < fuel ->
  (probe.go t hashAt h fuel (pr t.mask h n)=some (.empty (pr t.mask h N).j none)/\∀ m i:Nat,n<=m->m < N->t.place[i]?=some (pr t.mask h m).j->hashAt i≠h) \/
  (∃ m i:Nat,n<=m/\m < N/\t.place[i]?=some (pr t.mask h m).j/\hashAt i=h/\probe.go t hashAt h fuel (pr t.mask h n)=some (.candidate (pr t.mask h m).j i (pr t.mask h (m + 1)))/\∀ m' i':Nat,n<=m'->m' < m->t.place[i']?=some (pr t.mask h m').j->hashAt i'≠h)
 | 0,n,h1,h2=>absurd h2 (Nat.not_lt_zero _)
 | fuel + 1,n,h1,h2=>by
  unfold probe.go
  by_cases e:n=N
  ·subst e;rw [zV hr hd (fun i q=>hN ⟨i,q⟩)]
   refine .inl ⟨?_,fun m i a b=>by omega⟩
   show some (Met.empty (pr t.mask h n).j (pr t.mask h n).dummy)=_;rw [v8]
  ·obtain ⟨i,hi⟩:=hw n (by omega)
   rw [tF hr hi];dsimp only
   by_cases q:hashAt i=h
   ·rw [if_pos (by rw [q];exact beq_self_eq_true h)]
    exact .inr ⟨n,i,O5 _,by omega,hi,q,rfl,fun m' i' a b=>by omega⟩
   ·rw [if_neg (by simpa using q)]
    show (probe.go t hashAt h fuel (pr t.mask h (n + 1))=_/\_)\/_;have other:∀ i':Nat,t.place[i']?=some (pr t.mask h n).j->hashAt i'≠h:=fun i' hi'=>by
     rw [hr.inj hi' hi];exact q
    rcases zu hr hd (hashAt:=hashAt) hN hw fuel (n + 1) (by omega) (by omega) with ⟨a,b⟩ | ⟨m,i',c1,c2,c3,c4,c5,c6⟩
    ·refine .inl ⟨a,fun m i' u v x=>?_⟩
     by_cases z:m=n
     ·subst z;exact other i' x
     ·exact b m i' (by omega) v x
    ·refine .inr ⟨m,i',by omega,c2,c3,c4,c5,fun m' i'' u v x=>?_⟩
     by_cases z:m'=n
     ·subst z;exact other i'' x
     ·exact c6 m' i'' (by omega) v x
def DV {xs:Array Nat}(hr:i7 xs) (j:Nat):below xs j<=xs.size:=(lR hr j).1
theorem TB.put (T:TB t es){e:Ent}{N:Nat}(hl:N < 10 * turns t.mask)(hN:¬ In t (pr t.mask e.1 N).j)(hw:Way t e.1 N)(room:es.size + 1<=t.mask)(hjm:(pr t.mask e.1 N).j<=t.mask) :
  TB (t.put (pr t.mask e.1 N).j).1 (insertAt es (t.put (pr t.mask e.1 N).j).2 e):=by
 obtain ⟨hb,hs⟩:=lR T.ri (pr t.mask e.1 N).j;have hb2:below t.place (pr t.mask e.1 N).j<=es.size:=by rw [<- T.sz];exact hb
 have nd:has t.dummies (pr t.mask e.1 N).j=false:=by
  unfold has;rw [T.du];simp
 have ep:(t.put (pr t.mask e.1 N).j).1={ t with place:=insertAt t.place (below t.place (pr t.mask e.1 N).j) (pr t.mask e.1 N).j }:=by
  unfold SetTable.put;dsimp only;rw [nd];rfl
 have ep2:(t.put (pr t.mask e.1 N).j).2=below t.place (pr t.mask e.1 N).j:=rfl;rw [ep,ep2];generalize hp:below t.place (pr t.mask e.1 N).j=p at *;generalize hj:(pr t.mask e.1 N).j=j at *;have g:=gn hb j
 -- what was there is there
 have up:∀ (i x:Nat),t.place[i]?=some x->∃ i':Nat,(insertAt t.place p j)[i']?=some x:=fun i x hx=>by
  by_cases q:i < p
  ·exact ⟨i,by rw [g,if_pos q];exact hx⟩
  ·exact ⟨i + 1,by rw [g,if_neg (by omega),if_neg (by omega)];exact hx⟩
 have mine:(insertAt t.place p j)[p]?=some j:=by rw [g,if_neg (Nat.lt_irrefl _),if_pos rfl]
 have down:∀ (i x:Nat),(insertAt t.place p j)[i]?=some x->(i < p/\t.place[i]?=some x)\/(i=p/\x=j)\/(p < i/\t.place[i - 1]?=some x):=fun i x hx=>by
  rw [g] at hx
  by_cases q:i < p
  ·rw [if_pos q] at hx;exact .inl ⟨q,hx⟩
  ·rw [if_neg q] at hx
   by_cases q2:i=p
   ·rw [if_pos q2] at hx;exact .inr (.inl ⟨q2,(Option.some.inj hx).symm⟩)
   ·rw [if_neg q2] at hx;exact .inr (.inr ⟨by omega,hx⟩)
 have inUp:∀ x,In t x->In { t with place:=insertAt t.place p j } x:=fun x ⟨i,hi⟩=>up i x hi
 have noJ:∀ (i:Nat),t.place[i]?≠some j:=fun i q=>hN ⟨i,q⟩
 constructor
 ·show (insertAt t.place p j).size=_;rw [jZ hb,jZ hb2,T.sz]
 ·intro i k x y hik hx hy;rcases down i x hx with ⟨a1,a2⟩ | ⟨a1,a2⟩ | ⟨a1,a2⟩ <;> rcases down k y hy with ⟨b1,b2⟩ | ⟨b1,b2⟩ | ⟨b1,b2⟩
  ·exact T.ri i k x y hik a2 b2
  ·rw [b2];exact (hs i x a2).mp a1
  ·exact T.ri i (k - 1) x y (by omega) a2 b2
  ·omega
  ·omega
  ·rw [a2];have c:¬ y < j:=fun z=>by
    have:=(hs (k - 1) y b2).mpr z;omega
   have d:y≠j:=fun z=>noJ _ (z ▸ b2)
   omega
  ·omega
  ·omega
  ·exact T.ri (i - 1) (k - 1) x y (by omega) a2 b2
 ·intro i x hx;rcases down i x hx with ⟨_,a2⟩ | ⟨_,a2⟩ | ⟨_,a2⟩
  ·exact T.le _ _ a2
  ·rw [a2];exact hjm
  ·exact T.le _ _ a2
 ·exact T.du
 ·exact T.fu
 ·exact T.od
 ·show (insertAt t.place p j).size<=t.mask;rw [jZ hb,T.sz];exact room
 ·intro i x f hx hf;have gf:=gn hb2 e i;rw [gf] at hf;have old:∀ i0:Nat,t.place[i0]?=some x->es[i0]?=some f->∃ m,m < 10 * turns t.mask/\(pr t.mask f.1 m).j=x/\Way { t with place:=insertAt t.place p j } f.1 m:=fun i0 u v=>by
   obtain ⟨m,c1,c2,c3⟩:=T.rc i0 x f u v;exact ⟨m,c1,c2,fun m' l=>inUp _ (c3 m' l)⟩
  rcases down i x hx with ⟨a1,a2⟩ | ⟨a1,a2⟩ | ⟨a1,a2⟩
  ·rw [if_pos a1] at hf;exact old i a2 hf
  ·rw [if_neg (by omega),if_pos a1] at hf
   cases hf;exact ⟨N,hl,by rw [a2];exact hj,fun m' l=>inUp _ (hw m' l)⟩
  ·rw [if_neg (by omega),if_neg (by omega)] at hf
   exact old (i - 1) a2 hf
end
def mq {m i:Nat}(hi:i<=m):i + (runEnd m i - i)<=m:=by
 unfold runEnd;split <;> omega
theorem GK (m:Nat) (h:Int):∀ n,(pr m h n).j + (pr m h n).more<=m
 | 0=>by
  have z:bits h % (m + 1) < m + 1:=Nat.mod_lt (bits h) (Nat.zero_lt_succ m);show bits h % (m + 1) + (runEnd m (bits h % (m + 1)) - bits h % (m + 1))<=m;exact mq (by omega)
 | n + 1=>by
  have ih:=GK m h n;show (mV m (pr m h n)).j + (mV m (pr m h n)).more<=m;unfold mV;split
  ·dsimp only;omega
  ·dsimp only;have:(leap m (pr m h n).i (pr m h n).perturb).1 < m + 1:=Nat.mod_lt _ (Nat.zero_lt_succ m);exact mq (by omega)
def Ao (m:Nat) (h:Int) (n:Nat):(pr m h n).j<=m:=by
 have:=GK m h n;omega
def heads {m:Nat}(hf:full (m + 1)=true) (h:Int){j:Nat}(hj:j<=m):∃ k,k < turns m/\(run (m + 1) (bits h) k).1=j:=by
 obtain ⟨r,hr,e⟩:=vM hf (uS (b:=bits h) (Nat.zero_lt_succ m) 12) (Nat.lt_succ_of_le hj);refine ⟨12 + r,?_,?_⟩
 ·unfold turns;omega
 ·rw [rM (zb h) (O5 _),e]
abbrev Own:=Array (Option Nat)
def Tk (o:Own) (j:Nat):Prop:=∃ k,o[j]?=some (some k)
def xG (m:Nat)(o:Own) (h:Int) (n:Nat):Prop:=∀ n',n' < n->Tk o (pr m h n').j
def getD_none {m:Nat}{o:Own}(hs:o.size=m + 1){j:Nat}(hj:j<=m):(o.getD j (some 0)).isNone=true↔¬ Tk o j:=by
 have g:o[j]?=some o[j]:=Array.getElem?_eq_getElem (by omega)
 rw [Array.getD_eq_getD_getElem?,g];show (o[j]).isNone=true↔_;constructor
 ·rintro q ⟨k,e⟩;rw [g] at e;rw [Option.some.inj e] at q;cases q
 ·intro q;cases z:o[j] with
  | none=>rfl
  | some k=>exact absurd ⟨k,by rw [g,z]⟩ q
theorem sL {m:Nat}{o:Own}{h:Int}(hs:o.size=m + 1):∀ (fuel k n:Nat),nY m h n k->n<=10 * k->xG m o h n->(∃ k',k<=k'/\k' < k + fuel/\¬ Tk o (run (m + 1) (bits h) k').1) ->
  ∃ N,N < 10 * (k + fuel)/\layClean.free m o fuel (run (m + 1) (bits h) k).1 (run (m + 1) (bits h) k).2=some (pr m h N).j/\¬ Tk o (pr m h N).j/\xG m o h N
 | 0,k,n,_,_,_,⟨k',a,b,_⟩=>by omega
 | fuel + 1,k,n,a,hn,hw,⟨k',q1,q2,q3⟩=>by
  have hi:(run (m + 1) (bits h) k).1<=m:=by have:=uS (M:=m + 1) (b:=bits h) (Nat.zero_lt_succ m) k;omega
  have hre:=mq hi;have hle9:=sQ m (run (m + 1) (bits h) k).1;have hge:(run (m + 1) (bits h) k).1<=runEnd m (run (m + 1) (bits h) k).1:=by unfold runEnd;split <;> omega
  have pos:∀ r,r<=runEnd m (run (m + 1) (bits h) k).1 - (run (m + 1) (bits h) k).1->(pr m h (n + r)).j=(run (m + 1) (bits h) k).1 + r:=fun r hr=>by rw [rF a r hr]
  unfold layClean.free;cases f:(List.range (runEnd m (run (m + 1) (bits h) k).1 + 1 - (run (m + 1) (bits h) k).1)).find? (fun k_1=>(o.getD ((run (m + 1) (bits h) k).1 + k_1) (some 0)).isNone) with
  | some r =>
   obtain ⟨p1,i,hi',e1,e2⟩:=List.find?_eq_some_iff_getElem.mp f;rw [List.getElem_range] at e1;subst e1;have hlen:i < runEnd m (run (m + 1) (bits h) k).1 + 1 - (run (m + 1) (bits h) k).1:=by simpa using hi'
   refine ⟨n + i,by omega,?_,?_,fun n' l=>?_⟩
   ·rw [pos i (by omega)]
   ·rw [pos i (by omega)]
    exact (getD_none hs (by omega)).mp p1
   ·by_cases c:n' < n
    ·exact hw n' c
    ·have e3:=e2 (n' - n) (by omega)
     rw [List.getElem_range] at e3;have e4:(!(o.getD ((run (m + 1) (bits h) k).1 + (n' - n)) (some 0)).isNone)=true:=e3;have z:¬ (o.getD ((run (m + 1) (bits h) k).1 + (n' - n)) (some 0)).isNone=true:=fun q=>by
      rw [q] at e4;cases e4
     have z2:=fun q=>z ((getD_none hs (by omega)).mpr q)
     have z3:=Classical.not_not.mp z2;rw [show n'=n + (n' - n) by omega,pos (n' - n) (by omega)]
     exact z3
  | none =>
   have no:∀ r,r<=runEnd m (run (m + 1) (bits h) k).1 - (run (m + 1) (bits h) k).1->Tk o ((run (m + 1) (bits h) k).1 + r):=fun r hr=>by
    have z:=List.find?_eq_none.mp f r (List.mem_range.mpr (by omega))
    exact Classical.not_not.mp fun q=>z ((getD_none hs (by omega)).mpr q)
   have z:=rF a _ (O5 _);have a':nY m h (n + (runEnd m (run (m + 1) (bits h) k).1 - (run (m + 1) (bits h) k).1) + 1) (k + 1):=by
    show mV m (pr m h (n + (runEnd m (run (m + 1) (bits h) k).1 - (run (m + 1) (bits h) k).1)))=_;rw [z];unfold mV;rw [if_neg (show ¬ (runEnd m (run (m + 1) (bits h) k).1 - (run (m + 1) (bits h) k).1 - (runEnd m (run (m + 1) (bits h) k).1 - (run (m + 1) (bits h) k).1) > 0) by omega)]
    rfl
   have w':xG m o h (n + (runEnd m (run (m + 1) (bits h) k).1 - (run (m + 1) (bits h) k).1) + 1):=fun n' l=>by
    by_cases c:n' < n
    ·exact hw n' c
    ·rw [show n'=n + (n' - n) by omega,pos (n' - n) (by omega)]
     exact no _ (by omega)
   have later:k + 1<=k':=by
    rcases Nat.lt_or_ge k k' with c | c
    ·exact c
    ·have e:k'=k:=by omega
     subst e;exact absurd (by simpa using no 0 (Nat.zero_le _)) q3
   obtain ⟨N,c1,c2,c3,c4⟩:=sL hs fuel (k + 1) _ a' (by omega) w' ⟨k',later,by omega,q3⟩
   exact ⟨N,by omega,c2,c3,c4⟩
def bD (o:Own) (M:Nat):List (Nat×Nat):=(List.range M).filterMap fun j=>(o.getD j none).map (j,·)
structure jo (m:Nat)(hs:List Int)(o:Own):Prop where
 sz:o.size=m + 1
 pm:((bD o (m + 1)).map (·.2)).Perm (List.range hs.length)
 rc:∀ (j k:Nat) (h:Int),o[j]?=some (some k)->hs[k]?=some h->∃ n,n < 10 * turns m/\(pr m h n).j=j/\xG m o h n
 kl:∀ j k:Nat,o[j]?=some (some k)->k < hs.length
def oS {M j:Nat}(hj:j < M):List.range M=List.range j++j::List.range' (j + 1) (M - j - 1):=by
 rw [List.range_eq_range',List.range_eq_range',show (j::List.range' (j + 1) (M - j - 1))=List.range' j (M - j - 1 + 1) from rfl]
 have e:=List.range'_append (s:=0) (m:=j) (n:=M - j - 1 + 1) (step:=1);rw [Nat.one_mul,Nat.zero_add] at e;rw [e,show j + (M - j - 1 + 1)=M by omega]
def qj {o:Own}{j x:Nat}{v:Option Nat}(hj:j < o.size):(o.setIfInBounds j v).getD x none=if x=j then v else o.getD x none:=by
 rw [Array.getD_eq_getD_getElem?,Array.getD_eq_getD_getElem?,Array.getElem?_setIfInBounds]
 by_cases e:j=x
 ·subst e;rw [if_pos rfl,if_pos hj,if_pos rfl];rfl
 ·rw [if_neg e,if_neg (fun z=>e z.symm)]
theorem pV {f g:Nat->Option (Nat×Nat)}:∀ {l:List Nat},(∀ x∈l,f x=g x)->l.filterMap f=l.filterMap g
 | [],_=>rfl
 | a::r,h=>by
  rw [List.filterMap_cons,List.filterMap_cons,h a N9,pV fun x hx=>h x (O6 _ hx)]
def EN {o:Own}{m j k:Nat}(hs:o.size=m + 1)(hj:j<=m)(hn:¬ Tk o j):∃ A B,bD o (m + 1)=A++B/\bD (o.setIfInBounds j (some k)) (m + 1)=A++(j,k)::B:=by
 have hnone:o.getD j none=none:=by
  have g:o[j]?=some o[j]:=Array.getElem?_eq_getElem (by omega)
  rw [Array.getD_eq_getD_getElem?,g];show o[j]=none;cases z:o[j] with
  | none=>rfl
  | some k=>exact absurd ⟨k,by rw [g,z]⟩ hn
 refine ⟨(List.range j).filterMap fun x=>(o.getD x none).map (x,·),(List.range' (j + 1) (m + 1 - j - 1)).filterMap fun x=>(o.getD x none).map (x,·),?_,?_⟩
 ·unfold bD;rw [oS (M:=m + 1) (j:=j) (by omega),List.filterMap_append,List.filterMap_cons,hnone]
  rfl
 ·unfold bD;rw [oS (M:=m + 1) (j:=j) (by omega),List.filterMap_append,List.filterMap_cons,qj (by omega),if_pos rfl]
  show _++(j,k)::_=_;congr 1
  ·refine pV fun x hx=>?_
   have:=List.mem_range.mp hx;rw [qj (by omega),if_neg (by omega)]
  ·congr 1;refine pV fun x hx=>?_
   have:=(List.mem_range'_1.mp hx).1;rw [qj (by omega),if_neg (by omega)]
def Bc {o:Own}{j k x:Nat}(h:Tk o x)(hn:¬ Tk o j):Tk (o.setIfInBounds j (some k)) x:=by
 obtain ⟨k',e⟩:=h;refine ⟨k',?_⟩;have ne:j≠x:=fun z=>hn ⟨k',by rw [z];exact e⟩
 rw [Array.getElem?_setIfInBounds,if_neg ne];exact e
def jo.more {m:Nat}{hs:List Int}{o:Own}{h:Int}{N:Nat}(O:jo m hs o)(hl:N < 10 * turns m)(hn:¬ Tk o (pr m h N).j)(hw:xG m o h N):jo m (hs++[h]) (o.setIfInBounds (pr m h N).j (some hs.length)):=by
 have hj:=Ao m h N;have hjs:(pr m h N).j < o.size:=by rw [O.sz];omega
 have set:∀ x,(o.setIfInBounds (pr m h N).j (some hs.length))[x]?=if (pr m h N).j=x then some (some hs.length) else o[x]?:=fun x=>by
  rw [Array.getElem?_setIfInBounds]
  by_cases e:(pr m h N).j=x
  ·rw [if_pos e,if_pos hjs,if_pos e]
  ·rw [if_neg e,if_neg e]
 refine ⟨by rw [Array.size_setIfInBounds,O.sz],?_,fun j k g hk hg=>?_,fun j k hk=>?_⟩
 ·obtain ⟨A,B,e1,e2⟩:=EN (k:=hs.length) O.sz hj hn;have p:=O.pm;rw [e1,List.map_append] at p;rw [e2,List.map_append,OM,OR,List.length_singleton,List.range_succ];exact (List.perm_middle.trans (List.Perm.cons _ p)).trans (List.perm_append_singleton _ _).symm
 ·rw [set] at hk
  by_cases e:(pr m h N).j=j
  ·rw [if_pos e] at hk;cases hk;rw [List.getElem?_append_right (O5 _),Nat.sub_self] at hg;cases hg;exact ⟨N,hl,e,fun n' l=>Bc (hw n' l) hn⟩
  ·rw [if_neg e] at hk;have kl:=O.kl j k hk;rw [List.getElem?_append_left kl] at hg;obtain ⟨n,c1,c2,c3⟩:=O.rc j k g hk hg;exact ⟨n,c1,c2,fun n' l=>Bc (c3 n' l) hn⟩
 ·rw [OR,List.length_singleton];rw [set] at hk
  by_cases e:(pr m h N).j=j
  ·rw [if_pos e] at hk;cases hk;omega
  ·rw [if_neg e] at hk;have:=O.kl j k hk;omega
theorem Cz {f:Nat->Option (Nat×Nat)}:∀ {l:List Nat},(∀ x∈l,∃ y,f x=some y)->(l.filterMap f).length=l.length
 | [],_=>rfl
 | a::r,h=>by
  obtain ⟨y,e⟩:=h a N9;rw [List.filterMap_cons,e];show ((r.filterMap f).length + 1)=r.length + 1;rw [Cz fun x hx=>h x (O6 _ hx)]
def lN {o:Own}{j k:Nat}:o.getD j none=some k↔o[j]?=some (some k):=by
 rw [Array.getD_eq_getD_getElem?];cases z:o[j]? with
 | none=>exact ⟨fun q=>(nomatch q),fun q=>(nomatch q)⟩
 | some v=>exact ⟨fun q=>congrArg some q,fun q=>Option.some.inj q⟩
def jo.room {m:Nat}{hs:List Int}{o:Own}(O:jo m hs o)(hl:hs.length<=m):∃ j,j<=m/\¬ Tk o j:=by
 refine Classical.byContradiction fun no=>?_
 have all:∀ j,j<=m->Tk o j:=fun j hj=>Classical.byContradiction fun q=>no ⟨j,hj,q⟩
 have e:=O.pm.length_eq;rw [O7,OP] at e;unfold bD at e;rw [Cz (fun x hx=>by
  obtain ⟨k,hk⟩:=all x (by have:=List.mem_range.mp hx;omega)
  exact ⟨(x,k),by rw [lN.mpr hk];rfl⟩),OP] at e
 omega
def ou (m:Nat)(acc:Option (Own×Nat)) (h:Int):Option (Own×Nat):=do
 let (owner,k) <- acc
 let j <- layClean.free m owner (turns m) (bits h % (m + 1)) (bits h)
 pure (owner.setIfInBounds j (some k),k + 1)
theorem wC {m:Nat}(hf:full (m + 1)=true):∀ (hs2 hs1:List Int)(o:Own),jo m hs1 o->hs1.length + hs2.length<=m->∃ o',hs2.foldl (ou m) (some (o,hs1.length))=some (o',(hs1++hs2).length)/\jo m (hs1++hs2) o'
 | [],hs1,o,O,_=>⟨o,by rw [List.append_nil];rfl,by rw [List.append_nil];exact O⟩
 | h::r,hs1,o,O,hl=>by
  rw [List.length_cons] at hl;obtain ⟨j0,hj0,n0⟩:=O.room (by omega)
  obtain ⟨k',hk',e'⟩:=heads hf h hj0;obtain ⟨N,c1,c2,c3,c4⟩:=sL (h:=h) O.sz (turns m) 0 0 rfl (O5 _) (fun _ l=>absurd l (Nat.not_lt_zero _)) ⟨k',Nat.zero_le _,by omega,by rw [e'];exact n0⟩
  have O2:=O.more (by omega) c3 c4
  obtain ⟨o',e1,O3⟩:=wC hf r (hs1++[h]) _ O2 (by rw [OR,List.length_singleton];omega)
  have st:ou m (some (o,hs1.length)) h=some (o.setIfInBounds (pr m h N).j (some hs1.length),hs1.length + 1):=by
   show (layClean.free m o (turns m) (bits h % (m + 1)) (bits h)).bind _=_;have c2:layClean.free m o (turns m) (bits h % (m + 1)) (bits h)=some (pr m h N).j:=c2;rw [c2];rfl
  rw [List.append_assoc] at e1 O3;refine ⟨o',?_,O3⟩;rw [List.foldl_cons,st];rw [OR,List.length_singleton] at e1;exact e1
def pQ {n j:Nat}:(Array.replicate n (none:Option Nat)).getD j none=none:=by
 rw [Array.getD_eq_getD_getElem?,Array.getElem?_replicate];split <;> rfl
def CI (m:Nat):jo m [] (Array.replicate (m + 1) none):=by
 refine ⟨by rw [Array.size_replicate],?_,fun j k h hk=>?_,fun j k hk=>?_⟩
 ·have e:bD (Array.replicate (m + 1) none) (m + 1)=[]:=by
   unfold bD;rw [List.filterMap_eq_nil_iff];intro x _;rw [pQ];rfl
  rw [e];exact List.Perm.refl _
 ·have:=lN.mpr hk;rw [pQ] at this;cases this
 ·have:=lN.mpr hk;rw [pQ] at this;cases this
def ya {m:Nat}(hf:full (m + 1)=true){hs:Array Int}(hl:hs.size<=m):∃ o,layClean m hs=some o/\jo m hs.toList o:=by
 obtain ⟨o,e,O⟩:=wC hf hs.toList [] _ (CI m) (by simpa using hl)
 refine ⟨o,?_,O⟩;have e2:layClean m hs=(hs.foldl (ou m) (some (Array.replicate (m + 1) none,0))).map (·.1):=rfl;have e:hs.toList.foldl (ou m) (some (Array.replicate (m + 1) none,0))=some (o,([]++hs.toList).length):=e;rw [e2,<- Array.foldl_toList,e];rfl
def qc {o:Own}{M j k:Nat}:(j,k)∈bD o M↔j < M/\o[j]?=some (some k):=by
 unfold bD;rw [List.mem_filterMap];constructor
 ·rintro ⟨x,hx,e⟩;cases z:o.getD x none with
  | none=>rw [z] at e;cases e
  | some k' =>
   rw [z] at e;cases e;exact ⟨List.mem_range.mp hx,lN.mp z⟩
 ·rintro ⟨h1,h2⟩;exact ⟨j,List.mem_range.mpr h1,by rw [lN.mpr h2];rfl⟩
theorem pW {o:Own}:∀ (l:List Nat),((l.filterMap fun j=>(o.getD j none).map (j,·)).map (·.1))=l.filter fun j=>(o.getD j none).isSome
 | []=>rfl
 | a::r=>by
  rw [List.filterMap_cons,List.filter_cons];cases z:o.getD a none with
  | none=>exact pW r
  | some k =>
   show a::_=a::_;rw [<- pW r]
def Ce (o:Own) (M:Nat):i7 ((bD o M).map (·.1)).toArray:=by
 intro i k x y hik hx hy;have p:((bD o M).map (·.1)).Pairwise (· < ·):=by
  unfold bD;rw [pW];exact (List.pairwise_lt_range).filter _
 rw [List.getElem?_toArray] at hx hy;obtain ⟨h1,e1⟩:=List.getElem?_eq_some_iff.mp hx;obtain ⟨h2,e2⟩:=List.getElem?_eq_some_iff.mp hy;rw [<- e1,<- e2];exact List.pairwise_iff_getElem.mp p i k h1 h2 hik
theorem Cv {α β:Type}{f:α->Option β}{g:α->β}:∀ {l:List α},(∀ x∈l,f x=some (g x))->l.filterMap f=l.map g
 | [],_=>rfl
 | a::r,h=>by
  rw [List.filterMap_cons,h a N9,OM,Cv fun x hx=>h x (O6 _ hx)]
def Ec {t:SetTable}{es:Array Ent}{wanted:Nat}(hf:full (sizeAbove wanted - 1 + 1)=true)(ho:(sizeAbove wanted - 1) % 2=1)(hl:es.size<=sizeAbove wanted - 1) :
  ∃ es' t',relayAll t es wanted=(es',t',false)/\TB t' es'/\es'.toList.Perm es.toList/\t'.led=t.led/\t'.plain=t.plain/\t'.mask=sizeAbove wanted - 1:=by
 obtain ⟨o,e,O⟩:=ya hf (hs:=es.map (·.1)) (by simpa using hl)
 generalize hm:sizeAbove wanted - 1=m at *;have hn:(es.map (·.1)).toList.length=es.size:=by simp
 have pm:=O.pm;rw [hn] at pm;have order_lt:∀ k∈(bD o (m + 1)).map (·.2),k < es.size:=fun k hk=>List.mem_range.mp (pm.mem_iff.mp hk)
 have hg:∀ k∈(bD o (m + 1)).map (·.2),es[k]?=some (es.getD k (0,.none)):=fun k hk=>by
  have:=order_lt k hk;rw [Array.getD_eq_getD_getElem?,Array.getElem?_eq_getElem this];rfl
 have esL:(((bD o (m + 1)).map (·.2)).toArray.filterMap (es[·]?)).toList=((bD o (m + 1)).map (·.2)).map fun k=>es.getD k (0,.none):=by
  rw [Array.toList_filterMap];exact Cv hg
 have len:(bD o (m + 1)).length=es.size:=by
  have:=pm.length_eq;rw [O7,OP] at this;exact this
 have es'sz:(((bD o (m + 1)).map (·.2)).toArray.filterMap (es[·]?)).size=es.size:=by
  rw [<- Array.length_toList,esL,O7,O7,len]
 have rel:t.relaid (es.map (·.1)) wanted=some ({ mask:=m,place:=((bD o (m + 1)).map (·.1)).toArray,dummies:=#[],finger:=t.finger,led:=t.led,moves:=t.movedTo m,plain:=t.plain },((bD o (m + 1)).map (·.2)).toArray):=by
  unfold relaid laid;rw [hm];show (layClean m (es.map (·.1))).bind _=_;rw [e];rfl
 have psz:((bD o (m + 1)).map (·.1)).toArray.size=es.size:=by rw [OJ,O7,len]
 have T:TB { mask:=m,place:=((bD o (m + 1)).map (·.1)).toArray,dummies:=#[],finger:=t.finger,led:=t.led,moves:=t.movedTo m,plain:=t.plain } (((bD o (m + 1)).map (·.2)).toArray.filterMap (es[·]?)):=by
  have at_:∀ (i j:Nat),((bD o (m + 1)).map (·.1)).toArray[i]?=some j->∃ k,(bD o (m + 1))[i]?=some (j,k):=fun i j h=>by
   rw [List.getElem?_toArray,OG] at h;cases z:(bD o (m + 1))[i]? with
   | none=>rw [z] at h;cases h
   | some p =>
    rw [z] at h;obtain ⟨a,b⟩:=p;cases h;exact ⟨b,rfl⟩
  have inj:∀ j k:Nat,o[j]?=some (some k)->j<=m->In { mask:=m,place:=((bD o (m + 1)).map (·.1)).toArray,dummies:=#[],finger:=t.finger,led:=t.led,moves:=t.movedTo m,plain:=t.plain } j:=fun j k h hj=>by
   obtain ⟨i,hi⟩:=List.getElem?_of_mem (qc.mpr ⟨Nat.lt_succ_of_le hj,h⟩);refine ⟨i,?_⟩;show ((bD o (m + 1)).map (·.1)).toArray[i]?=some j;rw [List.getElem?_toArray,OG,hi];rfl
  refine ⟨by rw [es'sz];exact psz,Ce o (m + 1),fun i j h=>?_,rfl,hf,ho,by show _<=m;rw [psz];exact hl,fun i j f h hf'=>?_⟩
  ·obtain ⟨k,hk⟩:=at_ i j h;have:=(qc.mp (OO hk)).1;show j<=m;omega
  ·obtain ⟨k,hk⟩:=at_ i j h;have mem:=qc.mp (OO hk);have f1:(((bD o (m + 1)).map (·.2)).toArray.filterMap (es[·]?)).toList[i]?=some f:=by rw [OZ];exact hf'
   rw [esL,OG,OG,hk] at f1;have f2:es.getD k (0,.none)=f:=Option.some.inj f1;have yV:k∈(bD o (m + 1)).map (·.2):=OI.mpr ⟨_,OO hk,rfl⟩;have f3:=hg k yV;rw [f2] at f3;have f4:(es.map (·.1)).toList[k]?=some f.1:=by
    rw [OZ,Array.getElem?_map,f3];rfl
   obtain ⟨n,c1,c2,c3⟩:=O.rc j k f.1 mem.2 f4;refine ⟨n,c1,c2,fun n' l=>?_⟩
   obtain ⟨k',z⟩:=c3 n' l;exact inj _ k' z (Ao m f.1 n')
 refine ⟨_,_,?_,T,?_,rfl,rfl,rfl⟩
 ·unfold relayAll;rw [rel];dsimp only;rw [if_pos];rw [OA];refine ⟨?_,T.fits⟩;unfold coversAll;exact List.isPerm_iff.mpr pm
 ·rw [esL];have p2:=pm.map fun k=>es.getD k (0,.none)
  refine p2.trans (List.Perm.of_eq ?_);refine List.ext_getElem? fun i=>?_
  rw [OG]
  by_cases q:i < es.size
  ·rw [List.getElem?_range q,OZ,Array.getElem?_eq_getElem q];show some (es.getD i (0,.none))=_;rw [Array.getD_eq_getD_getElem?,Array.getElem?_eq_getElem q];rfl
  ·rw [List.getElem?_eq_none (by rw [OP];omega),OZ,Array.getElem?_eq_none (by omega)]
   rfl
def G4:full 16=true:=by decide +kernel
def HQ:full 64=true:=by decide +kernel
def D0:full 256=true:=by decide +kernel
def yq:∀ n,n<=127->[8,16,32,64,128,256,512].contains (sizeAbove (grown n))=true/\n < sizeAbove (grown n):=by decide +kernel
def GY {n:Nat}(hn:n<=127):full (sizeAbove (grown n) - 1 + 1)=true/\(sizeAbove (grown n) - 1) % 2=1/\n<=sizeAbove (grown n) - 1:=by
 obtain ⟨h1,h2⟩:=yq n hn;generalize sizeAbove (grown n)=z at *;have:z=8\/z=16\/z=32\/z=64\/z=128\/z=256\/z=512:=by simpa using h1
 rcases this with rfl | rfl | rfl | rfl | rfl | rfl | rfl
 ·exact ⟨Dp,rfl,by omega⟩
 ·exact ⟨G4,rfl,by omega⟩
 ·exact ⟨Ih,rfl,by omega⟩
 ·exact ⟨HQ,rfl,by omega⟩
 ·exact ⟨ER,rfl,by omega⟩
 ·exact ⟨D0,rfl,by omega⟩
 ·exact ⟨Fe,rfl,by omega⟩
section
variable {prog:Program}{w:World}{K:Type} [DecidableEq K]{knd:KeyKind prog w K}{A:Around}{E:Value->Shared->Prop}{s:Shared}
def xW (n:Nat){v:Value}(h:carriedByValue v=true):ofAClassStatement n v=pure false:=by
 cases v with
 | ref a=>exact absurd (show false=true from h) ON
 | _=>simp only [ofAClassStatement]
def tM {ks:List K}{a:Addr}{Q:Bool->Shared->Prop}(hk:IsTupleKey knd s.heap ks a)(h:Q false s):wpAny (model prog w) A (ofAClassStatement 8 (.ref a)) Q E s:=by
 obtain ⟨o,items,n,ho,hc,hd,hi⟩:=hk;unfold ofAClassStatement;have hT:s.TypeIs (.ref a) "tuple":=⟨o,ho,hc⟩;refine N8 (wpAny_typeOf hT ?_);refine N8 (O0 ?_);simp only [Bool.not_true,Bool.false_eq_true,if_false];refine N8 (wpAny_seqItems ho hd ?_);refine N8 ?_;show wpAny _ _ (forIn items _ _) _ _ s;rw [<- Array.forIn_toList];refine wpAny_forIn_list _ (fun rest r s'=>r.1=none/\s'=s/\∀ v∈rest,carriedByValue v=true) _ ?_ ?_ _ _ ⟨rfl,rfl,hi.byValue⟩
 ·rintro v rest r s' ⟨hr,rfl,hall⟩;rw [xW _ (hall v N9)];refine N8 (O0 ?_);simp only [Bool.false_eq_true,if_false];exact O0 ⟨rfl,rfl,fun u hu'=>hall u (O6 _ hu')⟩
 ·rintro ⟨r1,r2⟩ s' ⟨hr,rfl,_⟩;simp only at hr;subst hr;exact O0 h
end
section
variable {prog:Program}{w:World}{K:Type} [DecidableEq K]{knd:KeyKind prog w K}{A:Around}{E:Value->Shared->Prop}{s:Shared}
def zP {b:Addr}{k:List K}{ys:List Value}{Q:Bool->Shared->Prop}(hk:IsTupleKey knd s.heap k b)(hy:∀ y∈ys,∃ k' a,y=Value.ref a/\IsTupleKey knd s.heap k' a)(h:Q false s) :
  wpAny (model prog w) A (searchCouldBeSeen (.ref b) ys) Q E s:=by
 unfold searchCouldBeSeen;refine N8 ?_;refine wpAny_forIn_list _ (fun rest r s'=>r.1=none/\s'=s/\∀ y∈rest,∃ k' a,y=Value.ref a/\IsTupleKey knd s.heap k' a) _ ?_ ?_ _ _ ⟨rfl,rfl,hy⟩
 ·rintro v rest r s' ⟨hr,rfl,hall⟩;obtain ⟨k',a,rfl,ha⟩:=hall v N9;have next:∀ u∈rest,∃ k' a,u=Value.ref a/\IsTupleKey knd s'.heap k' a:=fun u hu=>hall u (O6 _ hu)
  dsimp only
  by_cases q:(b == a)=true
  ·rw [if_pos (by rw [q];rfl)]
   exact O0 ⟨rfl,rfl,next⟩
  ·rw [if_neg (by rw [Bool.not_eq_true] at q;rw [q];exact ON)]
   refine N8 (wpAny_eqIsQuiet_tuple hk ?_);simp only [Bool.not_true,Bool.false_eq_true,if_false];refine N8 (wpAny_eqIsQuiet_tuple ha ?_);simp only [Bool.not_true,Bool.false_eq_true,if_false];refine N8 (tM hk ?_);simp only [Bool.false_eq_true,if_false];refine N8 (tM ha ?_);simp only [Bool.false_eq_true,if_false];exact O0 ⟨rfl,rfl,next⟩
 ·rintro ⟨r1,r2⟩ s' ⟨hr,rfl,_⟩;simp only at hr;subst hr;exact O0 h
end
section
variable {prog:Program}{w:World}{K:Type} [DecidableEq K]{knd:KeyKind prog w K}{A:Around}{E:Value->Shared->Prop}{s:Shared}{t:SetTable}{es:Array Ent}
def n6 (knd:KeyKind prog w K)(h:Heap)(e:Ent)(k:List K):Prop:=∃ b,e.2=.ref b/\e.1=tupleKeyHash knd k/\IsTupleKey knd h k b
structure SK (knd:KeyKind prog w K)(h:Heap)(es:Array Ent)(ks:List (List K)):Prop where
 ok:∀ e∈es.toList,∃ k,k∈ks/\n6 knd h e k
 on:∀ k∈ks,∃ e,e∈es.toList/\n6 knd h e k
 len:es.size=ks.length
theorem n6.inj {h:Heap}{e:Ent}{k k':List K}(a:n6 knd h e k)(b:n6 knd h e k'):k=k':=by
 obtain ⟨x,e1,_,h1⟩:=a;obtain ⟨y,e2,_,h2⟩:=b;rw [e1] at e2;cases e2;exact (tupleKind knd).inj h1 h2
def TB.before (T:TB t es){h:Int}{N:Nat}(hN:¬ In t (pr t.mask h N).j)(hw:Way t h N){i:Nat}{e:Ent}(he:es[i]?=some e)(eh:e.1=h):∃ n,n < N/\t.place[i]?=some (pr t.mask h n).j:=by
 have hi:i < t.place.size:=by rw [T.sz];exact m5 he
 have hp:t.place[i]?=some t.place[i]:=Array.getElem?_eq_getElem hi;obtain ⟨n,_,e1,e2⟩:=T.rc i _ e hp he;rw [eh] at e1 e2;refine ⟨n,?_,by rw [hp,e1]⟩
 rcases Nat.lt_trichotomy n N with z | z | z
 ·exact z
 ·subst z;exact absurd ⟨i,by rw [hp,e1]⟩ hN
 ·exact absurd (e2 N z) hN
end
section
variable {prog:Program}{w:World}{K:Type} [DecidableEq K]{knd:KeyKind prog w K}{A:Around}{E:Value->Shared->Prop}{s:Shared}{t:SetTable}{es:Array Ent}
theorem oW {a b:Addr}{o:Obj}{ep N:Nat}{k:List K}{ks:List (List K)}{Q:SetFound->Shared->Prop}(hr:A.units < cLine)(ho:s.heap.get? a=some o)(hd:o.data=.set es ep t)(T:TB t es)(S:SK knd s.heap es ks)(hk:IsTupleKey knd s.heap k b)
  (hl:N < 10 * turns t.mask)(hN:¬ In t (pr t.mask (tupleKeyHash knd k) N).j)(hw:Way t (tupleKeyHash knd k) N)(q:Q (if k∈ks then .there none else .free (pr t.mask (tupleKeyHash knd k) N).j false) s) :
  ∀ (fuel n:Nat)(p:Option Probe),n<=N->N - n < fuel->p.getD (t.probeStart (tupleKeyHash knd k))=pr t.mask (tupleKeyHash knd k) n ->
   (∀ (m i:Nat)(e:Ent),m < n->t.place[i]?=some (pr t.mask (tupleKeyHash knd k) m).j->es[i]?=some e->¬ n6 knd s.heap e k)->wpAny (model prog w) A (setSearchFrom a (.ref b) (tupleKeyHash knd k) true fuel p) Q E s
 | 0,n,p,h1,h2,h3,h4=>absurd h2 (Nat.not_lt_zero _)
 | fuel + 1,n,p,h1,h2,h3,h4=>by
  rw [setSearchFrom.eq_2];refine N8 (wpAny_setState_of ho hd T.fits ?_);dsimp only;rw [if_neg (by rw [T.Kf];exact ON),h3]
  have z:=zu T.ri T.du (hashAt:=fun i=>(Option.map (fun x=>x.fst) es[i]?).getD 0) hN hw (10 * turns t.mask) n h1 (by omega)
  have entry:∀ i j:Nat,t.place[i]?=some j->∃ e,es[i]?=some e:=fun i j h=>by
   have hi:i < es.size:=by rw [<- T.sz];exact m5 h
   exact ⟨es[i],Array.getElem?_eq_getElem hi⟩
  rcases z with ⟨z1,z2⟩ | ⟨m,i,c1,c2,c3,c4,c5,c6⟩
  ·have no:k∉ks:=fun hin=>by
    obtain ⟨e,he,eo⟩:=S.on k hin;obtain ⟨i,hi⟩:=List.getElem?_of_mem he;rw [OZ] at hi;obtain ⟨b',_,eh,_⟩:=id eo;obtain ⟨n',hn',hp⟩:=T.before hN hw hi eh
    by_cases c:n' < n
    ·exact h4 n' i e c hp hi eo
    ·refine z2 n' i (by omega) hn' hp ?_
     rw [hi];exact eh
   rw [if_neg no] at q;split
   ·next met heq =>
    have e:=z1.symm.trans heq;cases e;exact O0 q
   ·next x hx =>
    exact absurd z1 (hx _)
  ·obtain ⟨e,he⟩:=entry i _ c3;obtain ⟨k',hk',eo⟩:=S.ok e (OO (by rw [OZ];exact he))
   obtain ⟨b',e1,e2,e3⟩:=id eo;obtain ⟨eh,ev⟩:=e;simp only at e1 e2;subst e1;have more:∀ {P:Unit->Sem SetFound},wpAny (model prog w) A (P ()) Q E s->wpAny (model prog w) A (if (!t.led)=true then do
        let r <- searchCouldBeSeen (.ref b) (List.map (fun x=>x.snd) (Array.filter (fun x=>x.fst == tupleKeyHash knd k) es).toList)
        if r=true then do
          let r <- unsupported "set:the-search-would-show-the-table"
          P r
         else P ()
       else P ()) Q E s:=fun hP=>by
    split
    ·refine N8 (zP hk (fun y hy=>?_) ?_)
     ·obtain ⟨f,hf,rfl⟩:=OI.mp hy;obtain ⟨k2,_,b2,f1,_,f3⟩:=S.ok f (by
       have:=Array.mem_toList_iff.mp hf;rw [Array.mem_toList_iff];exact (Array.mem_filter.mp this).1)
      exact ⟨k2,b2,f1,f3⟩
     ·rw [if_neg ON];exact hP
    ·exact hP
   split
   ·next met heq =>
    have e:=c5.symm.trans heq;cases e;dsimp only;refine more (P:=fun _=>_) ?_
    rw [he];dsimp only;refine N8 (wpAny_holding (wpAny_eqBool_tuple hr e3 hk ?_));refine N8 (wpAny_setState_of ho hd T.fits ?_);dsimp only
    by_cases c:k'=k
    ·subst c;rw [if_pos hk'] at q;rw [decide_eq_true rfl];rw [if_pos (by rfl)]
     exact O0 q
    ·rw [decide_eq_false c];rw [if_neg (by simp)]
     have sm:t.sameMemory t.moves t.mask=some true:=by
      unfold sameMemory;rw [if_pos (by simp)]
     rw [sm];dsimp only;rw [if_pos rfl,tF T.ri c3];dsimp only;rw [he];dsimp only;refine N8 (wpAny_isSame_ref_self ?_);refine N8 (O0 ?_);rw [if_pos rfl];dsimp only;rw [if_neg ON];refine oW hr ho hd T S hk hl hN hw q fuel (m + 1) (some (pr t.mask (tupleKeyHash knd k) (m + 1))) (by omega) (by omega) rfl fun m' i' e' hm' hp' he' eo'=>?_
     rcases Nat.lt_or_ge m' n with l | l
     ·exact h4 m' i' e' l hp' he' eo'
     ·rcases Nat.lt_or_ge m' m with l2 | l2
      ·refine c6 m' i' l l2 hp' ?_;rw [he'];obtain ⟨_,_,g,_⟩:=eo';exact g
      ·have em:m'=m:=by omega
       subst em;have ei:=T.ri.inj hp' c3;subst ei;rw [he] at he';cases he';exact c (eo.inj eo')
   ·next x hx =>
    exact absurd c5 (hx _)
end
section
variable {prog:Program}{w:World}{K:Type} [DecidableEq K]{knd:KeyKind prog w K}{A:Around}{E:Value->Shared->Prop}{s:Shared}{t:SetTable}{es:Array Ent}
def Cs (n:Nat){v:Value}(h:carriedByValue v=true):∃ c,hashByValue n v=pure c:=by
 cases v with
 | ref a=>exact absurd (show false=true from h) ON
 | none=>exact ⟨_,hashByValue.eq_1 n⟩
 | bool b=>exact ⟨_,hashByValue.eq_2 n b⟩
 | int i t=>exact ⟨_,hashByValue.eq_3 n i t⟩
 | float b t=>exact ⟨_,hashByValue.eq_4 n b t⟩
 | str x t=>exact ⟨_,hashByValue.eq_5 n x t⟩
 | bytes x t=>exact ⟨_,hashByValue.eq_6 n x t⟩
 | ellipsis=>exact ⟨_,hashByValue.eq_7 n⟩
 | notImplemented=>exact ⟨_,hashByValue.eq_8 n⟩
 | type x=>exact ⟨_,hashByValue.eq_9 n x⟩
 | builtin x=>exact ⟨_,hashByValue.eq_10 n x⟩
def A4 {k:List K}{a:Addr}{Q:Bool->Shared->Prop}(hk:IsTupleKey knd s.heap k a)(h:∀ c,Q c s):wpAny (model prog w) A (hashByValue 8 (.ref a)) Q E s:=by
 obtain ⟨o,items,n,ho,hc,hd,hi⟩:=hk;rw [hashByValue.eq_12];refine N8 (wpAny_specialOf (s:=s) ⟨o,ho,hc⟩ F.slot_tuple_hash.lookup ?_);dsimp only;refine N8 (wpAny_seqItems ho hd ?_);refine N8 ?_;show wpAny _ _ (forIn items _ _) _ _ s;rw [<- Array.forIn_toList];refine wpAny_forIn_list _ (fun rest r s'=>s'=s/\∀ v∈rest,carriedByValue v=true) _ ?_ ?_ _ _ ⟨rfl,hi.byValue⟩
 ·rintro v rest r s' ⟨rfl,hall⟩;obtain ⟨c,e⟩:=Cs 7 (hall v N9);rw [e];refine N8 (O0 ?_);split
  ·exact O0 (by
    dsimp only;exact O0 (h _))
  ·exact O0 ⟨rfl,fun u hu'=>hall u (O6 _ hu')⟩
 ·rintro ⟨r1,r2⟩ s' ⟨rfl,_⟩;dsimp only;split <;> exact O0 (h _)
def CB {wanted:Nat}(hf:full (sizeAbove wanted - 1 + 1)=true)(ho:(sizeAbove wanted - 1) % 2=1)(hl:es.size<=sizeAbove wanted - 1) :
  ∃ t' ord,t.relaid (es.map (fun x=>x.fst)) wanted=some (t',ord)/\TB t' (ord.filterMap (es[·]?))/\(ord.filterMap (es[·]?)).toList.Perm es.toList/\t'.mask=sizeAbove wanted - 1:=by
 obtain ⟨es',t',e,T,p,_,_,m⟩:=Ec (t:=t) hf ho hl;unfold relayAll at e;cases z:t.relaid (es.map (fun x=>x.fst)) wanted with
 | none =>
  rw [z] at e;dsimp only at e;injection e with _ e
  injection e with _ e
  cases e
 | some p' =>
  obtain ⟨t2,ord⟩:=p';rw [z] at e;dsimp only at e;split at e
  ·injection e with e1 e
   injection e with e2 _
   subst e1;subst e2;exact ⟨t2,ord,rfl,T,p,m⟩
  ·injection e with _ e
   injection e with _ e
   cases e
def EK {a:Addr}{o:Obj}{ep wanted:Nat}{Q:Unit->Shared->Prop}(ha:s.heap.get? a=some o)(hd:o.data=.set es ep t)(fit:t.fits es.size=true)(hf:full (sizeAbove wanted - 1 + 1)=true)(ho:(sizeAbove wanted - 1) % 2=1)(hl:es.size<=sizeAbove wanted - 1)(hz:sizeAbove wanted<=sizeLine)
  (q:∀ t' es',TB t' es'->es'.toList.Perm es.toList->t'.mask=sizeAbove wanted - 1->Q () { s with heap:=s.heap.update a (Obj.putSet es' t') }):wpAny (model prog w) A (setRelay a wanted) Q E s:=by
 unfold setRelay;refine N8 (wpAny_setState_of ha hd fit ?_);dsimp only;rw [if_neg (by omega)]
 obtain ⟨t',ord,e,T,p,m⟩:=CB (t:=t) (es:=es) hf ho hl;rw [e];have sz:(ord.filterMap (es[·]?)).size=es.size:=by
  have z:=p.length_eq;rw [Array.length_toList,Array.length_toList] at z;exact z
 have go:∀ {m0:Sem (Array Ent×SetTable)}{f:Array Ent×SetTable->Sem Unit}{Q':Unit->Shared->Prop},wpAny (model prog w) A (f (ord.filterMap (es[·]?),t')) Q' E s->wpAny (model prog w) A ((if ((ord.filterMap (es[·]?)).size != es.size)=true then m0 else pure (ord.filterMap (es[·]?),t')) >>= f) Q' E s:=fun h=>by
  rw [if_neg (by rw [sz];simp)]
  exact N8 (O0 h)
 refine go (f:=fun x=>storeSet a x.fst x.snd) ?_
 dsimp only;refine wpAny_storeSet_of ha hd (q _ _ T p m) ?_;have:=hl;omega
end
section
variable {prog:Program}{w:World}{K:Type} [DecidableEq K]{knd:KeyKind prog w K}{A:Around}{E:Value->Shared->Prop}{s:Shared}{t:SetTable}{es:Array Ent}
def TB.pl (T:TB t es)(c:Bool):TB { t with plain:=c } es:=⟨T.sz,T.ri,T.le,T.du,T.fu,T.od,T.nf,T.rc⟩
def rP {p:Nat}(hp:p<=es.size)(e f:Ent):f∈(insertAt es p e).toList↔f=e\/f∈es.toList:=by
 constructor
 ·intro h;obtain ⟨i,hi⟩:=List.getElem?_of_mem h;rw [OZ,gn hp] at hi
  by_cases c:i < p
  ·rw [if_pos c] at hi;exact .inr (OO (by rw [OZ];exact hi))
  ·rw [if_neg c] at hi
   by_cases c2:i=p
   ·rw [if_pos c2] at hi;exact .inl (Option.some.inj hi).symm
   ·rw [if_neg c2] at hi;exact .inr (OO (by rw [OZ];exact hi))
 ·intro h;rcases h with rfl | h
  ·refine OO (i:=p) ?_;rw [OZ,gn hp,if_neg (Nat.lt_irrefl _),if_pos rfl]
  ·obtain ⟨i,hi⟩:=List.getElem?_of_mem h;rw [OZ] at hi
   by_cases c:i < p
   ·refine OO (i:=i) ?_;rw [OZ,gn hp,if_pos c,hi]
   ·refine OO (i:=i + 1) ?_;rw [OZ,gn hp,if_neg (by omega),if_neg (by omega),Nat.add_sub_cancel,hi]
def SK.put {h:Heap}{ks:List (List K)}{k:List K}{b:Addr}{p:Nat}(S:SK knd h es ks)(hp:p<=es.size)(hk:IsTupleKey knd h k b):SK knd h (insertAt es p (tupleKeyHash knd k,.ref b)) (ks++[k]):=by
 refine ⟨fun e he=>?_,fun k' hk'=>?_,by rw [jZ hp,S.len,OR,List.length_singleton]⟩
 ·rcases (rP hp _ _).mp he with rfl | he
  ·exact ⟨k,by simp,b,rfl,rfl,hk⟩
  ·obtain ⟨k',h1,h2⟩:=S.ok e he;exact ⟨k',by simp [h1],h2⟩
 ·rcases OT.mp hk' with h1 | h1
  ·obtain ⟨e,h2,h3⟩:=S.on k' h1;exact ⟨e,(rP hp _ _).mpr (.inr h2),h3⟩
  ·have:k'=k:=by simpa using h1
   subst this;exact ⟨_,(rP hp _ _).mpr (.inl rfl),b,rfl,rfl,hk⟩
def SK.perm {h:Heap}{ks:List (List K)}{es':Array Ent}(S:SK knd h es ks)(p:es'.toList.Perm es.toList):SK knd h es' ks:=by
 refine ⟨fun e he=>S.ok e (p.mem_iff.mp he),fun k hk=>?_,?_⟩
 ·obtain ⟨e,h1,h2⟩:=S.on k hk;exact ⟨e,p.mem_iff.mpr h1,h2⟩
 ·have:=p.length_eq;rw [Array.length_toList,Array.length_toList] at this;rw [this,S.len]
def SK.mono {h h':Heap}{ks:List (List K)}(S:SK knd h es ks)(m:∀ k b,IsTupleKey knd h k b->IsTupleKey knd h' k b):SK knd h' es ks:=by
 refine ⟨fun e he=>?_,fun k hk=>?_,S.len⟩
 ·obtain ⟨k,h1,b,h2,h3,h4⟩:=S.ok e he;exact ⟨k,h1,b,h2,h3,m k b h4⟩
 ·obtain ⟨e,h1,b,h2,h3,h4⟩:=S.on k hk;exact ⟨e,h1,b,h2,h3,m k b h4⟩
def AX:∀ n,n<=127->n * 5 < (sizeAbove (grown n) - 1) * 3/\sizeAbove (grown n)<=512:=by decide +kernel
structure nN (knd:KeyKind prog w K)(h0:Heap)(o:Obj)(ks:List (List K)):Prop where
 ex:o.ExactSet
 tb:∃ es ep t,o.data=.set es ep t/\TB t es/\es.size * 5 < t.mask * 3/\t.mask<=511/\SK knd h0 es ks
def Kh {h0:Heap}{a b:Addr}{o:Obj}{k:List K}{ks:List (List K)}{Q:Bool->Shared->Prop}(hr:A.units < cLine)(ha:s.heap.get? a=some o)(S:nN knd h0 o ks)(keep:∀ k b,IsTupleKey knd h0 k b->IsTupleKey knd s.heap k b)(hk0:IsTupleKey knd h0 k b)(few:ks.length + 1<=127)
  (q0:k∈ks->Q false s)(q1:k∉ks->∀ h' o',Heap.SameBut a s.heap h'->h'.get? a=some o'->nN knd h0 o' (ks++[k])->Q true { s with heap:=h' }) :
  wpAny (model prog w) A (setAddHashed a (.ref b) (tupleKeyHash knd k)) Q E s:=by
 obtain ⟨ex,es,ep,t,hd,T,nf,hm,sk⟩:=S;have hk:=keep k b hk0;unfold setAddHashed;refine wpAny_holding ?_;rw [show (100000:Nat)=Nat.succ 99999 from rfl,setAddHashedIn.eq_2]
 refine N8 (wpAny_setState_of ha hd T.fits ?_);dsimp only;rw [if_neg (by simp [byScan,Value.scannable])]
 unfold setSearch;obtain ⟨N,hl,hN,hw⟩:=T.first (tupleKeyHash knd k);have lim:10 * turns t.mask<=100000:=by
  unfold turns;omega
 refine N8 (oW hr ha hd T (sk.mono keep) hk hl hN hw ?_ 100000 0 none (Nat.zero_le _) (by omega) rfl fun m i e hm'=>absurd hm' (Nat.not_lt_zero _))
 by_cases c:k∈ks
 ·rw [if_pos c];exact O0 (q0 c)
 ·rw [if_neg c];dsimp only;refine N8 (wpAny_setState_of ha hd T.fits ?_);dsimp only;have hj:=Ao t.mask (tupleKeyHash knd k) N;have T1:=T.put (e:=(tupleKeyHash knd k,.ref b)) hl hN hw (by omega) hj
  have hp:(t.put (pr t.mask (tupleKeyHash knd k) N).j).2<=es.size:=by rw [<- T.sz];exact DV T.ri _
  have S1:=sk.put hp hk0;have z1:=jZ hp ((tupleKeyHash knd k,Value.ref b):Ent);have m1:(t.put (pr t.mask (tupleKeyHash knd k) N).j).1.mask=t.mask:=rfl;generalize (t.put (pr t.mask (tupleKeyHash knd k) N).j).1=t1 at *;generalize (t.put (pr t.mask (tupleKeyHash knd k) N).j).2=p1 at *;have len1:es.size + 1<=127:=by rw [sk.len];exact few
  have tail:∀ t2:SetTable,TB t2 (insertAt es p1 (tupleKeyHash knd k,.ref b))->t2.mask=t.mask->wpAny (model prog w) A (do
    storeSet a (insertAt es p1 (tupleKeyHash knd k,.ref b)) t2
    if (!false && t2.tooFull)=true then do
     let _ <- setRelay a (grown (es.size + 1))
     pure true
    else pure true) Q E s:=fun t2 T2 m2=>by
   refine N8 (wpAny_storeSet_of ha hd ?_ ?_)
   ·have po:=putSet_of (insertAt es p1 (tupleKeyHash knd k,.ref b)) t2 hd;have g1:(s.heap.update a (Obj.putSet (insertAt es p1 (tupleKeyHash knd k,.ref b)) t2)).get? a=some { o with data:=.set (insertAt es p1 (tupleKeyHash knd k,.ref b)) (ep + 1) t2 }:=by
     rw [Heap.get?_update_self _ ha (by rw [po];rfl),po]
    have sb:=Heap.SameBut.update s.heap a (Obj.putSet (insertAt es p1 (tupleKeyHash knd k,.ref b)) t2);generalize s.heap.update a (Obj.putSet (insertAt es p1 (tupleKeyHash knd k,.ref b)) t2)=h1 at *;split
    ·obtain ⟨g2,g3,g4⟩:=GY (n:=es.size + 1) len1;obtain ⟨g5,g6⟩:=AX (es.size + 1) len1;refine N8 (EK (s:={ s with heap:=h1 }) g1 rfl T2.fits g2 g3 (by rw [z1];exact g4) (Nat.le_trans g6 (by decide)) fun t3 es3 T3 p3 m3=>O0 ?_)
     have po3:=putSet_of (o:={ o with data:=.set (insertAt es p1 (tupleKeyHash knd k,.ref b)) (ep + 1) t2 }) es3 t3 rfl
     have l3:=p3.length_eq;rw [Array.length_toList,Array.length_toList,z1] at l3;refine q1 c _ _ ⟨?_,fun x hx=>?_⟩ (Heap.get?_update_self _ g1 (by rw [po3];rfl)) ?_
     ·exact (Heap.SameBut.update h1 a (Obj.putSet es3 t3)).1.trans sb.1
     ·exact ((Heap.SameBut.update h1 a (Obj.putSet es3 t3)).2 x hx).trans (sb.2 x hx)
     ·rw [po3];exact ⟨ex,es3,_,t3,rfl,T3,by rw [l3,m3];exact g5,by rw [m3];omega,S1.perm p3⟩
    ·next nt =>
     refine O0 (q1 c _ _ sb g1 ⟨ex,_,_,t2,rfl,T2,?_,by omega,S1⟩)
     have e1:¬ (t2.fill * 5 >= t2.mask * 3):=fun q=>nt (by
      unfold tooFull;rw [decide_eq_true q];rfl)
     have e2:t2.fill=(insertAt es p1 (tupleKeyHash knd k,.ref b)).size:=by
      unfold fill;rw [T2.sz,T2.du];rfl
     rw [e2] at e1;omega
   ·rw [z1];exact Nat.le_trans len1 (by decide)
  split
  ·refine N8 (A4 hk fun cb=>?_)
   cases cb with
   | true=>exact tail t1 T1 m1
   | false=>exact tail { t1 with plain:=false } (T1.pl false) m1
  ·refine N8 (O0 ?_);exact tail t1 T1 m1
end
section
variable {prog:Program}{w:World}{K:Type} [DecidableEq K]{knd:KeyKind prog w K}{A:Around}
def met (f:Nat->List K):Nat->List (List K)
 | 0=>[]
 | i + 1=>if f i∈met f i then met f i else met f i++[f i]
theorem om (f:Nat->List K):∀ i,(met f i).length<=i
 | 0=>O5 _
 | i + 1=>by
  have ih:=om f i;unfold met;split
  ·omega
  ·rw [OR,List.length_singleton];omega
theorem yT (f:Nat->List K)(k:List K):∀ i,k∈met f i↔∃ j,j < i/\f j=k
 | 0=>⟨fun h=>(nomatch h),fun ⟨j,h,_⟩=>absurd h (Nat.not_lt_zero _)⟩
 | i + 1=>by
  have ih:=yT f k i;have up:(∃ j,j < i + 1/\f j=k)↔(∃ j,j < i/\f j=k)\/f i=k:=by
   constructor
   ·rintro ⟨j,h,e⟩;rcases Nat.lt_succ_iff_lt_or_eq.mp h with h | h
    ·exact .inl ⟨j,h,e⟩
    ·subst h;exact .inr e
   ·rintro (⟨j,h,e⟩ | e)
    ·exact ⟨j,Nat.lt_succ_of_lt h,e⟩
    ·exact ⟨i,Nat.lt_succ_self i,e⟩
  rw [up,<- ih,show met f (i + 1)=if f i∈met f i then met f i else met f i++[f i] from rfl]
  split
  ·next c =>
   exact ⟨.inl,fun h=>h.elim id fun e=>e ▸ c⟩
  ·rw [OT,O8];exact ⟨fun h=>h.elim .inl fun e=>.inr e.symm,fun h=>h.elim .inl fun e=>.inr e.symm⟩
def vC {h h':Heap}(m:∀ b o,h.get? b=some o->h'.get? b=some o)(k:List K)(b:Addr)(q:IsTupleKey knd h k b):IsTupleKey knd h' k b:=by
 obtain ⟨o,its,n,ho,r⟩:=q;exact ⟨o,its,n,m b o ho,r⟩
def DP (h0:Heap)(led:Bool):nN knd h0 { cls:=.type "set",dict:=none,data:=.set #[] 0 (.fresh 0 0 led) } []:=by
 refine ⟨⟨rfl,rfl,rfl⟩,#[],0,_,rfl,⟨rfl,?_,?_,rfl,Dp,(by decide:7 % 2=1),Nat.zero_le _,?_⟩,(by decide:0 * 5 < 7 * 3),(by decide:7<=511),⟨?_,?_,rfl⟩⟩
 ·intro i k x y _ hx;cases hx
 ·intro i j h;cases h
 ·intro i j e h;cases h
 ·intro e he;cases he
 ·intro k hk;cases hk
section
variable {R:Result->Shared->Prop}{I:Addr}{fp wr:List Addr}{G:Array GenState->Array GenState->Prop}{n:Nat}{P:Nat->Value->Prop}{St:Nat->Shared->Prop}
def CQ (W:PySem.WalksS prog w A.in1 I fp wr G n P St)(Z:Addr)(out:Z∉fp){h0:Heap}(f:Nat->List K)(is:∀ i v,P i v->∃ b,v=.ref b/\IsTupleKey knd h0 (f i) b)(few:n<=126)(hu:A.units + 1 < cLine)
  (old:∀ b o,h0.get? b=some o->b≠Z/\b∉wr):∀ (d i:Nat)(s:Shared),n - i=d->i<=n->St i s->(∀ b o,h0.get? b=some o->s.heap.get? b=some o)->(∃ o,s.heap.get? Z=some o/\nN knd h0 o (met f i)) ->
   (∀ s',PySem.Moved (Z::wr) G s s'->(∃ o,s'.heap.get? Z=some o/\nN knd h0 o (met f n))->R (.ok (.ret .none)) s')->codeAny (model prog w) A (.builtin "set.update.loop" ⟨[.ref Z,.ref I],[]⟩) R s:=by
 have zw:Z∉wr:=fun h=>out (W.sub _ h)
 have more:∀ b∈wr,b∈Z::wr:=fun b hb=>O6 _ hb
 intro d
 induction d with
 | zero =>
  intro i s hd hi st kp so fin;have e:i=n:=by omega
  subst e;refine codeAny_builtin PyProof.Rows.F.entry_set_update_loop ?_;rw [Around.under_plainId PyProof.Rows.F.plain_set_update_loop _];refine N8 (m:=pyNext (.ref I)) (W.done s _ _ st fun s' mv=>?_)
  obtain ⟨o,ho,so⟩:=so;exact O0 (fin s' (mv.mono more) ⟨o,mv.heap Z o zw ho,so⟩)
 | succ d ih =>
  intro i s hd hi st kp so fin;have lt:i < n:=by omega
  refine codeAny_builtin PyProof.Rows.F.entry_set_update_loop ?_;rw [Around.under_plainId PyProof.Rows.F.plain_set_update_loop _];refine N8 (m:=pyNext (.ref I)) (W.item i s _ _ lt st fun v s' hP st' mv=>?_)
  obtain ⟨b,rfl,kb⟩:=is i v hP;obtain ⟨o,ho,so⟩:=so;have ho':=mv.heap Z o zw ho;have kp':∀ b o,h0.get? b=some o->s'.heap.get? b=some o:=fun b o hb=>mv.heap b o (old b o hb).2 (kp b o hb)
  refine N8 (m:=holding [.ref b] (setAdd Z (.ref b))) (wpAny_holding ?_);unfold setAdd;refine wpAny_holding (N8 (wpAny_pyHash_tuple (A:=A.in1) (by simpa using hu) (vC kp' _ _ kb) ?_))
  have ml:=om f i;have up:∀ (h':Heap)(o':Obj)(x:Bool),Heap.SameBut Z s'.heap h'->h'.get? Z=some o'->nN knd h0 o' (met f (i + 1))->∀ {tk:Nat},s'.toks<=tk->codeAny (model prog w) A (.builtin "set.update.loop" ⟨[.ref Z,.ref I],[]⟩) R { s' with heap:=h',toks:=tk }:=fun h' o' x sb ho2 so2 {tk} tl=>by
   refine ih (i + 1) _ (by omega) lt (W.frame _ s' _ _ st' tl fun c hc oc ec=>?_) (fun c oc hc=>?_) ⟨o',ho2,so2⟩ fun s2 mv2 so3=>?_
   ·rw [sb.2 c (fun q=>out (q ▸ hc))]
    exact ec
   ·show h'.get? c=some oc;rw [sb.2 c (old c oc hc).1];exact kp' c oc hc
   ·refine fin s2 (PySem.Moved.trans W.gtrans ((mv.mono more).then_heap tl fun c oc hc ec=>?_) mv2) so3
    rw [sb.2 c (fun q=>hc (by rw [q];exact N9))]
    exact ec
  refine Kh (s:={ s' with toks:=s'.toks + ((f i).length + 1) }) (A:=A.in1) (by simpa using hu) ho' so (fun k c hc=>vC kp' k c hc) kb (by omega) (fun hin=>?_) fun hout h' o' sb ho2 so2=>?_
  ·refine O0 ⟨plainId_quiet PyProof.Rows.F.plain_set_update_loop _,?_⟩;refine up s'.heap o true ⟨rfl,fun _ _=>rfl⟩ ho' ?_ (Nat.le_add_right _ _)
   rw [met,if_pos hin];exact so
  ·refine O0 ⟨plainId_quiet PyProof.Rows.F.plain_set_update_loop _,?_⟩;refine up h' o' true sb ho2 ?_ (Nat.le_add_right _ _);rw [met,if_neg hout];exact so2
end
end
section
variable {prog:Program}{w:World}{K:Type} [DecidableEq K]{knd:KeyKind prog w K}{A:Around}{E:Value->Shared->Prop}{s:Shared}
abbrev gz (led:Bool):Obj:={ cls:=.type "set",dict:=none,data:=.set #[] 0 (.fresh 0 0 led) }
def xY {l:Addr}{its:Array Value}{f:Nat->List K}{Q:Value->Shared->Prop}(hh:A.handled=none)(hu:A.units + 8 < cLine)(hl:s.heap.IsList l its)(few:its.size<=126)(is:∀ i v,its[i]?=some v->∃ b,v=.ref b/\IsTupleKey knd s.heap (f i) b)
  (q:∀ (h':Heap) (tk:Nat)(o:Obj),(∀ b o',s.heap.get? b=some o'->h'.get? b=some o')->h'.get? s.heap.objs.size=some o->nN knd s.heap o (met f its.size)->Q (.ref s.heap.objs.size) { s with heap:=h',toks:=tk }) :
  wpAny (model prog w) A (call (.type "set") [.ref l]) Q E s:=by
 obtain ⟨cc,tl,hmro⟩:=F.called_set.mro;have made':=F.called_set.made;have sub':=F.called_set.sub;refine wpAny_call (codeAny_of_tree (?_:wpAny _ _ (callAny (.type "set") _) _ _ _));refine O0 ⟨Code.quiet_builtin _ (by decide +kernel),codeAny_builtin F.entry_type_call (?_:_)⟩
 rw [Around.under_plain (weight_type_call_type "set" [.ref l] []) rfl];have no':=F.called_set.notType;have can':=F.called_set.canCreate;have chk':=F.typeCall_set_1 (.ref l)
 repeat (any_goals (first | assumption | wp_step))
 refine codeAny_mono (code_set_new_1 (.ref l) (E:=E) (Q₁:=fun ob s1=>∃ led:Bool,ob=.ref s.heap.objs.size/\s1={ s with heap:=s.heap.push (gz led) }) fun led=>⟨led,rfl,rfl⟩) fun r s1 hr1=>?_
 cases r with
 | error e=>exact hr1
 | ok fl =>
  cases fl with
  | ret ob =>
   obtain ⟨led,rfl,rfl⟩:=hr1;have zs:(s.heap.push (gz led)).get? s.heap.objs.size=some (gz led):=Of _ rfl;have ty:Shared.TypeIs { s with heap:=s.heap.push (gz led) } (.ref s.heap.objs.size) "set":=⟨_,zs,rfl⟩
   have li':=F.called_set.init.lookup;have bi':=F.called_set.init.bind (.ref s.heap.objs.size)
   repeat (any_goals (first | assumption | wp_step))
   refine codeAny_mono (codeAny_call_builtin (R:=wants (fun r s2=>r=.none/\∃ h' tk o,s2={ s with heap:=h',toks:=tk }/\(∀ b o',s.heap.get? b=some o'->h'.get? b=some o')/\h'.get? s.heap.objs.size=some o/\nN knd s.heap o (met f its.size)) E) F.called_set.init.plain F.entry_set_init (check_set_init_1 ty ?_)) fun r2 s2 hr2=>?_
   ·obtain ⟨ol,hol,hcl,nl,hdl⟩:=hl;obtain ⟨ocl,odi,oda,osl⟩:=ol;simp only at hcl hdl;subst hcl;subst hdl;have hol2:(s.heap.push (gz led)).get? l=some { cls:=.type "list",dict:=odi,data:=.seq its nl,slots:=osl }:=OF _ hol;have sl1:=F.sub_list_set;have sl2:=F.sub_list_frozenset;have nd':(Value.type "list" == Value.type "dict")=false:=by decide
    have hl1:(s.heap.push (gz led)).IsList l its:=⟨_,hol2,rfl,nl,rfl⟩;unfold Builtin.«set.__init__» noKeywords Builtin.Frozenset.updateFrom;generalize hPI:pyIter=PI
    wp_walk
    subst hPI;refine wpAny_pyIter_list hl1 (N8 (wpAny_runValue ?_));have lz:l < s.heap.objs.size:=OB hol;have h3:A.in1.in1.in1.handled=none:=by simp [hh]
    have nI:l≠(s.heap.push (gz led)).objs.size:=by
     rw [Heap.size_push];exact OD (Nat.lt_succ_of_lt lz)
    have out:s.heap.objs.size∉[(s.heap.push (gz led)).objs.size,l]:=by
     rw [Heap.size_push];simp only [O9,OW,or_false,not_or];exact ⟨OD (Nat.lt_succ_self _),Nat.ne_of_gt lz⟩
    refine CQ (knd:=knd) (h0:=s.heap) (Walks.list h3 _ l nI its).toS s.heap.objs.size out f is few (by simp;omega) (fun b o hb=>?old) its.size 0 _ rfl (Nat.zero_le _) ⟨⟨_,Of _ rfl,rfl,rfl⟩,hl1.push _⟩ (fun b o hb=>OF _ (OF _ hb)) ⟨gz led,OF _ zs,DP _ led⟩ ?fin
    case old =>
     have bz:=OB hb;rw [Heap.size_push];simp only [O9,OW,or_false];exact ⟨OD bz,OD (Nat.lt_succ_of_lt bz)⟩
    case fin =>
     intro s' mv so;obtain ⟨h',g',d',tk',os'⟩:=s';obtain rfl:g'=s.gens:=mv.gens;obtain rfl:d'=s.drawn:=mv.drawn;obtain rfl:os'=s.os:=mv.os;obtain ⟨o,ho,so⟩:=so;refine O0 (?_:wpAny _ _ _ _ _ _);refine id (?_:wpAny _ _ (ret Value.none) _ _ _);refine O0 ⟨rfl,h',tk',o,rfl,fun b o' hb=>?_,ho,so⟩
     have bz:=OB hb;refine mv.heap b o' ?_ (OF _ (OF _ hb));rw [Heap.size_push];simp only [O9,OW,or_false,not_or];exact ⟨OD bz,OD (Nat.lt_succ_of_lt bz)⟩
   ·cases r2 with
    | error e=>exact hr2
    | ok fl2 =>
     cases fl2 with
     | ret r =>
      obtain ⟨rfl,h',tk,o,rfl,kp,ho,so⟩:=hr2
      repeat (any_goals (first | assumption | wp_step))
      exact q h' tk o kp ho so
     | _=>exact hr2.elim
  | _=>exact hr1.elim
end
end SM
namespace L2
open PySem PySem.Spec PyProof.Rows
def rO (a:Addr) (n:Nat):HO:=.ext fun h=>∃ o es ep t,h.get? a=some o/\o.ExactSet/\o.data=.set es ep t/\t.fits es.size=true/\es.size=n
theorem qR {P:Program}{w:World}:∀ {ns:List Int}{us:List Value},Vals (ns.map V.int) us->ItemsAre (intKind P w) ns us
 | [],_,.nil=>.nil
 | n::ns,_,.cons h r=>by
  obtain ⟨t,rfl⟩:=h;exact .cons (intKind_is P w n t) (qR r)
def uP (K:PySem.W.Frag)(H:Hp)(xs:List V)(kss:List (List Int)):Prop:=xs.length=kss.length/\∀ (i:Nat) (x:V)(ks:List Int),xs[i]?=some x->kss[i]?=some ks->∃ b,x=.ref b/\bW K H b (ks.map V.int)
section
variable {X:Cx}
theorem zK:∀ {xs:List V}{us:List Value},Vals xs us->∀ (i:Nat)(u:Value),us[i]?=some u->∃ x,xs[i]?=some x/\RelV x u
 | _,_,.nil,i,u,h=>by cases h
 | _,_,.cons h r,0,u,e=>by
  cases e;exact ⟨_,rfl,h⟩
 | _,_,.cons h r,i + 1,u,e=>zK r i u e
def dn (kss:List (List Int)):Nat:=(SM.met (fun i=>kss.getD i []) kss.length).length
def Bh (hc:X.calm=true)(hu:X.A.units + 8 < cLine):cj X (.type "set") (fun xs H Q=>∃ a ys kss,xs=[.ref a]/\bI X.K H a ys/\uP X.K H ys kss/\kss.length<=126/\∀ p,H p=none->Q (.ref p) (upd H p (rO p (dn kss)))):=by
 intro pins s σ H xs us Q I r h;obtain ⟨a,ys,kss,rfl,hq,tu,few,q⟩:=h;obtain ⟨u,rfl,ru⟩:=vals1 r;cases ru;obtain ⟨its,rv,p,_⟩:=I.list hq;have hlen:its.length=kss.length:=by rw [<- rv.length,tu.1]
 refine SM.xY (knd:=intKind X.prog X.w) (f:=fun i=>kss.getD i []) (I.ok.hd hc) hu p.isList (by simpa [hlen] using few) (fun i v hv=>?_) fun h' tk o kp ho st=>?_
 ·have hv':its[i]?=some v:=by simpa using hv
  obtain ⟨x,hx,rx⟩:=zK rv i v hv';have hi:i < kss.length:=by
   have:=(List.getElem?_eq_some_iff.mp hv').1;omega
  obtain ⟨b,rfl,sb⟩:=tu.2 i x kss[i] hx (OQ hi);cases rx;obtain ⟨its2,r2,⟨o2,e2,c2,n2,d2⟩,_⟩:=I.tuple sb;refine ⟨b,rfl,o2,its2.toArray,n2,e2,c2,d2,?_⟩;have e:kss.getD i []=kss[i]:=by rw [List.getD_eq_getElem?_getD,OQ hi];rfl
  show ItemsAre _ (kss.getD i []) _;rw [e];exact qR (by simpa using r2)
 ·obtain ⟨ex,es,ep,t,hd,T,_,_,sk⟩:=st;have e:es.size=dn kss:=by
   rw [sk.len];unfold dn;rw [OJ,hlen]
  refine ⟨.ref s.heap.objs.size,_,I.laid (t':=tk) kp (O5 _) (o:=rO s.heap.objs.size (dn kss)) ?_,rfl,q _ (I.hok.fresh (O5 _))⟩;refine ⟨⟨o,es,ep,t,ho,ex,hd,T.fits,e⟩,⟨o,ho⟩,fun h1 h2 z k=>?_⟩
  obtain ⟨o,es,ep,t,z1,z2⟩:=z;exact ⟨o,es,ep,t,k o z1,z2⟩
def Co:cj X (.builtin "len") (fun xs H Q=>∃ a n,xs=[.ref a]/\H a=some (rO a n)/\n < 1000/\Q (.int n) H):=by
 intro pins s σ H xs us Q I r h;obtain ⟨a,n,rfl,ha,hn,q⟩:=h;obtain ⟨u,rfl,ru⟩:=vals1 r;cases ru;obtain ⟨⟨o,es,ep,t,z1,z2,z3,z4,z5⟩,_⟩:=I.hok a _ ha;refine call_len_set z1 z2 z3 z4 (by rw [z5];omega) ?_
 rw [z5];exact ⟨.int n,H,I.tok _,⟨_,rfl⟩,q⟩
end
end L2
namespace L2
open PySem PySem.Spec PyProof.Rows PySem.SeqAt PySem.W
mutual
inductive jV (K:PySem.W.Frag)(H:Hp):V->PyData->Prop
 | aY:jV K H .aY .none
 | bl (b:Bool):jV K H (.bl b) (.bool b)
 | int (i:Int):jV K H (.int i) (.int i)
 | str (x:Str):jV K H (.str x) (.str x)
 | lst {a:Addr}{xs:List V}{ds:List PyData}:bI K H a xs->mD K H xs ds->jV K H (.ref a) (.list ds)
 | tup {a:Addr}{xs:List V}{ds:List PyData}:bW K H a xs->mD K H xs ds->jV K H (.ref a) (.tuple ds)
inductive mD (K:PySem.W.Frag)(H:Hp):List V->List PyData->Prop
 | nil:mD K H [] []
 | cons {x:V}{d:PyData}{xs:List V}{ds:List PyData}:jV K H x d->mD K H xs ds->mD K H (x::xs) (d::ds)
end
section
variable {X:Cx}{pins:List (Addr×Obj)}{σ:St}{H:Hp}{s:Shared}
mutual
theorem Inv.reads (I:Inv X pins σ H s):∀ {v:V}{d:PyData}{u:Value},jV X.K H v d->RelV v u->∃ as,Reads s.heap u d as
 | _,_,_,.aY,r=>by cases r;exact ⟨_,.none⟩
 | _,_,_,.bl b,r=>by cases r;exact ⟨_,.bool b⟩
 | _,_,_,.int i,r=>by obtain ⟨t,rfl⟩:=r;exact ⟨_,.int i t⟩
 | _,_,_,.str x,r=>by obtain ⟨t,rfl⟩:=r;exact ⟨_,.str x t⟩
 | _,_,_,.lst hq hs,r=>by
  cases r;obtain ⟨its,rv,p,_⟩:=I.list hq;obtain ⟨as,ra⟩:=I.readsAll hs rv;obtain ⟨o,ho,hc,n,hd⟩:=p.isList;exact ⟨_,.list ho hc hd (by simpa using ra)⟩
 | _,_,_,.tup hq hs,r=>by
  cases r;obtain ⟨its,rv,p,_⟩:=I.tuple hq;obtain ⟨as,ra⟩:=I.readsAll hs rv;obtain ⟨o,ho,hc,n,hd⟩:=(show s.heap.IsTuple _ its.toArray from p)
  exact ⟨_,.tuple ho hc hd (by simpa using ra)⟩
theorem Inv.readsAll (I:Inv X pins σ H s):∀ {vs:List V}{ds:List PyData}{us:List Value},mD X.K H vs ds->Vals vs us->∃ as,ReadsAll s.heap us ds as
 | _,_,_,.nil,r=>by cases r;exact ⟨_,.nil⟩
 | _,_,_,.cons h hs,r=>by
  cases r with
  | cons r1 r2 =>
   obtain ⟨as,ra⟩:=I.reads h r1;obtain ⟨bs,rb⟩:=I.readsAll hs r2;exact ⟨_,.cons ra rb⟩
end
inductive FY (K:PySem.W.Frag)(neg:Bool) (x:V) (y:V)(H:Hp)(Q:VK):Prop
 | mk:∀ d e,(jV K H x d)->(jV K H y e)->(shaped d=true)->(shaped e=true)->(noMix d e=true)->(Q (.bl (if neg then !same d e else same d e)) H)->FY K neg x y H Q
def D9 (K:PySem.W.Frag)(neg:Bool):R2:=fun x y H Q=>FY K neg x y H Q
def Jg (hu:X.A.units + 64 < cLine):bG X (compareOp .Eq) (D9 X.K false):=by
 intro pins s σ H x y v u Q I rx ry h;obtain ⟨d,e,h1,h2,s1,s2,nm,q⟩:=h;obtain ⟨as,ra⟩:=I.reads h1 rx;obtain ⟨bs,rb⟩:=I.reads h2 ry;exact eq_dataH_same ra rb s1 s2 hu nm ⟨.bl _,H,I,rfl,q⟩
def IK (hu:X.A.units + 64 < cLine):bG X (compareOp .NotEq) (D9 X.K true):=by
 intro pins s σ H x y v u Q I rx ry h;obtain ⟨d,e,h1,h2,s1,s2,nm,q⟩:=h;obtain ⟨as,ra⟩:=I.reads h1 rx;obtain ⟨bs,rb⟩:=I.reads h2 ry;exact ne_dataH_same ra rb s1 s2 hu nm ⟨.bl _,H,I,rfl,q⟩
end
end L2
namespace L2
open PySem PySem.Spec PyProof.Rows PySem.W Builtin Builtin.ObjectAttr
section
variable {prog:Program}{w:World}{A:Around}{E:Value->Shared->Prop}{s:Shared}{K:Frag}{x C:Addr}{ox:Obj}{od:Option Obj}{name:Str}{v:Value}{tk:Tok}{fill expr:Bool}
end
section
variable {X:Cx}{pins:List (Addr×Obj)}{σ:St}{H:Hp}{s:Shared}{a C:Addr}
end
section
variable {X:Cx}{pins:List (Addr×Obj)}{σ:St}{H:Hp}{s:Shared}{a C:Addr}{dd:Option Addr}
def Ez:cj X (.builtin "isinstance") (fun xs H Q=>∃ x c t b,xs=[x,c]/\fL X.K H x t/\(∀ u,RelV c u->kitOne X.K t u=some b)/\Q (.bl b) H):=by
 intro pins s σ H xs us Q I r h;obtain ⟨x,c,t,b,rfl,ty,k,q⟩:=h;obtain ⟨u1,u2,rfl,ru1,ru2⟩:=r.two;exact AZ I ru1 ty (k u2 ru2) fun tk=>⟨.bl b,H,I.tok tk,rfl,q⟩
variable {o e value:Expr}{f y:Str}{pos pos' yp apos:Pos}{ta tv:TE}{es:List Expr}{t:TA}
end
end L2
namespace L2
open PySem PySem.Spec PyProof.Rows
def bA {H:Hp}{a:Addr}{o:HO}(h:H a=none):af H (upd H a o):=fun b u e=>by rw [ai (fD e h)];exact e
end L2
namespace Dv
open PySem L2 PySem.W
def aO:Key->PyData
 | .inl i=>.int i
 | .inr x=>.str x
def b9 (K:Frag)(H:Hp)(a:Addr)(xs:List V):Prop:=Rd H a (.lst xs)\/∃ (its:List Value) (n:Nat),K.lookup a=some { cls:=.type "list",data:=.seq its.toArray n }/\its.length<=sizeLine/\Vals xs its
def Rd.mono {H H':Hp}{a:Addr}{u:HO}(s:af H H'):Rd H a u->Rd H' a u
 | .inl h=>.inl (s _ _ h)
 | .inr ⟨o,h⟩=>.inr ⟨o,s _ _ h⟩
theorem b9.mono {K:Frag}{H H':Hp}{a:Addr}{xs:List V}(s:af H H'):b9 K H a xs->b9 K H' a xs
 | .inl h=>.inl (Rd.mono s h)
 | .inr h=>.inr h
def b9.sq {K:Frag}{H:Hp}{a:Addr}{xs:List V}(h:b9 K H a xs):bI K H a xs:=by
 rcases h with h | ⟨its,n,hk,hl,r⟩
 ·exact .inl h
 ·exact .inr ⟨_,its.toArray,n,hk,rfl,rfl,rfl,by rw [OJ];exact hl,by simpa using r⟩
theorem b9.get {X:Cx}{pins:List (Addr×Obj)}{σ:St}{H:Hp}{s:Shared}{a:Addr}{xs:List V}(I:L2.Inv X pins σ H s)(h:b9 X.K H a xs):xs.length<=sizeLine/\∃ its n,Vals xs its/\s.heap.get? a=some { cls:=.type "list",data:=.seq its.toArray n }:=by
 rcases h with h | ⟨its,n,hk,hl,r⟩
 ·obtain ⟨z,its,n,r,e⟩:=h.ok I.hok;exact ⟨z,its,n,r,e⟩
 ·exact ⟨by rw [r.length];exact hl,its,n,r,I.fE a _ hk⟩
mutual
inductive Rp (K:Frag)(H:Hp):V->PyData->Prop
 | aY:Rp K H .aY .none
 | bl (b:Bool):Rp K H (.bl b) (.bool b)
 | int (i:Int):Rp K H (.int i) (.int i)
 | str (x:Str):Rp K H (.str x) (.str x)
 | lst {a:Addr}{xs:List V}{ds:List PyData}:b9 K H a xs->au K H xs ds->Rp K H (.ref a) (.list ds)
 | tup {a:Addr}{xs:List V}{ds:List PyData}:H a=some (.tup xs)->au K H xs ds->Rp K H (.ref a) (.tuple ds)
 | dk {a:Addr}{kvs:List (Key×V)}{ds:List (PyData×PyData)}:H a=some (.dK kvs)->cW K H kvs ds->Rp K H (.ref a) (.dict ds)
 | dt {a:Addr}{kvs:List (List Key×V)}{ds:List (PyData×PyData)}:H a=some (.dT kvs)->dY K H kvs ds->Rp K H (.ref a) (.dict ((.none,.none)::ds))
inductive au (K:Frag)(H:Hp):List V->List PyData->Prop
 | nil:au K H [] []
 | cons {x:V}{d:PyData}{xs:List V}{ds:List PyData}:Rp K H x d->au K H xs ds->au K H (x::xs) (d::ds)
inductive cW (K:Frag)(H:Hp):List (Key×V)->List (PyData×PyData)->Prop
 | nil:cW K H [] []
 | cons {k:Key}{v:V}{d:PyData}{kvs:List (Key×V)}{ds:List (PyData×PyData)}:Rp K H v d->cW K H kvs ds->cW K H ((k,v)::kvs) ((aO k,d)::ds)
inductive dY (K:Frag)(H:Hp):List (List Key×V)->List (PyData×PyData)->Prop
 | nil:dY K H [] []
 | cons {k:List Key}{v:V}{d:PyData}{kvs:List (List Key×V)}{ds:List (PyData×PyData)}:Rp K H v d->dY K H kvs ds->dY K H ((k,v)::kvs) ((.tuple (k.map aO),d)::ds)
end
mutual
theorem Rp.mono {K:Frag}{H H':Hp}(s:af H H'):∀ {v:V}{d:PyData},Rp K H v d->Rp K H' v d
 | _,_,.aY=>.aY
 | _,_,.bl b=>.bl b
 | _,_,.int i=>.int i
 | _,_,.str x=>.str x
 | _,_,.lst h r=>.lst (b9.mono s h) (r.mono s)
 | _,_,.tup h r=>.tup (s _ _ h) (r.mono s)
 | _,_,.dk h r=>.dk (s _ _ h) (r.mono s)
 | _,_,.dt h r=>.dt (s _ _ h) (r.mono s)
theorem au.mono {K:Frag}{H H':Hp}(s:af H H'):∀ {vs:List V}{ds:List PyData},au K H vs ds->au K H' vs ds
 | _,_,.nil=>.nil
 | _,_,.cons h r=>.cons (h.mono s) (r.mono s)
theorem cW.mono {K:Frag}{H H':Hp}(s:af H H'):∀ {kvs:List (Key×V)}{ds:List (PyData×PyData)},cW K H kvs ds->cW K H' kvs ds
 | _,_,.nil=>.nil
 | _,_,.cons h r=>.cons (h.mono s) (r.mono s)
theorem dY.mono {K:Frag}{H H':Hp}(s:af H H'):∀ {kvs:List (List Key×V)}{ds:List (PyData×PyData)},dY K H kvs ds->dY K H' kvs ds
 | _,_,.nil=>.nil
 | _,_,.cons h r=>.cons (h.mono s) (r.mono s)
end
def nd:PyData->Bool
 | .list ds=>nds ds
 | .tuple ds=>nds ds
 | .dict _=>false
 | _=>true
where nds:List PyData->Bool
 | []=>true
 | d::ds=>nd d && nds ds
mutual
theorem Rp.lF {K:Frag}{H:Hp}:∀ {v:V}{d:PyData},Rp K H v d->nd d=true->jV K H v d
 | _,_,.aY,_=>.aY
 | _,_,.bl b,_=>.bl b
 | _,_,.int i,_=>.int i
 | _,_,.str x,_=>.str x
 | _,_,.lst h r,e=>.lst h.sq (r.lF (by rw [nd] at e;exact e))
 | _,_,.tup h r,e=>.tup (bW.of h) (r.lF (by rw [nd] at e;exact e))
 | _,_,.dk _ _,e=>by rw [nd] at e;cases e
 | _,_,.dt _ _,e=>by rw [nd] at e;cases e
theorem au.lF {K:Frag}{H:Hp}:∀ {vs:List V}{ds:List PyData},au K H vs ds->nd.nds ds=true->mD K H vs ds
 | _,_,.nil,_=>.nil
 | _,_,.cons h r,e=>by
  rw [nd.nds,OA] at e;exact .cons (h.lF e.1) (r.lF e.2)
end
def kj (H H':Hp):Prop:=∀ a xs,H a=some (.tup xs)->H' a=some (.tup xs)
mutual
theorem Rp.lf {K:Frag}{H H':Hp}(s:kj H H'):∀ {v:V}{d:PyData},Rp K H v d->Dv.lf d=true->Rp K H' v d
 | _,_,.aY,_=>.aY
 | _,_,.bl b,_=>.bl b
 | _,_,.int i,_=>.int i
 | _,_,.str x,_=>.str x
 | _,_,.lst h r,e=>by rw [Dv.lf] at e;cases e
 | _,_,.tup h r,e=>by
  rw [Dv.lf] at e;exact .tup (s _ _ h) (r.lf s e)
 | _,_,.dk _ _,e=>by rw [Dv.lf] at e;cases e
 | _,_,.dt _ _,e=>by rw [Dv.lf] at e;cases e
theorem au.lf {K:Frag}{H H':Hp}(s:kj H H'):∀ {vs:List V}{ds:List PyData},au K H vs ds->Dv.lf.lfs ds=true->au K H' vs ds
 | _,_,.nil,_=>.nil
 | _,_,.cons h r,e=>by
  rw [Dv.lf.lfs,OA] at e;exact .cons (h.lf s e.1) (r.lf s e.2)
end
section
variable {K:Frag}{H:Hp}
theorem au.len:∀ {vs:List V}{ds:List PyData},au K H vs ds->vs.length=ds.length
 | _,_,.nil=>rfl
 | _,_,.cons _ r=>congrArg (· + 1) r.len
theorem au.get:∀ {vs:List V}{ds:List PyData}{i:Nat}{d:PyData},au K H vs ds->ds[i]?=some d->∃ v,vs[i]?=some v/\Rp K H v d
 | _,_,_,_,.nil,e=>by simp at e
 | _,_,0,_,.cons h _,e=>by simp at e;subst e;exact ⟨_,rfl,h⟩
 | _,_,i + 1,_,.cons _ r,e=>r.get (i:=i) (by simpa using e)
theorem au.DA:∀ {vs:List V}{ds:List PyData}{i:Nat}{v:V},au K H vs ds->vs[i]?=some v->∃ d,ds[i]?=some d/\Rp K H v d
 | _,_,_,_,.nil,e=>by simp at e
 | _,_,0,_,.cons h _,e=>by simp at e;subst e;exact ⟨_,rfl,h⟩
 | _,_,i + 1,_,.cons _ r,e=>r.DA (i:=i) (by simpa using e)
theorem au.app:∀ {vs us:List V}{ds es:List PyData},au K H vs ds->au K H us es->au K H (vs++us) (ds++es)
 | _,_,_,_,.nil,s=>s
 | _,_,_,_,.cons h r,s=>.cons h (r.app s)
def au.snoc {vs:List V}{ds:List PyData}{v:V}{d:PyData}(r:au K H vs ds)(h:Rp K H v d):au K H (vs++[v]) (ds++[d]):=r.app (.cons h .nil)
theorem au.take:∀ {vs:List V}{ds:List PyData} (n:Nat),au K H vs ds->au K H (vs.take n) (ds.take n)
 | _,_,0,_=>.nil
 | _,_,_ + 1,.nil=>.nil
 | _,_,n + 1,.cons h r=>.cons h (r.take n)
theorem au.drop:∀ {vs:List V}{ds:List PyData} (n:Nat),au K H vs ds->au K H (vs.drop n) (ds.drop n)
 | _,_,0,r=>r
 | _,_,_ + 1,.nil=>.nil
 | _,_,n + 1,.cons _ r=>r.drop n
theorem au.set {v:V}{d:PyData}(h:Rp K H v d):∀ {vs:List V}{ds:List PyData} (i:Nat),au K H vs ds->au K H (vs.set i v) (ds.set i d)
 | _,_,_,.nil=>.nil
 | _,_,0,.cons _ r=>.cons h r
 | _,_,i + 1,.cons g r=>.cons g (r.set h i)
theorem au.rev:∀ {vs:List V}{ds:List PyData},au K H vs ds->au K H vs.reverse ds.reverse
 | _,_,.nil=>.nil
 | _,_,.cons h r=>by rw [List.reverse_cons,List.reverse_cons];exact r.rev.snoc h
end
inductive dP (K:Frag)(H Hm:Hp):List V->List PyData->List Addr->Prop
 | nil:dP K H Hm [] [] []
 | jI {x:V}{d:PyData}{xs:List V}{ds:List PyData}{fp:List Addr}:Bq d=false->Rp K Hm x d->dP K H Hm xs ds fp->dP K H Hm (x::xs) (d::ds) fp
 | own {b:Addr}{ys:List V}{es:List PyData}{xs:List V}{ds:List PyData}{fp:List Addr}:H b=some (.lst ys)->au K Hm ys es->b∉fp->dP K H Hm xs ds fp->dP K H Hm (.ref b::xs) (.list es::ds) (b::fp)
inductive iT (K:Frag)(H Hm:Hp):List (List Key×V)->List (PyData×PyData)->List Addr->Prop
 | nil:iT K H Hm [] [] []
 | own {k:List Key}{b:Addr}{ys:List V}{es:List PyData}{kvs:List (List Key×V)}{ds:List (PyData×PyData)}{fp:List Addr}:H b=some (.lst ys)->au K Hm ys es->b∉fp->iT K H Hm kvs ds fp->iT K H Hm ((k,.ref b)::kvs) ((.tuple (k.map aO),.list es)::ds) (b::fp)
inductive Own (K:Frag)(H Hm:Hp):Kd->V->PyData->List Addr->Prop
 | sh {v:V}{d:PyData}:Rp K Hm v d->Own K H Hm .sh v d []
 | ow {p:Bool}{a:Addr}{xs:List V}{ds:List PyData}:H a=some (.lst xs)->au K Hm xs ds->Own K H Hm (.ow p) (.ref a) (.list ds) [a]
 | dp {p:Bool}{a:Addr}{xs:List V}{ds:List PyData}{fp:List Addr}:H a=some (.lst xs)->a∉fp->dP K H Hm xs ds fp->Own K H Hm (.dp p) (.ref a) (.list ds) (a::fp)
 | dk {p:Bool}{a:Addr}{kvs:List (Key×V)}{ds:List (PyData×PyData)}:H a=some (.dK kvs)->cW K Hm kvs ds->Own K H Hm (.dk p) (.ref a) (.dict ds) [a]
 | dt {p:Bool}{a:Addr}{kvs:List (List Key×V)}{ds:List (PyData×PyData)}:H a=some (.dT kvs)->dY K Hm kvs ds->Own K H Hm (.dt p) (.ref a) (.dict ((.none,.none)::ds)) [a]
 | st {p:Bool}{a:Addr}{kvs:List (List Key×V)}{ds:List (PyData×PyData)}{fp:List Addr}:H a=some (.dT kvs)->a∉fp->iT K H Hm kvs ds fp->Own K H Hm (.st p) (.ref a) (.dict ((.none,.none)::ds)) (a::fp)
section
variable {K:Frag}{H H' Hm Hm':Hp}
theorem dP.step (s:af Hm Hm'):∀ {xs:List V}{ds:List PyData}{fp:List Addr},dP K H Hm xs ds fp->(∀ a∈fp,H' a=H a)->dP K H' Hm' xs ds fp
 | _,_,_,.nil,_=>.nil
 | _,_,_,.jI e r t,h=>.jI e (r.mono s) (t.step s h)
 | _,_,_,.own e r n t,h=>.own ((h _ N9).trans e) (r.mono s) n (t.step s fun a ha=>h a (O6 _ ha))
theorem dP.live:∀ {xs:List V}{ds:List PyData}{fp:List Addr},dP K H Hm xs ds fp->∀ a∈fp,∃ ys,H a=some (.lst ys)
 | _,_,_,.nil,_,h=>by cases h
 | _,_,_,.jI _ _ t,a,h=>t.live a h
 | _,_,_,.own e _ _ t,a,h=>by
  rcases O9.mp h with rfl | h
  ·exact ⟨_,e⟩
  ·exact t.live a h
theorem iT.step (s:af Hm Hm'):∀ {xs:List (List Key×V)}{ds:List (PyData×PyData)}{fp:List Addr},iT K H Hm xs ds fp->(∀ a∈fp,H' a=H a)->iT K H' Hm' xs ds fp
 | _,_,_,.nil,_=>.nil
 | _,_,_,.own e r n t,h=>.own ((h _ N9).trans e) (r.mono s) n (t.step s fun a ha=>h a (O6 _ ha))
theorem iT.live:∀ {xs:List (List Key×V)}{ds:List (PyData×PyData)}{fp:List Addr},iT K H Hm xs ds fp->∀ a∈fp,∃ ys,H a=some (.lst ys)
 | _,_,_,.nil,_,h=>by cases h
 | _,_,_,.own e _ _ t,a,h=>by
  rcases O9.mp h with rfl | h
  ·exact ⟨_,e⟩
  ·exact t.live a h
theorem Own.step {k:Kd}{v:V}{d:PyData}{fp:List Addr}(o:Own K H Hm k v d fp)(s:af Hm Hm')(h:∀ a∈fp,H' a=H a):Own K H' Hm' k v d fp:=by
 cases o with
 | sh r=>exact .sh (r.mono s)
 | ow e r=>exact .ow ((h _ N9).trans e) (r.mono s)
 | dp e n t=>exact .dp ((h _ N9).trans e) n (t.step s fun a ha=>h a (O6 _ ha))
 | dk e r=>exact .dk ((h _ N9).trans e) (r.mono s)
 | dt e r=>exact .dt ((h _ N9).trans e) (r.mono s)
 | st e n t=>exact .st ((h _ N9).trans e) n (t.step s fun a ha=>h a (O6 _ ha))
def oX (u:HO):Prop:=∀ xs,u≠.tup xs
def jY {xs:List V}:oX (.lst xs):=fun _ z=>by cases z
def qv {xs:List (Key×V)}:oX (.dK xs):=fun _ z=>by cases z
def pB {xs:List (List Key×V)}:oX (.dT xs):=fun _ z=>by cases z
theorem Own.live {k:Kd}{v:V}{d:PyData}{fp:List Addr}(o:Own K H Hm k v d fp):∀ a∈fp,∃ u,H a=some u/\oX u:=by
 intro a ha;cases o with
 | sh _=>cases ha
 | ow e _=>rw [O8.mp ha];exact ⟨_,e,by first | exact jY | exact qv | exact pB⟩
 | dp e _ t =>
  rcases O9.mp ha with rfl | ha
  ·exact ⟨_,e,by first | exact jY | exact qv | exact pB⟩
  ·obtain ⟨ys,e⟩:=t.live a ha;exact ⟨_,e,by first | exact jY | exact qv | exact pB⟩
 | dk e _=>rw [O8.mp ha];exact ⟨_,e,by first | exact jY | exact qv | exact pB⟩
 | dt e _=>rw [O8.mp ha];exact ⟨_,e,by first | exact jY | exact qv | exact pB⟩
 | st e _ t =>
  rcases O9.mp ha with rfl | ha
  ·exact ⟨_,e,by first | exact jY | exact qv | exact pB⟩
  ·obtain ⟨ys,e⟩:=t.live a ha;exact ⟨_,e,by first | exact jY | exact qv | exact pB⟩
theorem dP.Dg (s:af Hm Hm'):∀ {xs:List V}{ds:List PyData}{fp:List Addr},dP K H Hm xs ds fp->(∀ a∈fp,Hm' a=H a)->au K Hm' xs ds
 | _,_,_,.nil,_=>.nil
 | _,_,_,.jI _ r t,h=>.cons (r.mono s) (t.Dg s h)
 | _,_,_,.own e r _ t,h=>.cons (.lst (.inl (.inl ((h _ N9).trans e))) (r.mono s)) (t.Dg s fun a ha=>h a (O6 _ ha))
def Own.rp {k:Kd}{v:V}{d:PyData}{fp:List Addr}(o:Own K H Hm k v d fp)(hk:k.rd=true)(s:af Hm Hm')(h:∀ a∈fp,Hm' a=H a):Rp K Hm' v d:=by
 cases o with
 | sh r=>exact r.mono s
 | ow e r=>exact .lst (.inl (.inl ((h _ N9).trans e))) (r.mono s)
 | dp e _ t=>exact .lst (.inl (.inl ((h _ N9).trans e))) (t.Dg s fun a ha=>h a (O6 _ ha))
 | dk e r=>exact .dk ((h _ N9).trans e) (r.mono s)
 | dt e r=>exact .dt ((h _ N9).trans e) (r.mono s)
 | st _ _ _=>cases hk
def au.uE (s:kj Hm Hm'){xs:List V}{ds:List PyData}(r:au K Hm xs ds)(h:ds.all Dv.lf=true):au K Hm' xs ds:=r.lf s (by rw [oE];exact h)
theorem dP.flat (s:kj Hm Hm'):∀ {xs:List V}{ds:List PyData}{fp:List Addr},dP K H Hm xs ds fp->(ds.all fun d=>match d with | .list es=>es.all Dv.lf | d=>Dv.lf d)=true->dP K H Hm' xs ds fp
 | _,_,_,.nil,_=>.nil
 | _,_,_,.jI (d:=d) e r t,h=>by
  rw [OH,OA] at h;refine .jI e (r.lf s ?_) (t.flat s h.2);have h1:=h.1;cases d <;> first | exact h1 | cases e
 | _,_,_,.own e r n t,h=>by
  rw [OH,OA] at h;exact .own e (r.uE s h.1) n (t.flat s h.2)
theorem cW.flat (s:kj Hm Hm'):∀ {kvs:List (Key×V)}{ds:List (PyData×PyData)},cW K Hm kvs ds->(ds.all fun kv=>Dv.lf kv.2)=true->cW K Hm' kvs ds
 | _,_,.nil,_=>.nil
 | _,_,.cons r t,h=>by
  rw [OH,OA] at h;exact .cons (r.lf s h.1) (t.flat s h.2)
theorem dY.flat (s:kj Hm Hm'):∀ {kvs:List (List Key×V)}{ds:List (PyData×PyData)},dY K Hm kvs ds->(ds.all fun kv=>Dv.lf kv.2)=true->dY K Hm' kvs ds
 | _,_,.nil,_=>.nil
 | _,_,.cons r t,h=>by
  rw [OH,OA] at h;exact .cons (r.lf s h.1) (t.flat s h.2)
theorem Own.flat {k:Kd}{v:V}{d:PyData}{fp:List Addr}(o:Own K H Hm k v d fp)(s:kj Hm Hm')(h:Dv.flat k d=true):Own K H Hm' k v d fp:=by
 cases o with
 | sh r=>exact .sh (r.lf s h)
 | ow e r=>exact .ow e (r.uE s h)
 | dp e n t=>exact .dp e n (t.flat s h)
 | dk e r=>exact .dk e (r.flat s h)
 | dt e r =>
  have h:(Dv.lf .none && _)=true:=h;rw [OA] at h;exact .dt e (r.flat s h.2)
 | st _ _ _=>cases h
end
def OE (o p:Option HO):Prop:=o=p\/(p=none/\∃ xs,o=some (.tup xs))
def OE.rfl' {o:Option HO}:OE o o:=.inl rfl
def OE.trans {a b c:Option HO}(h:OE a b)(k:OE b c):OE a c:=by
 rcases h with rfl | ⟨rfl,h⟩
 ·exact k
 ·rcases k with rfl | ⟨rfl,_⟩
  ·exact .inr ⟨rfl,h⟩
  ·exact .inr ⟨rfl,h⟩
def OE.off {Hm H:Hp}{a:Addr}{p:Option HO}{u:HO}(h:OE (Hm a) p)(hp:p=none)(s:af Hm H)(hu:H a=some u)(nt:oX u):Hm a=none:=by
 rcases h with e | ⟨_,xs,e⟩
 ·rw [e,hp]
 ·have:=s _ _ e;rw [hu] at this;cases this;exact absurd rfl (nt xs)
structure Gh where
 H0:Hp
 cY:Hp
 pins:List (Nat×Addr)
def Gh.M (g:Gh):List Addr:=g.pins.map (·.2)
structure Rl (K:Frag)(g:Gh)(E:En)(σ:St)(H Hm:Hp)(F:Nat->List Addr):Prop where
 len:E.length=σ.length
 sub:af Hm H
 slot:∀ i k d,E[i]?=some (some (k,d))->∃ v,σ[i]?=some (some v)/\Own K H Hm k v d (F i)
 off:∀ i a,a∈F i->Hm a=none
 bx:∀ i a,a∈F i->∃ u,H a=some u/\oX u
 aD:∀ i j a,a∈F i->a∈F j->i=j
 fr:∀ p o,p∉g.M->g.H0 p=some o->H p=some o
 new:∀ i a,a∈F i->a∈g.M\/g.H0 a=none
 pin:∀ q∈g.pins,σ[q.1]?=some (some (.ref q.2))/\∃ ds,E[q.1]?=some (some (.ow true,.list ds))
 old:∀ a,g.H0 a≠none->OE (Hm a) (g.cY a)
structure Tm (K:Frag)(g:Gh)(F:Nat->List Addr)(H Hm:Hp)(k:Kd) (v:V)(d:PyData)(fp:List Addr):Prop where
 own:Own K H Hm k v d fp
 off:∀ a∈fp,Hm a=none
 aD:∀ a∈fp,∀ i,a∉F i
 new:∀ a∈fp,g.H0 a=none
section
variable {K:Frag}{g:Gh}{E:En}{σ:St}{H H' Hm Hm':Hp}{F:Nat->List Addr}
def Rl.grow (R:Rl K g E σ H Hm F)(h:af H H')(s:af Hm Hm')(b:af Hm' H')(o:∀ i a,a∈F i->Hm' a=none)(od:∀ a,g.H0 a≠none->OE (Hm' a) (Hm a)):Rl K g E σ H' Hm' F where
 len:=R.len
 sub:=b
 slot:=fun i k d e=>by
  obtain ⟨v,h1,h2⟩:=R.slot i k d e;refine ⟨v,h1,h2.step s fun a ha=>?_⟩
  obtain ⟨u,hu,_⟩:=h2.live a ha;rw [hu];exact h _ _ hu
 off:=o
 bx:=fun i a ha=>let ⟨u,hu,n⟩:=R.bx i a ha;⟨u,h _ _ hu,n⟩
 aD:=R.aD
 fr:=fun p o hp ho=>h _ _ (R.fr p o hp ho)
 new:=R.new
 pin:=R.pin
 old:=fun a ha=>(od a ha).trans (R.old a ha)
def Rl.more (R:Rl K g E σ H Hm F)(s:af Hm Hm')(b:af Hm' H)(o:∀ i a,a∈F i->Hm' a=none)(od:∀ a,g.H0 a≠none->OE (Hm' a) (Hm a)):Rl K g E σ H Hm' F:=R.grow (af.refl _) s b o od
def Rl.zY (R:Rl K g E σ H Hm F){q:Nat×Addr}(hq:q∈g.pins):F q.1=[q.2]:=by
 obtain ⟨h1,ds,h2⟩:=R.pin q hq;obtain ⟨v,h3,h4⟩:=R.slot _ _ _ h2;rw [h1] at h3;cases h3;generalize F q.1=fi at h4;cases h4;rfl
def Rl.notM (R:Rl K g E σ H Hm F){i:Nat}{k:Kd}{d:PyData}(e:E[i]?=some (some (k,d)))(hk:k.pin=false){a:Addr}(ha:a∈F i):g.H0 a=none:=by
 rcases R.new i a ha with m | m
 ·obtain ⟨q,hq,rfl⟩:=OI.mp m;have:=R.aD i q.1 q.2 ha (by rw [R.zY hq];exact N9)
  obtain ⟨_,ds,h2⟩:=R.pin q hq;rw [<- this,e] at h2;cases h2;cases hk
 ·exact m
def Rl.LO (R:Rl K g E σ H Hm F){a:Addr}(ha:a∈g.M):H a≠none:=fun z=>by
 obtain ⟨q,hq,rfl⟩:=OI.mp ha;obtain ⟨u,hu,_⟩:=R.bx q.1 q.2 (by rw [R.zY hq];exact N9)
 rw [z] at hu;cases hu
def Rl.qW (R:Rl K g E σ H Hm F){a:Addr}(ha:g.H0 a≠none):H a≠none:=fun z=>by
 by_cases m:a∈g.M
 ·exact R.LO m z
 ·cases e:g.H0 a with
  | none=>exact ha e
  | some o=>rw [R.fr a o m e] at z;cases z
def Rl.fresh (R:Rl K g E σ H Hm F){p:Addr}(h:H p=none){i:Nat}:p∉F i:=fun z=>by
 obtain ⟨u,hu,_⟩:=R.bx i p z;rw [h] at hu;cases hu
def Rl.jK (R:Rl K g E σ H Hm F){p:Addr}(h:H p=none):Hm p=none:=by
 cases e:Hm p with
 | none=>rfl
 | some o=>rw [R.sub _ _ e] at h;cases h
def Rl.dW (R:Rl K g E σ H Hm F){p:Addr}(h:H p=none):g.H0 p=none:=by
 cases e:g.H0 p with
 | none=>rfl
 | some o=>exact absurd h (R.qW (by rw [e];simp))
end
open Classical in
noncomputable def lend (Hm H:Hp)(fp:List Addr):Hp:=fun a=>if a∈fp then H a else Hm a
open Classical in
noncomputable def back (Hm:Hp)(fp:List Addr):Hp:=fun a=>if a∈fp then none else Hm a
section
variable {Hm H:Hp}{fp:List Addr}{a:Addr}
def dD (h:a∈fp):lend Hm H fp a=H a:=by unfold lend;rw [if_pos h]
def cz (h:a∉fp):lend Hm H fp a=Hm a:=by unfold lend;rw [if_neg h]
def iy (h:a∈fp):back Hm fp a=none:=by unfold back;rw [if_pos h]
def cQ (h:a∉fp):back Hm fp a=Hm a:=by unfold back;rw [if_neg h]
def gi (n:∀ a∈fp,Hm a=none):af Hm (lend Hm H fp):=fun b o e=>by
 have:b∉fp:=fun z=>by rw [n b z] at e;cases e
 rw [cz this];exact e
def ir (s:af Hm H):af (lend Hm H fp) H:=fun b o e=>by
 by_cases h:b∈fp
 ·rw [dD h] at e;exact e
 ·rw [cz h] at e;exact s _ _ e
def uy (s:af Hm H):af (back Hm fp) H:=fun b o e=>by
 by_cases h:b∈fp
 ·rw [iy h] at e;cases e
 ·rw [cQ h] at e;exact s _ _ e
end
section
variable {K:Frag}{g:Gh}{E:En}{σ:St}{H H' Hm Hm':Hp}{F:Nat->List Addr}{k:Kd}{v:V}{d:PyData}{fp:List Addr}
def Tm.bY (T:Tm K g F H Hm k v d fp)(R:Rl K g E σ H Hm F)(hk:k.fz=true):∃ Hm',af Hm Hm'/\Rl K g E σ H Hm' F/\Rp K Hm' v d:=by
 have up:=gi (Hm:=Hm) (H:=H) T.off;refine ⟨lend Hm H fp,up,R.more up (ir R.sub) (fun i a ha=>?_) fun a ha=>.inl (cz fun z=>ha (T.new a z)),T.own.rp (by cases k <;> first | rfl | cases hk) up fun a ha=>dD ha⟩
 rw [cz fun z=>T.aD a z i ha]
 exact R.off i a ha
def ay {α:Type}{l:List α}{i:Nat}{a:α}(h:i < l.length):(l.set i a)[i]?=some a:=by rw [List.getElem?_set];simp [h]
def aj {α:Type}{l:List α}{i j:Nat}{a:α}(h:i≠j):(l.set i a)[j]?=l[j]?:=by rw [List.getElem?_set];simp [h]
def Rl.put (R:Rl K g E σ H Hm F)(T:Tm K g F H Hm k v d fp){i:Nat}(o:bP E i=true):Rl K g (E.set i (some (k,d))) (σ.set i (some v)) H Hm (fun j=>if j=i then fp else F j) where
 len:=by rw [List.length_set,List.length_set];exact R.len
 sub:=R.sub
 slot:=fun j k' d' e=>by
  by_cases c:j=i
  ·subst c;have hl:j < E.length:=by
    rcases Nat.lt_or_ge j E.length with h | h
    ·exact h
    ·rw [List.getElem?_eq_none (by rw [List.length_set];exact h)] at e;cases e
   rw [ay hl] at e;cases e;exact ⟨v,ay (R.len ▸ hl),by rw [if_pos rfl];exact T.own⟩
  ·rw [aj (Ne.symm c)] at e;obtain ⟨u,h1,h2⟩:=R.slot j k' d' e;exact ⟨u,by rw [aj (Ne.symm c)];exact h1,by rw [if_neg c];exact h2⟩
 off:=fun j a ha=>by
  by_cases c:j=i
  ·rw [if_pos c] at ha;exact T.off a ha
  ·rw [if_neg c] at ha;exact R.off j a ha
 bx:=fun j a ha=>by
  by_cases c:j=i
  ·rw [if_pos c] at ha;exact T.own.live a ha
  ·rw [if_neg c] at ha;exact R.bx j a ha
 aD:=fun j l a h1 h2=>by
  by_cases c:j=i
  ·rw [if_pos c] at h1
   by_cases c':l=i
   ·rw [c,c']
   ·rw [if_neg c'] at h2;exact absurd h2 (T.aD a h1 l)
  ·rw [if_neg c] at h1
   by_cases c':l=i
   ·rw [if_pos c'] at h2;exact absurd h1 (T.aD a h2 j)
   ·rw [if_neg c'] at h2;exact R.aD j l a h1 h2
 fr:=R.fr
 new:=fun j a ha=>by
  by_cases c:j=i
  ·rw [if_pos c] at ha;exact .inr (T.new a ha)
  ·rw [if_neg c] at ha;exact R.new j a ha
 pin:=fun q hq=>by
  obtain ⟨h1,ds,h2⟩:=R.pin q hq;have c:i≠q.1:=fun z=>by
   unfold bP at o;rw [z,h2] at o;cases o
  exact ⟨by rw [aj c];exact h1,ds,by rw [aj c];exact h2⟩
 old:=R.old
theorem Tm.sh (h:Rp K Hm v d):Tm K g F H Hm .sh v d []:=⟨.sh h,(fun _ z=>by cases z),(fun _ z=>by cases z),fun _ z=>by cases z⟩
def Rl.chg (R:Rl K g E σ H Hm F){i:Nat}{p:Bool}{ds es:List PyData}{ys:List V}(e:E[i]?=some (some (.ow p,.list ds)))(r:au K Hm ys es):∃ a xs,σ[i]?=some (some (.ref a))/\H a=some (.lst xs)/\au K Hm xs ds/\Hm a=none/\Rl K g (E.set i (some (.ow p,.list es))) σ (upd H a (.lst ys)) Hm F:=by
 obtain ⟨v,h1,h2⟩:=R.slot i _ _ e;generalize hf:F i=fi at h2;cases h2 with
 | @ow _ a xs _ ha hr =>
  have ma:a∈F i:=by rw [hf];exact N9
  have na:=R.off i a ma;have up:∀ b,b≠a->upd H a (.lst ys) b=H b:=fun b hb=>ai hb
  have li:i < E.length:=by
   rcases Nat.lt_or_ge i E.length with h | h
   ·exact h
   ·rw [List.getElem?_eq_none h] at e;cases e
  refine ⟨a,xs,h1,ha,hr,na,?_⟩;exact {
   len:=by rw [List.length_set];exact R.len
   sub:=fun b o hb=>by
    have:b≠a:=fun z=>by rw [z,na] at hb;cases hb
    rw [up b this];exact R.sub b o hb
   slot:=fun j k' d' e'=>by
    by_cases c:j=i
    ·subst c;rw [ay li] at e';cases e';exact ⟨_,h1,by rw [hf];exact .ow aq r⟩
    ·rw [aj (Ne.symm c)] at e';obtain ⟨u,g1,g2⟩:=R.slot j k' d' e';refine ⟨u,g1,g2.step (af.refl _) fun b hb=>up b fun z=>c (R.aD j i a (z ▸ hb) ma)⟩
   off:=R.off
   bx:=fun j b hb=>by
    by_cases c:b=a
    ·rw [c];exact ⟨_,aq,jY⟩
    ·rw [up b c];exact R.bx j b hb
   aD:=R.aD
   fr:=fun q o hq ho=>by
    have:q≠a:=fun z=>by
     rcases R.new i a ma with y | y
     ·exact hq (z ▸ y)
     ·rw [z,y] at ho;cases ho
    rw [up q this];exact R.fr q o hq ho
   new:=R.new
   pin:=fun q hq=>by
    obtain ⟨g1,ds',g2⟩:=R.pin q hq
    by_cases c:i=q.1
    ·rw [<- c] at g1 g2 ⊢;rw [e] at g2;cases g2;exact ⟨g1,es,ay li⟩
    ·exact ⟨g1,ds',by rw [aj c];exact g2⟩
   old:=R.old }
theorem Rl.cg (R:Rl K g E σ H Hm F){i:Nat}{E':En}{d:PyData}{k:Kd}(e:E[i]?=some (some (k,d)))(h:Dv.cg E i=some E'):∃ v Hm' F',σ[i]?=some (some v)/\af Hm Hm'/\Rl K g E' σ H Hm' F'/\Rp K Hm' v d:=by
 unfold Dv.cg at h;rw [e] at h;have h:(if k.fz=true then some (E.set i (some (.sh,d))) else none)=some E':=h
 by_cases hk:k.fz=true
 ·rw [if_pos hk] at h;cases h;obtain ⟨v,h1,h2⟩:=R.slot i k d e;have up:=gi (Hm:=Hm) (H:=H) (fp:=F i) (R.off i);have rp:=h2.rp (by cases k <;> first | rfl | cases hk) up fun a ha=>dD ha
  have li:i < E.length:=by
   rcases Nat.lt_or_ge i E.length with h | h
   ·exact h
   ·rw [List.getElem?_eq_none h] at e;cases e
  refine ⟨v,lend Hm H (F i),fun j=>if j=i then [] else F j,h1,up,?_,rp⟩
  exact {
   len:=by rw [List.length_set];exact R.len
   sub:=ir R.sub
   slot:=fun j k' d' e'=>by
    by_cases c:j=i
    ·subst c;rw [ay li] at e';cases e';exact ⟨v,h1,by rw [if_pos rfl];exact .sh rp⟩
    ·rw [aj (Ne.symm c)] at e';obtain ⟨u,g1,g2⟩:=R.slot j k' d' e';exact ⟨u,g1,by rw [if_neg c];exact g2.step up fun _ _=>rfl⟩
   off:=fun j a ha=>by
    by_cases c:j=i
    ·rw [if_pos c] at ha;cases ha
    ·rw [if_neg c] at ha;rw [cz fun z=>c (R.aD j i a ha z)]
     exact R.off j a ha
   bx:=fun j a ha=>by
    by_cases c:j=i
    ·rw [if_pos c] at ha;cases ha
    ·rw [if_neg c] at ha;exact R.bx j a ha
   aD:=fun j l a g1 g2=>by
    by_cases c:j=i
    ·rw [if_pos c] at g1;cases g1
    ·rw [if_neg c] at g1
     by_cases c':l=i
     ·rw [if_pos c'] at g2;cases g2
     ·rw [if_neg c'] at g2;exact R.aD j l a g1 g2
   fr:=R.fr
   new:=fun j a ha=>by
    by_cases c:j=i
    ·rw [if_pos c] at ha;cases ha
    ·rw [if_neg c] at ha;exact R.new j a ha
   pin:=fun q hq=>by
    obtain ⟨g1,ds',g2⟩:=R.pin q hq;have c:i≠q.1:=fun z=>by
     rw [<- z,e] at g2;cases g2;cases hk
    exact ⟨g1,ds',by rw [aj c];exact g2⟩
   old:=fun a ha=>by
    rw [cz fun z=>ha (R.notM e (by cases k <;> first | rfl | (rename_i p;cases p <;> first | rfl | cases hk) | cases hk) z)]
    exact R.old a ha }
 ·rw [if_neg hk] at h;cases h
end
end Dv
namespace L2
open PySem PySem.Spec PyProof.Rows
def kB (h:Heap)(e C T:Addr)(dd:Option Addr):Prop :=
 ∃ (t0:Addr)(v2 v3 v4 v5:Value)(sl:Array (Option Value))(oT:Obj)(ts:Array Value),h.get? e=some ⟨.ref C,dd,.fields #[.ref t0,.ref T,v2,v3,v4,v5],sl⟩/\T≠e/\h.get? T=some oT/\oT.data=.fields ts/\ts[3]?=some .none
structure Way (fs:List Addr)(e T:Addr)(h h':Heap):Prop where
 keep:∀ b o,b≠e->b≠T->b∉fs->h.get? b=some o->h'.get? b=some o
 slot:∀ b o,b≠e->b≠T->h.get? b=some o->∃ sl,h'.get? b=some { o with slots:=sl }
section
variable {M:Model}{A:Around}{E:Value->Shared->Prop}{s:Shared}
def sU {base:Heap}{env:Env}{outer:List Env}{L e C t0 T0:Addr}{dd:Option Addr}{w1 v2 v3 v4 v5:Value}{sl0:Array (Option Value)}{head:Value}{hadNext:Bool}{Q:Unit->Shared->Prop}
  (hfr:A.frames=some (env::outer))(hl:s.heap.FunFrames base (env::outer))(hf:env.frame=some L)(he:s.heap.get? e=some ⟨.ref C,dd,.fields #[.ref t0,w1,v2,v3,v4,v5],sl0⟩)
  (q:∀ h' T,s.heap.get? T=none->Way (frs (env::outer)) e T s.heap h'->kB h' e C T dd->Q () { s with heap:=h' }) :
  wpAny M A (do let a <- frameOf env;let pl <- entryPlaceOf L hadNext;let b <- EntryCells.newEntry head a .none (rawInt L) .none pl;setField (.ref e) 1 b) (fun _ s'=>wpAny M A (setFlight (.ref e) none) Q E s') E s:=by
 have ene:e∉frs (env::outer):=fun hm=>by
  obtain ⟨_,o,ho,hnf⟩:=hl.mem hm;rw [he] at ho;cases ho;exact hnf _ rfl
 refine N8 (wpAny_frameOf_fun hfr hl hf fun h1 hs1=>N8 (wpAny_entryPlaceOf fun pl hpl=>?_))
 unfold EntryCells.newEntry newFields;refine N8 (wpAny_newObj_type ?_ (hpl.sizeOk5 _ _ _ _ _));have he1:h1.get? e=some ⟨.ref C,dd,.fields #[.ref t0,w1,v2,v3,v4,v5],sl0⟩:=(hs1.2.1 e ene).trans he;generalize hO:({ cls:=.type "traceback",dict:=none,data:=.fields ([head,.ref L,.none,rawInt L,.none]++(if pl.isEmpty then List.replicate 6 Value.none else pl)).toArray }:Obj)=oT
 have he2:=OF (h:=h1) oT he1;refine wpAny_setField he2 rfl (by show 1 < 6;decide) ?_
 have ne:h1.objs.size≠e:=Nat.ne_of_gt (OB he1);have hdT:oT.data=.fields ([head,.ref L,.none,rawInt L,.none]++(if pl.isEmpty then List.replicate 6 Value.none else pl)).toArray:=by rw [<- hO]
 have fr:oT.isFreed=false:=by rw [<- hO];rfl
 have he3:((h1.push oT).update e (Obj.mapFields (·.setIfInBounds 1 (Value.ref h1.objs.size)))).get? e=some ⟨.ref C,dd,.fields #[.ref t0,.ref h1.objs.size,v2,v3,v4,v5],sl0⟩:=Heap.get?_update_self _ he2 rfl;have hT3:((h1.push oT).update e (Obj.mapFields (·.setIfInBounds 1 (Value.ref h1.objs.size)))).get? h1.objs.size=some oT:=(Heap.get?_update_other _ _ (Ne.symm ne)).trans (Of h1 fr);unfold setFlight;refine N8 (wpAny_field he3 rfl (x:=.ref h1.objs.size) rfl ?_);rw [if_pos (show (Value.ref h1.objs.size != Value.none)=true by simp)]
 have sz:s.heap.objs.size=h1.objs.size:=hs1.1.symm;refine wpAny_setField hT3 hdT (by simp only [OJ,OR,List.length_cons,List.length_nil] <;> omega) (q _ h1.objs.size ?_ ⟨fun b o b1 b2 b3 hb=>?_,fun b o b1 b2 hb=>?_⟩ ?_)
 ·exact Heap.get?_none_of_le (Nat.le_of_eq sz)
 ·have hb1:h1.get? b=some o:=(hs1.2.1 b b3).trans hb;rw [Heap.get?_update_other _ _ (Ne.symm b2),Heap.get?_update_other _ _ (Ne.symm b1)];exact OF _ hb1
 ·obtain ⟨sl,hb1⟩:=hs1.2.2 b o hb;refine ⟨sl,?_⟩;rw [Heap.get?_update_other _ _ (Ne.symm b2),Heap.get?_update_other _ _ (Ne.symm b1)];exact OF _ hb1
 ·have dt:=Obj.data_mapFields hdT (·.setIfInBounds 3 ((none:Option Addr).elim Value.none fun f=>rawInt f))
  refine ⟨t0,v2,v3,v4,v5,sl0,_,_,?_,ne,Heap.get?_update_self _ hT3 (Obj.isFreed_of_fields dt),dt,?_⟩
  ·rw [Heap.get?_update_other _ _ ne];exact he3
  ·first | (simp;done) | (rcases hpl with rfl | ⟨_,_,_,_,_,_,_,rfl⟩ <;> simp)
def leave_new {base:Heap}{env:Env}{outer:List Env}{L e C t0:Addr}{dd:Option Addr}{v2 v3 v4 v5:Value}{sl0:Array (Option Value)}{Q:Unit->Shared->Prop}
  (hfr:A.frames=some (env::outer))(hl:s.heap.FunFrames base (env::outer))(hf:env.frame=some L)(he:s.heap.get? e=some ⟨.ref C,dd,.fields #[.ref t0,.none,v2,v3,v4,v5],sl0⟩)
  (q:∀ h' T,s.heap.get? T=none->Way (frs (env::outer)) e T s.heap h'->kB h' e C T dd->Q () { s with heap:=h' }):wpAny M A (leaving env (.ref e)) Q E s:=by
 unfold leaving noteFrame;simp only [hf];refine N8 (N8 (wpAny_field he rfl (x:=.none) rfl ?_));rw [if_neg (show ¬ ((Value.none != Value.none)=true) by decide)]
 exact sU (T0:=e) hfr hl hf he q
def Eu {base:Heap}{env:Env}{outer:List Env}{L e C T:Addr}{dd:Option Addr}{Q:Unit->Shared->Prop}
  (hfr:A.frames=some (env::outer))(hl:s.heap.FunFrames base (env::outer))(hf:env.frame=some L)(ho:kB s.heap e C T dd)
  (q:∀ h' T2,s.heap.get? T2=none->(∀ b o,b≠e->b≠T->b≠T2->b∉frs (env::outer)->s.heap.get? b=some o->h'.get? b=some o)->(∀ b o,b≠e->b≠T->b≠T2->s.heap.get? b=some o->∃ sl,h'.get? b=some { o with slots:=sl })->kB h' e C T2 dd->Q () { s with heap:=h' }):wpAny M A (leaving env (.ref e)) Q E s:=by
 obtain ⟨t0,v2,v3,v4,v5,sl0,oT,ts,he,hTe,hT,hdT,h3⟩:=ho;unfold leaving noteFrame;simp only [hf];refine N8 (N8 (wpAny_field he rfl (x:=.ref T) rfl ?_));rw [if_pos (show (Value.ref T != Value.none)=true by simp)]
 refine N8 (wpAny_field hT hdT h3 ?_);rw [if_neg (show ¬ ((Value.none == rawInt L)=true) by simp [rawInt])]
 refine N8 (wpAny_setField hT hdT (Array.getElem?_eq_some_iff.mp h3).1 ?_);have other:∀ b,b≠T->(s.heap.update T (Obj.mapFields (·.setIfInBounds 3 Value.none))).get? b=s.heap.get? b:=fun b hb=>Heap.get?_update_other _ _ (Ne.symm hb)
 have noRec:∀ b o,s.heap.get? b=some o->(∀ vs,o.data≠.fields vs)->b≠T:=fun b o hb hnf z=>by
  rw [z,hT] at hb;cases hb;exact hnf ts hdT
 refine sU (s:={ s with heap:=s.heap.update T (Obj.mapFields (·.setIfInBounds 3 Value.none)) }) (T0:=T) hfr (hl.of_keeps fun b o hb hnf=>⟨o,(other b (noRec b o hb hnf)).trans hb,rfl⟩) hf ((other e (Ne.symm hTe)).trans he) fun h' T2 n2 W O=>?_
 have n2':s.heap.get? T2=none:=by
  cases c:s.heap.get? T2 with
  | none=>rfl
  | some o =>
   exfalso
   by_cases z:T2=T
   ·subst z;rw [Heap.get?_update_self _ hT (Obj.isFreed_of_fields (Obj.data_mapFields hdT _))] at n2;cases n2
   ·rw [show ({ s with heap:=s.heap.update T (Obj.mapFields (·.setIfInBounds 3 Value.none)) }:Shared).heap.get? T2=s.heap.get? T2 from other T2 z,c] at n2
    cases n2
 exact q h' T2 n2' (fun b o b1 b2 b3 b4 hb=>W.keep b o b1 b3 b4 ((other b b2).trans hb)) (fun b o b1 b2 b3 hb=>W.slot b o b1 b3 ((other b b2).trans hb)) O
end
end L2
namespace L2
open PySem PySem.Spec PyProof.Rows PySem.W
def bF (P:Program)(w:World):ki:=fun outer H s E e s' =>
 ∃ a C T H',e=.ref a/\s'.os=s.os/\AllBare s'.gens/\Un (frs outer) [] H H' s.heap s'.heap/\cS P w H' s'.heap/\kB s'.heap a C T none/\s.heap.get? T=none/\H' T=none/\s.heap.get? a=none/\H' a=some (.ext (mS a C none))/\E (.ref C) (some a) H'
def kB.NO {h:Heap}{e C T:Addr}{dd:Option Addr}(o:kB h e C T dd):mS e C dd h:=by
 obtain ⟨t0,v2,v3,v4,v5,sl,_,_,he,_⟩:=o;exact ⟨t0,_,v2,v3,v4,v5,sl,he⟩
def GQ {P:Program}{w:World}{H:Hp}{h h':Heap}{a C:Addr}{fs:List Addr}{N:Addr->Prop}(ok:cS P w H h)(ha:H a=some (.ext (mS a C none)))(hN:∀ b,N b->H b=none)(hf:∀ b∈fs,H b=none)
  (k:∀ b o,b≠a->¬ N b->b∉fs->h.get? b=some o->h'.get? b=some o)(x:mS a C none h'):cS P w H h':=fun b u e=>by
 by_cases z:b=a
 ·subst z;rw [ha] at e;cases e;exact Cn x
 ·have nn:∀ c v,H c=some v->¬ N c/\c∉fs:=fun c v q=>⟨fun y=>(by rw [hN c y] at q;cases q),fun y=>(by rw [hf c y] at q;cases q)⟩
  refine (ok b u e).stay (fun c v hc r=>k c v ?_ ?_ ?_ r) (fun c r=>r) fun c xs r=>r
  ·rcases hc with y | y
   ·rw [y];exact z
   ·intro q;rw [q,ha] at y;cases y
  ·rcases hc with y | y
   ·rw [y];exact (nn b u e).1
   ·exact (nn c _ y).1
  ·rcases hc with y | y
   ·rw [y];exact (nn b u e).2
   ·exact (nn c _ y).2
section
variable {CX:ki}{P:Program}{w:World}{K:Frag}{mg:Str->Option Value}{base:Heap}{N:List Str}{qual:Str}{scope:Scope}{f:Addr}{cd:Value}{A:Around}{outer:List Env}{s0:Shared}{H0:Hp}{E:XK}
def yP {pins:List (Addr×Obj)}{σ:St}{H:Hp}{s:Shared}{a C T:Addr}{h':Heap}{Nw:Addr->Prop}(I:Inv (fN CX P w K mg base N qual scope f cd A outer s0 H0 E) pins σ H s)(ha:H a=some (.ext (mS a C none)))(na:s0.heap.get? a=none)
  (hN:∀ b,Nw b->H b=none)(hN0:∀ b,Nw b->s0.heap.get? b=none)(hT:Nw T)
  (k:∀ b o,b≠a->¬ Nw b->b∉frs (envOfC qual scope s0.heap.objs.size f cd::outer)->s.heap.get? b=some o->h'.get? b=some o)(sl:∀ b o,b≠a->¬ Nw b->s.heap.get? b=some o->∃ sl,h'.get? b=some { o with slots:=sl })
  (O:kB h' a C T none)(q:E (.ref C) (some a) H):bF P w outer H0 s0 E (.ref a) { s with heap:=h' }:=by
 have B:Un (frs outer) [] H0 H s0.heap s.heap:=I.base;have old:∀ b o,s0.heap.get? b=some o->b≠a/\¬ Nw b:=fun b o e=>⟨(fun z=>by rw [z,na] at e;cases e),fun z=>by rw [hN0 b z] at e;cases e⟩
 have notloc:∀ b o,s0.heap.get? b=some o->b∉frs outer->b∉frs (envOfC qual scope s0.heap.objs.size f cd::outer):=fun b o e nb z=>by
  have z2:b∈(envOfC qual scope s0.heap.objs.size f cd).frame.toList++frs outer:=by
   have:frs (envOfC qual scope s0.heap.objs.size f cd::outer)=s0.heap.objs.size::frs outer:=rfl;rw [this] at z;exact z
  rcases OT.mp z2 with y | y
  ·have y:some s0.heap.objs.size=some b:=by
    have y0:(envOfC qual scope s0.heap.objs.size f cd).frame=some b:=by simpa using y
    exact y0
   have y:s0.heap.objs.size=b:=Option.some.inj y;exact absurd (OB e) (by rw [<- y];exact Nat.lt_irrefl _)
  ·exact nb y
 refine ⟨a,C,T,H,rfl,I.os,I.bare,⟨fun b o e n nf nx=>?_,fun b o e n nf nx=>?_,fun b o e n nx=>B.free b o e n nx,fun b o e nx=>?_,B.tups,B.jd,B.jB⟩,?_,O,hN0 T hT,hN T hT,na,ha,q⟩
 ·exact k b o (old b o e).1 (old b o e).2 (notloc b o e nf) (B.keep b o e n nf nx)
 ·obtain ⟨sl1,e1⟩:=B.slot b o e n nf nx;obtain ⟨sl2,e2⟩:=sl b _ (old b o e).1 (old b o e).2 e1;exact ⟨sl2,e2⟩
 ·obtain ⟨o1,e1⟩:=B.there b o e nx;obtain ⟨sl2,e2⟩:=sl b _ (old b o e).1 (old b o e).2 e1;exact ⟨_,e2⟩
 ·exact GQ I.hok ha hN (I.nW) (fun b o b1 b2 b3 e=>k b o b1 b2 b3 e) O.NO
def Ko {pins:List (Addr×Obj)}{σ:St}{H:Hp}{s:Shared}{a C t0:Addr}{v2 v3 v4 v5:Value}{sl0:Array (Option Value)}(I:Inv (fN (bF P w) P w K mg base N qual scope f cd A outer s0 H0 E) pins σ H s)(ha:H a=some (.ext (mS a C none)))
  (he:s.heap.get? a=some ⟨.ref C,none,.fields #[.ref t0,.none,v2,v3,v4,v5],sl0⟩)(na:s0.heap.get? a=none)(q:E (.ref C) (some a) H):(fN (bF P w) P w K mg base N qual scope f cd A outer s0 H0 E).xe (.ref a) s:=by
 refine leave_new (base:=base) (L:=s0.heap.objs.size) I.ok.frames I.stack rfl he fun h' T nT W O=>?_
 have nT0:s0.heap.get? T=none:=by
  cases c:s0.heap.get? T with
  | none=>rfl
  | some o =>
   obtain ⟨o1,e1⟩:=I.base.there T o c (by show T∉([]:List Addr);simp)
   rw [e1] at nT;cases nT
 exact yP (Nw:=fun b=>b=T) I ha na (fun b z=>by rw [z];exact I.jq nT) (fun b z=>by rw [z];exact nT0) rfl (fun b o b1 b2 b3 e=>W.keep b o b1 b2 b3 e) (fun b o b1 b2 e=>W.slot b o b1 b2 e) O q
def bg:Passes (bF P w) (fN (bF P w) P w K mg base N qual scope f cd A outer s0 H0 E) E:=by
 intro pins σ H s e s' I h;obtain ⟨a,C,T,H',rfl,os,bare,un,hok,O,nT,hT,na,ha,q⟩:=h;have I':=I.AQ (s':=s') (ch:=[]) os un hok bare fun b z=>absurd z (by simp)
 have up:∀ b,s.heap.get? b=none->s0.heap.get? b=none:=fun b n=>by
  cases c:s0.heap.get? b with
  | none=>rfl
  | some o =>
   obtain ⟨o1,e1⟩:=I.base.there b o c (by show b∉([]:List Addr);simp)
   rw [e1] at n;cases n
 refine Eu (base:=base) (L:=s0.heap.objs.size) I'.ok.frames I'.stack rfl O fun h' T2 n2 k sl O2=>?_
 have nT2:s0.heap.get? T2=none:=by
  cases c:s0.heap.get? T2 with
  | none=>rfl
  | some o =>
   obtain ⟨o1,e1⟩:=I'.base.there T2 o c (by show T2∉([]:List Addr);simp)
   rw [e1] at n2;cases n2
 refine yP (Nw:=fun b=>b=T\/b=T2) I' ha (up a na) (fun b z=>?_) (fun b z=>?_) (.inr rfl) (fun b o b1 b2 b3 e=>k b o b1 (fun z=>b2 (.inl z)) (fun z=>b2 (.inr z)) b3 e) (fun b o b1 b2 e=>sl b o b1 (fun z=>b2 (.inl z)) (fun z=>b2 (.inr z)) e) O2 q
 ·rcases z with rfl | rfl
  ·exact hT
  ·exact I'.jq n2
 ·rcases z with rfl | rfl
  ·exact up _ nT
  ·exact nT2
end
section
variable {P:Program}{w:World}{K:Frag}{mg:Str->Option Value}{base:Heap}{N:List Str}{qual:Str}{scope:Scope}{f:Addr}{cd:Value}{A:Around}{outer:List Env}{s0:Shared}{H0:Hp}{E:XK}
def J8 (C:Addr)(E:XK)(t:TA):TS:=fun _ σ H=>t σ H fun vs H1=>vs.length<=sizeLine/\∀ a,H1 a=none->E (.ref C) (some a) (upd H1 a (.ext (mS a C none)))
def DW {x:Str}{np cpos pos:Pos}{e:Expr}{es:List Expr}{t:TA}{C:Addr}
  (hc:gU K C uz "ValueError.__new__" none=true)(hg:Gl (fN (bF P w) P w K mg base N qual scope f cd A outer s0 H0 E) x)(hm:mg x=some (.ref C))
  (ha:PA (fN (bF P w) P w K mg base N qual scope f cd A outer s0 H0 E) (e::es) t)(hdb:(x == ("__debug__":Str))=false:=by decide)
  (he:starEach (e::es) (envOfC qual scope s0.heap.objs.size f cd)=(false,eval e (envOfC qual scope s0.heap.objs.size f cd))::starEach es (envOfC qual scope s0.heap.objs.size f cd):=by rfl)
  (hpl:(backTo cpos (starEach es (envOfC qual scope s0.heap.objs.size f cd))).any (·.1)=false:=by rfl) :
  PS (fN (bF P w) P w K mg base N qual scope f cd A outer s0 H0 E) (.Raise (some (.Call (.Name x np) (e::es) [] cpos)) none pos) (J8 C E t):=by
 intro pins s σ H D I h;obtain ⟨bm,N0,nm,qn,bs,hd,sn,sub,ab,col,dd,k0,k1,k2,k3,k5,mN,hC,hN,hni,T⟩:=(Ig I.ok.mod.yV hc).obj;refine wpAny_Raise_call_subT (C:=C) (nm:=nm) (q:=qn) (N:=N0) (bs:=bs) (bm:=bm) (hdct:=hd) (sn:=sn) (sub:=sub) (ab:=ab) (col:=col) (dd:=dd) (k0:=k0) (k1:=k1) (k2:=k2) (k3:=k3) (k5:=k5)
  PySem.F.excBase_ValueError (mN:=mN) (T.hasType (by decide)) (I.ok.hd rfl) (by show (backTo cpos (starEach (e::es) (envOfC qual scope s0.heap.objs.size f cd))).any (·.1)=false;rw [he];show (false || (backTo cpos (starEach es (envOfC qual scope s0.heap.objs.size f cd))).any (·.1))=false;rw [hpl];rfl) hni (zk I hg hm ⟨rfl,?_⟩ hdb)
 have go:=ha cpos pins s σ H _ I h;show wpAny (model P w) _ (evalArgs (.ref C) true (backTo cpos (starEach (e::es) (envOfC qual scope s0.heap.objs.size f cd))) []) _ _ _;have go':wpAny (model P w) _ (spliced (backTo cpos (starEach (e::es) (envOfC qual scope s0.heap.objs.size f cd)))) _ _ _:=go;rw [he] at go' ⊢;refine Calls.evalArgs_plain (aF go' fun us s1 ⟨vs,H1,I1,r,hz,q⟩=>?_)
 have kp:∀ b o,base.get? b=some o->s1.heap.get? b=some o:=I1.bk;refine ⟨rfl,by rw [<- r.length];exact hz,kp _ _ hC,hN.keeps kp,T.keeps kp,fun h' a M=>?_⟩
 obtain ⟨hp,g,dr,tk,os⟩:=s1;obtain ⟨keeps,new,t0,hx,_,_⟩:=M;have I2:=I1.Ay (a:=a) (o:=.ext (mS a C none)) (t':=tk) keeps new (Cn ⟨_,_,_,_,_,_,_,hx⟩);have na:s0.heap.get? a=none:=by
  cases c:s0.heap.get? a with
  | none=>rfl
  | some o =>
   obtain ⟨o1,e1⟩:=I1.base.there a o c (by show a∉([]:List Addr);simp)
   rw [e1] at new;cases new
 exact Ko I2 (aq) hx na (q a (I1.jq new))
end
section
variable {P:Program}{w:World}{K:PySem.W.Frag}{mg:Str->Option Value}{base:Heap}
def cH.NX {x qual:Str}{st:Stmt}{f:Addr}{fd:FuncData}{N ps:List Str}{k:Nat}{sp:Sp}(F:cH K x qual st f fd)(S:aB N ps (ao st))(len:∀ vs H Q E,sp vs H Q E->vs.length=ps.length)
  (hbody:∀ (cdv:Value)(A:Around)(outer:List Env)(s:Shared)(H:Hp)(vs:List V)(Q:VK)(E:XK),dJ k (A.deeper (envOfC qual (ao st) s.heap.objs.size f cdv))->sp vs H Q E ->
   ∃ t,mT (fN (bF P w) P w K mg base N qual (ao st) f cdv A outer s H E) (gu st) t/\t { nx:=fun _ H'=>Q .aY H',rt:=Q } (start N vs) H):aX P w K mg base (bF P w) (k + 1) f fd ps sp:=by
 obtain ⟨oc,od,kV,doc,pm,an,cdv,ct,osl,rfl,lk,hcd⟩:=F.ex;refine My lk hcd S len fun A outer s H vs Q E hr hsp=>?_
 obtain ⟨t,h,q⟩:=hbody cdv A outer s H vs Q E hr hsp;exact ⟨t,h,q⟩
def bZ (P:Program)(w:World)(K:PySem.W.Frag)(mg:Str->Option Value)(base:Heap) (k:Nat) (x:Str)(ps:List Str)(sp:Sp):Prop :=
 ∃ f fd,mg x=some (.ref f)/\PySem.W.keepIn K (.ref f)=true/\Binds K fd ps []/\aX P w K mg base (bF P w) k f fd ps sp
end
end L2
namespace Dv
open PySem L2 PySem.W
def WE (X:Cx)(e:Expr):TE:=fun σ H Q=>∀ (pins:List (Addr×Obj))(s:Shared),Inv X pins σ H s->wpAny (model X.prog X.w) X.A (eval e X.env) (EP X pins σ Q) X.xe s
def bE {X:Cx}{e:Expr}:PE X e (WE X e):=fun pins s _ _ _ I h=>h pins s I
def WE.of {X:Cx}{e:Expr}{t:TE}{σ:St}{H:Hp}{Q:VK}(h:PE X e t)(q:t σ H Q):WE X e σ H Q:=fun pins s I=>h pins s σ H Q I q
def WT (X:Cx)(e:Expr):TT:=fun σ H Q=>∀ (pins:List (Addr×Obj))(s:Shared),Inv X pins σ H s->wpAny (model X.prog X.w) X.A (isTrue e X.env (eval e X.env)) (TP X pins σ Q) X.xe s
def jm {X:Cx}{e:Expr}:PT X e (WT X e):=fun pins s _ _ _ I h=>h pins s I
def WT.of {X:Cx}{e:Expr}{t:TT}{σ:St}{H:Hp}{Q:Bool->Hp->Prop}(h:PT X e t)(q:t σ H Q):WT X e σ H Q:=fun pins s I=>h pins s σ H Q I q
def qT (X:Cx):List Expr->TA
 | [],_,H,Q=>Q [] H
 | e::es,σ,H,Q=>WE X e σ H fun v H1=>qT X es σ H1 fun vs H2=>Q (v::vs) H2
def sel (π:List Nat)(σ:St):St:=π.map fun i=>(σ[i]?).join
def cI {π:List Nat}{σ:St}{j i:Nat}{v:V}(h:π[j]?=some i)(e:σ[i]?=some (some v)):(sel π σ)[j]?=some (some v):=by
 unfold sel;rw [OG,h];show some (σ[i]?).join=_;rw [e];rfl
def XL (X:Cx)(Ex:XK)(x:XC)(g:Gh):Prop:=∀ (c:Str)(d:PyData)(C a:Addr)(H':Hp),X.mg c=some (.ref C)->x c d->(∀ p o,p∉g.M->g.H0 p=some o->H' p=some o)->H' a=some (.ext (mS a C none))->g.H0 a=none->Ex (.ref C) (some a) H'
def XL.no {X:Cx}{Ex:XK}{g:Gh}:XL X Ex xF g:=fun _ _ _ _ _ _ z=>z.elim
def SE (X:Cx)(Ex:XK)(π:List Nat)(e:Expr)(d:DE):Prop :=
 ∀ (g:Gh)(x:XC)(E:En)(σ:St)(H Hm:Hp)(F:Nat->List Addr)(P:En->Kd->PyData->Prop)(Q:VK),XL X Ex x g->Rl X.K g E σ H Hm F->d x E P ->
  (∀ E' k v u H' Hm' F' fp,P E' k v->Rl X.K g E' σ H' Hm' F'->af Hm Hm'->Tm X.K g F' H' Hm' k u v fp->Q u H')->WE X e (sel π σ) H Q
def ST (X:Cx)(Ex:XK)(π:List Nat)(e:Expr)(d:DT):Prop :=
 ∀ (g:Gh)(x:XC)(E:En)(σ:St)(H Hm:Hp)(F:Nat->List Addr)(P:En->Bool->Prop)(Q:Bool->Hp->Prop),XL X Ex x g->Rl X.K g E σ H Hm F->d x E P ->
  (∀ E' b H' Hm' F',P E' b->Rl X.K g E' σ H' Hm' F'->af Hm Hm'->Q b H')->WT X e (sel π σ) H Q
inductive aL (X:Cx)(Ex:XK)(π:List Nat):List Expr->List Arg->Prop
 | nil:aL X Ex π [] []
 | pk {e:Expr}{es:List Expr}{as:List Arg}{i j:Nat}:PE X e (gh j)->π[j]?=some i->aL X Ex π es as->aL X Ex π (e::es) (.pk i::as)
 | ev {e:Expr}{es:List Expr}{as:List Arg}{d:DE}:SE X Ex π e d->aL X Ex π es as->aL X Ex π (e::es) (.ev d::as)
inductive Got (K:Frag)(σ:St)(Hm:Hp):List Arg->List (Option PyData)->List V->Prop
 | nil:Got K σ Hm [] [] []
 | pk {i:Nat}{v:V}{as:List Arg}{os:List (Option PyData)}{vs:List V}:σ[i]?=some (some v)->Got K σ Hm as os vs->Got K σ Hm (.pk i::as) (none::os) (v::vs)
 | ev {e:DE}{v:V}{d:PyData}{as:List Arg}{os:List (Option PyData)}{vs:List V}:Rp K Hm v d->Got K σ Hm as os vs->Got K σ Hm (.ev e::as) (some d::os) (v::vs)
def nK {K:Frag}{g:Gh}{E:En}{σ:St}{H Hm:Hp}{F:Nat->List Addr}(R:Rl K g E σ H Hm F){i:Nat}(h:here E i=true):∃ v,σ[i]?=some (some v):=by
 unfold here at h;split at h
 ·rename_i kd e;obtain ⟨v,h1,_⟩:=R.slot i kd.1 kd.2 e;exact ⟨v,h1⟩
 ·cases h
section
variable {X:Cx}{Ex:XK}{π:List Nat}{g:Gh}{x:XC}{σ:St}
def jL (hx:XL X Ex x g){es:List Expr}{as:List Arg}(S:aL X Ex π es as):∀ {E:En}{H Hm:Hp}{F:Nat->List Addr}{P:En->List (Option PyData)->Prop}{Q:List V->Hp->Prop},Rl X.K g E σ H Hm F->gp as x E P ->
  (∀ E' os vs H' Hm' F',P E' os->Rl X.K g E' σ H' Hm' F'->af Hm Hm'->Got X.K σ Hm' as os vs->Q vs H')->qT X es (sel π σ) H Q:=by
 induction S with
 | nil=>exact fun R h q=>q _ _ _ _ _ _ h R (af.refl _) .nil
 | @pk e es as i j hp hj _ ih =>
  intro E H Hm F P Q R h q;obtain ⟨h1,h2⟩:=h;obtain ⟨v,hv⟩:=nK R h1;refine WE.of hp ⟨v,cI hj hv,ih R h2 fun E' os vs H' Hm' F' p R' s G=>q _ _ _ _ _ _ p R' s (.pk hv G)⟩
 | @ev e es as d hd _ ih =>
  intro E H Hm F P Q R h q;refine hd g x E σ H Hm F _ _ hx R h fun E1 k v u H1 Hm1 F1 fp p R1 s1 T=>?_
  obtain ⟨hk,p⟩:=p;obtain ⟨Hm2,s2,R2,r⟩:=T.bY R1 hk;exact ih R2 p fun E' os vs H' Hm' F' p' R' s' G=>q _ _ _ _ _ _ p' R' (s1.trans (s2.trans s')) (.ev (r.mono s') G)
theorem jt {K:Frag}{E:En}{H Hm:Hp}{F:Nat->List Addr}(R:Rl K g E σ H Hm F){Hm1:Hp}(s:af Hm Hm1):∀ {as:List Arg}{os:List (Option PyData)}{vs:List V}{ds:List PyData},Got K σ Hm as os vs->fill as E os=some ds->(∀ i∈fR as,∀ a∈F i,Hm1 a=H a)->au K Hm1 vs ds
 | _,_,_,_,.nil,h,_=>by cases h;exact .nil
 | _,_,_,_,.pk (i:=i) (as:=as) (os:=os) hv G,h,n=>by
  rw [fill] at h;split at h
  ·rename_i k d e
   by_cases hk:k.rd=true
   ·rw [if_pos hk] at h;cases hf:fill as E os with
    | none=>rw [hf] at h;cases h
    | some es =>
     rw [hf] at h;cases h;obtain ⟨v',h1,h2⟩:=R.slot i k d e;rw [hv] at h1;cases h1;exact .cons (h2.rp hk s (n i N9)) (jt R s G hf fun j hj=>n j (O6 _ hj))
   ·rw [if_neg hk] at h;cases h
  ·cases h
 | _,_,_,_,.ev (as:=as) (os:=os) r G,h,n=>by
  rw [fill] at h;cases hf:fill as E os with
  | none=>rw [hf] at h;cases h
  | some es =>
   rw [hf] at h;cases h;exact .cons (r.mono s) (jt R s G hf n)
theorem lU:∀ {is:List Nat}{E E2:En},cG is E=some E2->E2.length=E.length/\∀ j,(j∉is->E2[j]?=E[j]?)/\(j∈is->∃ k d,E[j]?=some (some (k,d))/\k.fz=true/\E2[j]?=some (some (.sh,d)))
 | [],E,E2,h=>by
  cases h;exact ⟨rfl,fun j=>⟨fun _=>rfl,fun z=>by cases z⟩⟩
 | i::r,E,E2,h=>by
  have h:(cg E i).bind (cG r)=some E2:=h;cases hf:cg E i with
  | none=>rw [hf] at h;cases h
  | some E1 =>
   rw [hf] at h;obtain ⟨l1,g1⟩:=lU (is:=r) (E:=E1) (E2:=E2) h;unfold cg at hf;split at hf
   ·rename_i k d e
    by_cases hk:k.fz=true
    ·rw [if_pos hk] at hf;cases hf;have li:i < E.length:=by
      rcases Nat.lt_or_ge i E.length with h | h
      ·exact h
      ·rw [List.getElem?_eq_none h] at e;cases e
     rw [List.length_set] at l1;refine ⟨l1,fun j=>⟨fun n=>?_,fun m=>?_⟩⟩
     ·have n1:j≠i:=fun z=>n (z ▸ N9)
      rw [(g1 j).1 fun z=>n (O6 _ z),aj (Ne.symm n1)]
     ·by_cases c:j=i
      ·subst c
       by_cases m':j∈r
       ·obtain ⟨k2,d2,e2,_,e3⟩:=(g1 j).2 m';rw [ay li] at e2;cases e2;exact ⟨k,d,e,hk,e3⟩
       ·exact ⟨k,d,e,hk,by rw [(g1 j).1 m',ay li]⟩
      ·have m':j∈r:=(O9.mp m).resolve_left c;obtain ⟨k2,d2,e2,h2,e3⟩:=(g1 j).2 m';rw [aj (Ne.symm c)] at e2;exact ⟨k2,d2,e2,h2,e3⟩
    ·rw [if_neg hk] at hf;cases hf
   ·cases hf
def vN {K:Frag}{E E2:En}{H H' Hm Hm2:Hp}{F:Nat->List Addr}{is:List Nat}{k:Kd}{u:V}{v:PyData}{fp:List Addr}(R:Rl K g E σ H Hm F)(hE:(if flat k v=true then some E else cG is E)=some E2)
  (sH:af H H')(s1:af (lend Hm H (is.flatMap F)) Hm2)(s2:af Hm2 H')(old:∀ a,H a≠none->OE (Hm2 a) (lend Hm H (is.flatMap F) a))(o:Own K H' Hm2 k u v fp)(fr:∀ a∈fp,H a=none/\Hm2 a=none) :
  ∃ Hm' F',Rl K g E2 σ H' Hm' F'/\af Hm Hm'/\Tm K g F' H' Hm' k u v fp:=by
 have mem:∀ {a i},a∈F i->i∈is->a∈is.flatMap F:=fun ha hi=>List.mem_flatMap.mpr ⟨_,hi,ha⟩
 have off:∀ a∈is.flatMap F,Hm a=none:=fun a ha=>by
  obtain ⟨i,_,h⟩:=List.mem_flatMap.mp ha;exact R.off i a h
 have up:af Hm (lend Hm H (is.flatMap F)):=gi off;have bx:∀ {i a},a∈F i->H a≠none:=fun ha z=>by
  obtain ⟨u,hu,_⟩:=R.bx _ _ ha;rw [z] at hu;cases hu
 have nfp:∀ a∈fp,∀ i,a∉F i:=fun a ha i=>R.fresh (fr a ha).1
 by_cases hf:flat k v=true
 ·rw [if_pos hf] at hE;cases hE;refine ⟨back Hm2 (is.flatMap F),F,R.grow sH (fun b o e=>?_) (uy s2) (fun i a ha=>?_) (fun a ha=>?_),fun b o e=>?_,⟨o.flat (fun a xs h=>?_) hf,fun a ha=>?_,nfp,fun a ha=>R.dW (fr a ha).1⟩⟩
  ·rw [cQ fun z=>by rw [off b z] at e;cases e]
   exact s1 _ _ (up _ _ e)
  ·by_cases c:a∈is.flatMap F
   ·exact iy c
   ·rw [cQ c];obtain ⟨w,hw,nt⟩:=R.bx i a ha;exact (old a (bx ha)).off (by rw [cz c];exact R.off i a ha) s2 (sH _ _ hw) nt
  ·by_cases c:a∈is.flatMap F
   ·rw [iy c,off a c];exact .inl rfl
   ·have h:=old a (R.qW ha);rw [cz c] at h;rw [cQ c];exact h
  ·rw [cQ fun z=>by rw [off b z] at e;cases e]
   exact s1 _ _ (up _ _ e)
  ·have c:a∉is.flatMap F:=fun z=>by
    obtain ⟨i,_,hi⟩:=List.mem_flatMap.mp z;obtain ⟨w,hw,nt⟩:=R.bx i a hi;have e2:Hm2 a=some w:=s1 _ _ (by rw [dD z];exact hw)
    rw [e2] at h;cases h;exact nt xs rfl
   rw [cQ c];exact h
  ·by_cases c:a∈is.flatMap F
   ·exact iy c
   ·rw [cQ c];exact (fr a ha).2
 ·rw [if_neg hf] at hE;obtain ⟨l2,g2⟩:=lU hE;have R':Rl K g E2 σ H' Hm2 (fun j=>if j∈is then [] else F j):={
   len:=l2.trans R.len
   sub:=s2
   slot:=fun j k' d' e'=>by
    by_cases c:j∈is
    ·obtain ⟨k0,d0,e0,hk0,e1⟩:=(g2 j).2 c;rw [e1] at e';cases e';obtain ⟨v',h1,h2⟩:=R.slot j k0 _ e0;refine ⟨v',h1,?_⟩;rw [if_pos c];exact .sh ((h2.rp (by cases k0 <;> first | rfl | cases hk0) up fun a ha=>dD (mem ha c)).mono s1)
    ·rw [(g2 j).1 c] at e';obtain ⟨v',h1,h2⟩:=R.slot j k' d' e';refine ⟨v',h1,?_⟩;rw [if_neg c];refine h2.step (up.trans s1) fun a ha=>?_
     obtain ⟨w,hw,_⟩:=h2.live a ha;rw [hw];exact sH _ _ hw
   off:=fun j a ha=>by
    by_cases c:j∈is
    ·rw [if_pos c] at ha;cases ha
    ·rw [if_neg c] at ha;obtain ⟨w,hw,nt⟩:=R.bx j a ha;refine (old a (bx ha)).off ?_ s2 (sH _ _ hw) nt;rw [cz]
     ·exact R.off j a ha
     ·intro z;obtain ⟨i,hi,h⟩:=List.mem_flatMap.mp z;exact c (R.aD i j a h ha ▸ hi)
   bx:=fun j a ha=>by
    by_cases c:j∈is
    ·rw [if_pos c] at ha;cases ha
    ·rw [if_neg c] at ha;obtain ⟨w,hw,nt⟩:=R.bx j a ha;exact ⟨w,sH _ _ hw,nt⟩
   aD:=fun j l a h1 h2=>by
    by_cases c:j∈is
    ·rw [if_pos c] at h1;cases h1
    ·rw [if_neg c] at h1
     by_cases c':l∈is
     ·rw [if_pos c'] at h2;cases h2
     ·rw [if_neg c'] at h2;exact R.aD j l a h1 h2
   fr:=fun p o hp ho=>sH _ _ (R.fr p o hp ho)
   new:=fun j a ha=>by
    by_cases c:j∈is
    ·rw [if_pos c] at ha;cases ha
    ·rw [if_neg c] at ha;exact R.new j a ha
   pin:=fun q hq=>by
    obtain ⟨h1,ds',h2⟩:=R.pin q hq;have c:q.1∉is:=fun z=>by
     obtain ⟨k0,d0,e0,hk0,_⟩:=(g2 q.1).2 z;rw [h2] at e0;cases e0;cases hk0
    exact ⟨h1,ds',by rw [(g2 q.1).1 c];exact h2⟩
   old:=fun a ha=>by
    refine (old a (R.qW ha)).trans ?_;rw [cz]
    ·exact R.old a ha
    ·intro z;obtain ⟨i,hi,h⟩:=List.mem_flatMap.mp z;obtain ⟨k0,d0,e0,hk0,_⟩:=(g2 i).2 hi;exact ha (R.notM e0 (by cases k0 <;> first | rfl | (rename_i p;cases p <;> first | rfl | cases hk0) | cases hk0) h) }
  refine ⟨Hm2,_,R',up.trans s1,⟨o,fun a ha=>(fr a ha).2,fun a ha i=>?_,fun a ha=>R.dW (fr a ha).1⟩⟩
  by_cases c:i∈is
  ·rw [if_pos c];simp
  ·rw [if_neg c];exact nfp a ha i
def cM (K:Frag)(f:DR)(r:List V->Hp->VK->Prop):Prop :=
 ∀ (H Hm:Hp)(vs:List V)(ds:List PyData)(P:Kd->PyData->Prop)(Q:VK),af Hm H->au K Hm vs ds->f ds P ->
  (∀ k v u H' Hm' fp,P k v->af H H'->af Hm Hm'->af Hm' H'->(∀ a,H a≠none->OE (Hm' a) (Hm a))->Own K H' Hm' k u v fp->(∀ a∈fp,H a=none/\Hm' a=none)->Q u H')->r vs H Q
def eL {e:Expr}{es:List Expr}{as:List Arg}{f:DR}{r:List V->Hp->VK->Prop}(S:aL X Ex π es as)(hr:∀ σ H Q,qT X es σ H (fun vs H1=>r vs H1 Q)->WE X e σ H Q)(D:cM X.K f r):SE X Ex π e (aa f as):=by
 intro g x E σ H Hm F P Q hx R h q;refine hr _ _ _ (jL hx S R h fun E1 os vs H1 Hm1 F1 p R1 s1 G=>?_)
 obtain ⟨ds,hf,hg⟩:=p;have off:∀ a∈(fR as).flatMap F1,Hm1 a=none:=fun a ha=>by
  obtain ⟨i,_,h⟩:=List.mem_flatMap.mp ha;exact R1.off i a h
 have up:=gi (Hm:=Hm1) (H:=H1) off;refine D H1 (lend Hm1 H1 ((fR as).flatMap F1)) vs ds _ Q (ir R1.sub) (jt R1 up G hf fun i hi a ha=>dD (List.mem_flatMap.mpr ⟨i,hi,ha⟩)) hg fun k v u H' Hm2 fp p sH sM sS old o fr=>?_
 obtain ⟨E2,ha,p⟩:=p;obtain ⟨Hm',F',R',s',T⟩:=vN R1 (is:=fR as) (vh ha) sH sM sS old o fr;exact q _ _ _ _ _ _ _ _ p R' (s1.trans s') T
end
end Dv
namespace L2
open PySem PySem.Spec PyProof.Rows
section
variable {X:Cx}
def AM (i j:Int):Prop:=0 < j/\j < 115792089237316195423570985008687907853269984665640564039457584007913129639936
def Ei:bG X (binaryOp .FloorDiv) (rI AM fun i j=>.int (i / j)):=Gw fun i j _ _ _ _ _ hc q=>by
 have h1:(0:Int) < j:=hc.1;have h2:j < 115792089237316195423570985008687907853269984665640564039457584007913129639936:=hc.2;refine floordiv_int (by omega) (by rw [Int.fdiv_eq_ediv_of_nonneg i (by omega)];exact q) (.inl (PyProof.noPylong_of_log2 ?_))
 have:j.natAbs.log2 < 256:=(Nat.log2_lt (by omega)).mpr (by
  have:(2:Nat) ^ 256=115792089237316195423570985008687907853269984665640564039457584007913129639936:=by decide
  omega)
 omega
end
theorem nU:∀ {us:List Value}{ns:List Int},IntsAre us ns->Vals (ns.map V.int) us
 | _,_,.nil=>.nil
 | _,_,.cons k t r=>.cons ⟨t,rfl⟩ (nU r)
section
variable {X:Cx}
def vI:cj X (.builtin "sorted") (fun xs H Q=>∃ (a:Addr)(ns:List Int),xs=[.ref a]/\bI X.K H a (ns.map V.int)/\ns.length < 64/\∀ (ms:List Int)(p:Addr),ms.Perm ns->ms.Pairwise (·<=·)->H p=none->Q (.ref p) (upd H p (.lst (ms.map V.int)))):=by
 intro pins s σ H xs us Q I r h;obtain ⟨a,ns,rfl,hq,hl,q⟩:=h;obtain ⟨u,rfl,ru⟩:=r.one;cases ru;obtain ⟨its,rv,p,_⟩:=I.list hq;have hlen:its.length=ns.length:=by rw [<- rv.length,O7]
 refine sorted_ints p.isList (intsAre_of rv) (by omega) fun out ms h1 h2 h3=>?_
 obtain ⟨e,he⟩:=sortedAll_at s.heap its out;have new:s.heap.get? (s.heap.objs.size + 1)=none:=Heap.get?_none_of_le (Nat.le_succ _);have rm:=nU h1;have ml:ms.length=ns.length:=h2.length_eq;have I2:=I.Ay (a:=s.heap.objs.size + 1) (o:=.lst (ms.map V.int)) (t':=s.toks) (h':=sortedAll s.heap its out) (fun b o hb=>sortedAll_old hb) new
  ⟨by rw [O7,ml];exact Nat.le_of_lt (OL hl (by decide)),out.toList,e,rm,by simpa using he⟩
 exact ⟨.ref (s.heap.objs.size + 1),_,I2,rfl,q ms _ h2 h3 (I.jq new)⟩
end
end L2
namespace TS
open PySem PyProof.Rows
def sf:Bool->Keyed->Array Keyed->Nat->Nat->Nat->StateT SortSt Sem (Option Nat):=sortPriv% PySem.Builtin.gallop
def vW:Array Keyed->Array Keyed->StateT SortSt Sem (Array Keyed):=sortPriv% PySem.Builtin.mergeLo
def vY:Array Keyed->Array Keyed->StateT SortSt Sem (Array Keyed):=sortPriv% PySem.Builtin.mergeHi
section
variable {prog:Program}{w:World}{A:Around}{E:Value->Shared->Prop}{s:Shared}
def g9 (prog:Program)(w:World)(A:Around)(s:Shared)(kd:SortKind)(P:Value->Prop):Prop:=∀ (E:Value->Shared->Prop) x y,P x->P y->∀ Q:Bool->Shared->Prop,(∀ b,Q b s)->wpAny (model prog w) A (keyLt' kd x y) Q E s
def Good (P:Value->Prop)(xs:Array Keyed):Prop:=∀ (i:Nat)(p:Keyed),xs[i]?=some p->P p.1
variable {kd:SortKind}{P:Value->Prop}
def ask {st:SortSt}{x y:Keyed}{Q:Option Bool->SortSt->Prop}(L:g9 prog w A s kd P)(hk:kindOf st=kd)(hx:P x.1)(hy:P y.1)(h:∀ b,Q (some b) st):wpS (model prog w) A E s (lt' x y) Q st:=by
 rw [lt'_eq];refine O1 (wpS_get ?_);rw [hk];refine O1 (wpS_lift (wpAny_attempt (L _ _ _ hx hy _ fun b=>⟨rfl,?_⟩)))
 exact O4 (h b)
def jw {st:SortSt}{xs:Array Keyed}{i:Nat}{Q:Keyed->SortSt->Prop}(hi:i < xs.size)(h:∀ p,xs[i]?=some p->Q p st):wpS (model prog w) A E s (elem' xs i) Q st:=by
 rw [elem'_eq,Array.getElem?_eq_getElem hi];exact O4 (h _ (Array.getElem?_eq_getElem hi))
def mX {st:SortSt}{left:Bool}{key:Keyed}{xs:Array Keyed}{base n hint:Nat}{Q:Option Nat->SortSt->Prop}(L:g9 prog w A s kd P)(hk:kindOf st=kd)(hy:P key.1)(G:Good P xs)(hn:base + n<=xs.size)(hh:hint < n)(h:∀ k,k<=n->Q (some k) st) :
  wpS (model prog w) A E s (sf left key xs base n hint) Q st:=by
 have oQ:∀ (i:Nat){R:Option Bool->SortSt->Prop},i < n->(∀ b,R (some b) st)->wpS (model prog w) A E s (do
   let x <- elem' xs (base + i)
   if left then lt' x key else return (<- lt' key x).map (!·)) R st:=fun i R hi hR=>by
  refine O1 (jw (by omega) fun p hp=>?_)
  cases left with
  | true=>exact ask L hk (G _ _ hp) hy hR
  | false=>exact O1 (ask L hk hy (G _ _ hp) fun b=>O4 (hR _))
 unfold sf;refine O1 (oQ hint hh fun b=>?_)
 dsimp only;split
 all_goals
  refine O1 (wpS_mono (wpS_forRange (I:=fun _ c st'=>st'=st/\c.1=none) (Q:=fun c st'=>st'=st/\c.1=none) ?step (fun _ _ q=>q) ⟨rfl,rfl⟩) ?post)
  case step =>
   rintro x ⟨o,a,c⟩ st' _ _ ⟨rfl,rfl⟩;dsimp only;split
   ·exact O4 ⟨rfl,rfl⟩
   ·refine O1 (oQ _ (by omega) fun b'=>?_)
    dsimp only;split
    ·exact O4 ⟨rfl,rfl⟩
    ·exact O4 ⟨rfl,rfl⟩
  case post =>
   rintro ⟨o,a,c⟩ st' ⟨rfl,rfl⟩;dsimp only;refine O1 (wpS_mono (wpS_forRange (I:=fun _ c st''=>st''=st'/\c.1=none/\c.2.2<=n) (Q:=fun c st''=>st''=st'/\c.1=none/\c.2.2<=n) ?step2 (fun _ _ q=>q) ⟨rfl,rfl,by dsimp only;omega⟩) ?post2)
   case step2 =>
    rintro x ⟨o,a,c⟩ st'' _ _ ⟨rfl,rfl,le⟩;dsimp only at le ⊢;split
    ·exact O4 ⟨rfl,rfl,le⟩
    ·refine O1 (oQ _ (by omega) fun b'=>?_)
     dsimp only;split
     ·exact O4 ⟨rfl,rfl,le⟩
     ·exact O4 ⟨rfl,rfl,by dsimp only;omega⟩
   case post2 =>
    rintro ⟨o,a,c⟩ st'' ⟨rfl,rfl,le⟩;dsimp only;exact O4 (h _ le)
end
def Pm (xs ys out:Array Keyed) (ia ib:Nat):Prop:=out.toList.Perm (xs.toList.take ia++ys.toList.take ib)
section
variable {xs ys out:Array Keyed}{ia ib k:Nat}
def xA (zs:Array Keyed) (i k:Nat):zs.toList.take (i + k)=zs.toList.take i++(zs.extract i (i + k)).toList:=by
 rw [Array.toList_extract,List.take_add,List.extract_eq_take_drop];congr 2;omega
def Pm.x (h:Pm xs ys out ia ib) (k:Nat):Pm xs ys (out++xs.extract ia (ia + k)) (ia + k) ib:=by
 unfold Pm at *;rw [Array.toList_append,xA xs ia k,List.append_assoc];refine (h.append_right _).trans ?_;rw [List.append_assoc];exact List.Perm.append_left _ List.perm_append_comm
def Pm.y (h:Pm xs ys out ia ib) (k:Nat):Pm xs ys (out++ys.extract ib (ib + k)) ia (ib + k):=by
 unfold Pm at *;rw [Array.toList_append,xA ys ib k,<- List.append_assoc];exact h.append_right _
def pK {zs out:Array Keyed}{i:Nat}{p:Keyed}(hp:zs[i]?=some p):out.push p=out++zs.extract i (i + 1):=by
 obtain ⟨hi,e⟩:=Array.getElem?_eq_some_iff.mp hp;have:zs.extract i (i + 1)=#[p]:=by
  rw [<- e];apply Array.ext
  ·simp;omega
  ·intro j h1 h2;have:j=0:=by
    simp at h2;exact h2
   subst this;simp
 rw [this];rfl
def Pm.px {p:Keyed}(h:Pm xs ys out ia ib)(hp:xs[ia]?=some p):Pm xs ys (out.push p) (ia + 1) ib:=by
 rw [pK hp];exact h.x 1
def Pm.py {p:Keyed}(h:Pm xs ys out ia ib)(hp:ys[ib]?=some p):Pm xs ys (out.push p) ia (ib + 1):=by
 rw [pK hp];exact h.y 1
def uF (zs:Array Keyed) (i:Nat):zs.toList=zs.toList.take i++(zs.extract i).toList:=by
 rw [Array.toList_extract,List.extract_eq_take_drop];have:List.take (zs.size - i) (List.drop i zs.toList)=List.drop i zs.toList:=List.take_of_length_le (by simp)
 rw [this,List.take_append_drop]
def Pm.done (h:Pm xs ys out ia ib):(out++xs.extract ia++ys.extract ib).toList.Perm (xs.toList++ys.toList):=by
 unfold Pm at h;rw [Array.toList_append,Array.toList_append,uF xs ia,uF ys ib];refine ((h.append_right _).append_right _).trans ?_;simp only [List.append_assoc];refine List.Perm.append_left _ ?_;rw [<- List.append_assoc,<- List.append_assoc];exact List.Perm.append_right _ List.perm_append_comm
def Pm.last (h:Pm xs ys out ia ib):(out++ys.extract ib++xs.extract ia).toList.Perm (xs.toList++ys.toList):=by
 refine List.Perm.trans ?_ h.done;rw [Array.toList_append,Array.toList_append,Array.toList_append,Array.toList_append,List.append_assoc,List.append_assoc];exact List.Perm.append_left _ List.perm_append_comm
end
def kg (st st':SortSt):Prop:=kindOf st'=kindOf st/\arrOf st'=arrOf st/\pendingOf st'=pendingOf st/\failedOf st'=failedOf st
inductive Lx (st:SortSt)(xs ys:Array Keyed) (x:Nat):Option (Array Keyed)×Array Keyed×Nat×Nat×Nat->SortSt->Prop
 | mk:∀ (out:Array Keyed) (ia ib mg:Nat)(st':SortSt),kg st st'->Pm xs ys out ia ib->ia + 1 < xs.size->ib < ys.size->x + 1<=ia + ib->Lx st xs ys x (none,out,ia,ib,mg) st'
inductive zM (st:SortSt)(xs ys:Array Keyed):Option (Array Keyed)×Array Keyed×Nat×Nat×Nat->SortSt->Prop
 | mk:∀ (r out:Array Keyed) (ia ib mg:Nat)(st':SortSt),kg st st'->r.toList.Perm (xs.toList++ys.toList)->zM st xs ys (some r,out,ia,ib,mg) st'
inductive F9 (st:SortSt)(xs ys:Array Keyed) (n y:Nat):Option (Array Keyed)×Array Keyed×Nat×Nat×Nat×Nat->SortSt->Prop
 | mk:∀ (out:Array Keyed) (ia ib ac bc:Nat),Pm xs ys out ia ib->ia + 1 < xs.size->ib < ys.size->y + n<=ia + ib->F9 st xs ys n y (none,out,ia,ib,ac,bc) st
inductive p7 (st:SortSt)(xs ys:Array Keyed) (n:Nat):Option (Array Keyed)×Array Keyed×Nat×Nat×Nat×Nat->SortSt->Prop
 | dn:∀ (r out:Array Keyed) (ia ib ac bc:Nat),r.toList.Perm (xs.toList++ys.toList)->p7 st xs ys n (some r,out,ia,ib,ac,bc) st
 | go:∀ (out:Array Keyed) (ia ib ac bc:Nat),Pm xs ys out ia ib->ia + 1 < xs.size->ib < ys.size->n + 1<=ia + ib->p7 st xs ys n (none,out,ia,ib,ac,bc) st
inductive Lz (st:SortSt)(xs ys:Array Keyed) (n:Nat):Option (Array Keyed)×Array Keyed×Nat×Nat×Nat×Nat×Nat->SortSt->Prop
 | mk:∀ (out:Array Keyed) (ia ib mg ac bc:Nat)(st':SortSt),kg st st'->Pm xs ys out ia ib->ia + 1 < xs.size->ib < ys.size->n<=ia + ib->Lz st xs ys n (none,out,ia,ib,mg,ac,bc) st'
inductive lS (st:SortSt)(xs ys:Array Keyed) (n:Nat):Option (Array Keyed)×Array Keyed×Nat×Nat×Nat×Nat×Nat->SortSt->Prop
 | dn:∀ (r out:Array Keyed) (ia ib mg ac bc:Nat)(st':SortSt),kg st st'->r.toList.Perm (xs.toList++ys.toList)->lS st xs ys n (some r,out,ia,ib,mg,ac,bc) st'
 | go:∀ (out:Array Keyed) (ia ib mg ac bc:Nat)(st':SortSt),kg st st'->Pm xs ys out ia ib->ia + 1 < xs.size->ib < ys.size->n<=ia + ib->lS st xs ys n (none,out,ia,ib,mg,ac,bc) st'
section
variable {prog:Program}{w:World}{A:Around}{E:Value->Shared->Prop}{s:Shared}{kd:SortKind}{P:Value->Prop}
def dN {M:Model}{σ α:Type}{a b:Nat}{m1 m2:StateT σ Sem α}{Q:α->σ->Prop}{st:σ}(h1:a=b->wpS M A E s m1 Q st)(h2:a≠b->wpS M A E s m2 Q st):wpS M A E s (if (a == b)=true then m1 else m2) Q st:=by
 by_cases e:a=b
 ·rw [if_pos (beq_iff_eq.mpr e)];exact h1 e
 ·rw [if_neg (fun z=>e (beq_iff_eq.mp z))]
  exact h2 e
def cA {M:Model}{σ α:Type}{c:Prop} [Decidable c]{m1 m2:StateT σ Sem α}{Q:α->σ->Prop}{st:σ}(h1:c->wpS M A E s m1 Q st)(h2:¬ c->wpS M A E s m2 Q st):wpS M A E s (if c then m1 else m2) Q st:=by
 by_cases e:c
 ·rw [if_pos e];exact h1 e
 ·rw [if_neg e];exact h2 e
def bV {α:Type}{st:SortSt}{zs:Array Keyed}{i:Nat}{f:Keyed->StateT SortSt Sem α}{Q:α->SortSt->Prop}(hi:i < zs.size)(h:∀ p,zs[i]?=some p->wpS (model prog w) A E s (f p) Q st):wpS (model prog w) A E s (elem' zs i >>= f) Q st:=O1 (jw hi h)
def vF {α:Type}{st:SortSt}{x y:Keyed}{f:Option Bool->StateT SortSt Sem α}{Q:α->SortSt->Prop}(L:g9 prog w A s kd P)(hk:kindOf st=kd)(hx:P x.1)(hy:P y.1)(h:∀ b,wpS (model prog w) A E s (f (some b)) Q st):wpS (model prog w) A E s (lt' x y >>= f) Q st:=O1 (ask L hk hx hy h)
def lX {α:Type}{st:SortSt}{left:Bool}{key:Keyed}{xs:Array Keyed}{base n hint:Nat}{f:Option Nat->StateT SortSt Sem α}{Q:α->SortSt->Prop}(L:g9 prog w A s kd P)(hk:kindOf st=kd)(hy:P key.1)(G:Good P xs)(hn:base + n<=xs.size)(hh:hint < n)(h:∀ k,k<=n->wpS (model prog w) A E s (f (some k)) Q st):wpS (model prog w) A E s (sf left key xs base n hint >>= f) Q st:=O1 (mX L hk hy G hn hh h)
def LS {st:SortSt}{xs ys:Array Keyed}{Q:Array Keyed->SortSt->Prop}(L:g9 prog w A s kd P)(hk:kindOf st=kd)(G1:Good P xs)(G2:Good P ys)(h1:1<=xs.size)(h2:1<=ys.size)(h:∀ zs st',kg st st'->zs.toList.Perm (xs.toList++ys.toList)->Q zs st') :
  wpS (model prog w) A E s (vW xs ys) Q st:=by
 unfold vW;refine O1 (wpS_lift (wpAny_rule ⟨rfl,?_⟩));dsimp only;refine bV (by omega) fun p hp=>?_
 have pm0:Pm xs ys #[p] 0 1:=by
  have:Pm xs ys #[] 0 0:=List.Perm.refl _;exact this.py hp
 have g0:kg st st:=⟨rfl,rfl,rfl,rfl⟩;refine dN (fun e1=>O4 (h _ _ g0 pm0.done)) (fun e1=>?_)
 refine dN (fun e2=>O4 (h _ _ g0 pm0.last)) (fun e2=>?_)
 refine O1 (wpS_get ?_);refine O1 (wpS_mono (wpS_forRange (I:=Lx st xs ys) (Q:=zM st xs ys) ?step ?fin (.mk _ _ _ _ _ g0 pm0 (by omega) (by omega) (by omega))) ?post)
 case post =>
  rintro _ st' ⟨r,out,ia,ib,mg,_,g,pr⟩;dsimp only;exact O4 (h _ _ g pr)
 case fin =>
  rintro _ st' ⟨out,ia,ib,mg,_,_,_,a,b,c⟩;omega
 case step =>
  rintro x _ st' _ _ ⟨out,ia,ib,mg,_,g,pm,a1,b1,c1⟩;dsimp only;have hk':kindOf st'=kd:=g.1.trans hk;refine O1 (wpS_mono (wpS_forRange (I:=F9 st' xs ys (ia + ib)) (Q:=p7 st' xs ys (ia + ib)) ?step1 ?fin1 (.mk _ _ _ _ _ pm a1 b1 (by omega))) ?post1)
  case fin1 =>
   rintro _ _ ⟨out2,ia2,ib2,ac,bc,_,a,b,c⟩;omega
  case step1 =>
   rintro y _ _ _ _ ⟨out2,ia2,ib2,ac,bc,pm2,a2,b2,c2⟩;dsimp only;refine bV (by omega) fun p1 hp1=>?_
   refine bV (by omega) fun p2 hp2=>?_
   refine vF L hk' (G2 _ _ hp1) (G1 _ _ hp2) fun b=>?_
   dsimp only;cases b with
   | true =>
    rw [if_pos rfl];refine bV (by omega) fun p3 hp3=>?_
    have pm3:=pm2.py hp3;refine dN (fun e3=>O4 (p7.dn _ _ _ _ _ _ pm3.done)) (fun e3=>?_)
    refine cA (fun e4=>?_) (fun e4=>?_)
    ·exact O4 (p7.go _ _ _ _ _ pm3 a2 (by omega) (by omega))
    ·exact O4 (F9.mk _ _ _ _ _ pm3 a2 (by omega) (by omega))
   | false =>
    rw [if_neg ON];refine bV (by omega) fun p3 hp3=>?_
    have pm3:=pm2.px hp3;refine dN (fun e3=>O4 (p7.dn _ _ _ _ _ _ pm3.last)) (fun e3=>?_)
    refine cA (fun e4=>?_) (fun e4=>?_)
    ·exact O4 (p7.go _ _ _ _ _ pm3 (by omega) b2 (by omega))
    ·exact O4 (F9.mk _ _ _ _ _ pm3 (by omega) b2 (by omega))
  case post1 =>
   rintro _ _ (⟨r,out2,ia2,ib2,ac,bc,pr⟩ | ⟨out2,ia2,ib2,ac,bc,pm2,a2,b2,c2⟩)
   ·exact O4 (zM.mk _ _ _ _ _ _ g pr)
   ·dsimp only;refine O1 (wpS_lift (wpAny_rule ⟨rfl,?_⟩));refine O1 (wpS_mono (wpS_forRange (I:=fun _=>Lz st xs ys (ia2 + ib2)) (Q:=lS st xs ys (ia2 + ib2)) ?step2 (fun c st3 q=>by cases q;exact .go _ _ _ _ _ _ _ ‹_› ‹_› ‹_› ‹_› ‹_›) (.mk _ _ _ _ _ _ _ g pm2 a2 b2 (O5 _))) ?post2)
    case step2 =>
     rintro y _ st3 _ _ ⟨out3,ia3,ib3,mg3,ac3,bc3,_,g3,pm3,a3,b3,c3⟩;dsimp only;have hk3:kindOf st3=kd:=g3.1.trans hk;refine cA (fun e5=>?b1) (fun e5=>?b2)
     generalize mg3 - 1=v;clear e5;revert v;refine ?key
     case b2=>exact ?key mg3
     intro v;refine O1 (wpS_modify ?_);refine bV (by omega) fun p1 hp1=>?_
     refine lX L hk3 (G2 _ _ hp1) G1 (by omega) (by omega) fun k hk1=>?_
     dsimp only;refine cA (fun k0=>?c1) (fun k0=>?c2)
     have pm4:=pm3.x k;refine dN (fun e6=>O4 (lS.dn _ _ _ _ _ _ _ _ g3 pm4.last)) (fun e6=>?_)
     refine dN (fun e7=>O4 (lS.dn _ _ _ _ _ _ _ _ g3 pm4.done)) (fun e7=>?_)
     generalize out3++xs.extract ia3 (ia3 + k)=o at pm4 ⊢;have n1:ia3 + k + 1 < xs.size:=by omega
     have n0:ia3<=ia3 + k:=by omega
     revert n0 n1 pm4;clear e6 e7 k0;generalize ia3 + k=n;clear hk1;generalize k=d;revert o n d;refine ?key2
     case c2=>exact ?key2 out3 ia3 k pm3 a3 (O5 _)
     intro o n d pm4 n1 n0;refine bV (by omega) fun p2 hp2=>?_
     have pm5:=pm4.py hp2;refine dN (fun e8=>O4 (lS.dn _ _ _ _ _ _ _ _ g3 pm5.done)) (fun e8=>?_)
     refine bV (by omega) fun p3 hp3=>?_
     refine lX L hk3 (G1 _ _ hp3) G2 (by omega) (by omega) fun k2 hk2=>?_
     dsimp only;refine cA (fun k20=>?d1) (fun k20=>?d2)
     have pm6:=pm5.y k2;refine dN (fun e9=>O4 (lS.dn _ _ _ _ _ _ _ _ g3 pm6.done)) (fun e9=>?_)
     generalize o.push _++ys.extract (ib3 + 1) (ib3 + 1 + k2)=o2 at pm6 ⊢;have m1:ib3 + 1 + k2 < ys.size:=by omega
     have m0:ib3 + 1<=ib3 + 1 + k2:=by omega
     revert m0 m1 pm6;clear e9 k20;generalize ib3 + 1 + k2=m;clear hk2;generalize k2=d2;revert o2 m d2;refine ?key3
     case d2=>exact ?key3 _ _ _ pm5 (by omega) (O5 _)
     intro o2 m d2 pm6 m1 m0;refine bV (by omega) fun p4 hp4=>?_
     have pm7:=pm6.px hp4;refine dN (fun e10=>O4 (lS.dn _ _ _ _ _ _ _ _ g3 pm7.last)) (fun e10=>?_)
     refine cA (fun _=>?_) (fun _=>?_)
     ·exact O4 (lS.go _ _ _ _ _ _ _ g3 pm7 (by omega) (by omega) (by omega))
     ·exact O4 (Lz.mk _ _ _ _ _ _ _ g3 pm7 (by omega) (by omega) (by omega))
    case post2 =>
     rintro _ st3 (⟨r,out3,ia3,ib3,mg3,ac3,bc3,_,g3,pr⟩ | ⟨out3,ia3,ib3,mg3,ac3,bc3,_,g3,pm3,a3,b3,c3⟩)
     ·exact O4 (zM.mk _ _ _ _ _ _ g3 pr)
     ·dsimp only;refine O1 (wpS_modify ?_);exact O4 (Lx.mk _ _ _ _ _ g3 pm3 a3 b3 (by omega))
end
def Pr (xs ys out:Array Keyed) (na nb:Nat):Prop:=out.toList.Perm (xs.toList.drop na++ys.toList.drop nb)
section
variable {xs ys out:Array Keyed}{na nb k:Nat}
def iu (zs:Array Keyed){i n:Nat}(h:i<=n):zs.toList.drop i=(zs.extract i n).toList++zs.toList.drop n:=by
 obtain ⟨d,rfl⟩:=Nat.exists_eq_add_of_le h;rw [Array.toList_extract,List.extract_eq_take_drop,Nat.add_sub_cancel_left,<- List.drop_drop];exact (List.take_append_drop d _).symm
def Pr.x (h:Pr xs ys out na nb)(hk:k<=na):Pr xs ys (out++(xs.extract k na).reverse) k nb:=by
 unfold Pr at *;rw [Array.toList_append,iu xs hk,Array.toList_reverse,List.append_assoc];refine (h.append_right _).trans ?_;refine List.perm_append_comm.trans ?_;exact List.Perm.append_right _ (List.reverse_perm _)
def Pr.y (h:Pr xs ys out na nb)(hk:k<=nb):Pr xs ys (out++(ys.extract k nb).reverse) na k:=by
 unfold Pr at *;rw [Array.toList_append,iu ys hk,Array.toList_reverse];refine (h.append_right _).trans ?_;rw [List.append_assoc];refine List.Perm.append_left _ ?_;refine List.perm_append_comm.trans ?_;exact List.Perm.append_right _ (List.reverse_perm _)
def wg {zs out:Array Keyed}{i:Nat}{p:Keyed}(h1:1<=i)(hp:zs[i - 1]?=some p):out.push p=out++(zs.extract (i - 1) i).reverse:=by
 have e:=pK (out:=#[]) hp;rw [show i - 1 + 1=i by omega] at e
 have e2:zs.extract (i - 1) i=#[p]:=by
  rw [Array.empty_append] at e;exact e.symm
 rw [e2];rfl
def Pr.px {p:Keyed}(h:Pr xs ys out na nb)(h1:1<=na)(hp:xs[na - 1]?=some p):Pr xs ys (out.push p) (na - 1) nb:=by
 rw [wg h1 hp];exact h.x (by omega)
def Pr.py {p:Keyed}(h:Pr xs ys out na nb)(h1:1<=nb)(hp:ys[nb - 1]?=some p):Pr xs ys (out.push p) na (nb - 1):=by
 rw [wg h1 hp];exact h.y (by omega)
def Pr.done (h:Pr xs ys out na nb):(xs.extract 0 na++ys.extract 0 nb++out.reverse).toList.Perm (xs.toList++ys.toList):=by
 unfold Pr at h;have e1:=iu xs (Nat.zero_le na);have e2:=iu ys (Nat.zero_le nb);rw [List.drop_zero] at e1 e2;rw [Array.toList_append,Array.toList_append,Array.toList_reverse]
 conv=>rhs;rw [e1,e2]
 rw [List.append_assoc,List.append_assoc];refine List.Perm.append_left _ ?_;refine (List.Perm.append_left _ ((List.reverse_perm _).trans h)).trans ?_;rw [<- List.append_assoc,<- List.append_assoc];exact List.Perm.append_right _ List.perm_append_comm
def Pr.first (h:Pr xs ys out na nb):(ys.extract 0 nb++xs.extract 0 na++out.reverse).toList.Perm (xs.toList++ys.toList):=by
 refine List.Perm.trans ?_ h.done;rw [Array.toList_append,Array.toList_append,Array.toList_append,Array.toList_append];exact List.Perm.append_right _ List.perm_append_comm
end
inductive Js (st:SortSt)(xs ys:Array Keyed) (x:Nat):Option (Array Keyed)×Nat×Nat×Array Keyed×Nat->SortSt->Prop
 | mk:∀ (na nb:Nat)(out:Array Keyed) (mg:Nat)(st':SortSt),kg st st'->Pr xs ys out na nb->1<=na->2<=nb->na<=xs.size->nb<=ys.size->na + nb + x + 1<=xs.size + ys.size->Js st xs ys x (none,na,nb,out,mg) st'
inductive Ae (st:SortSt)(xs ys:Array Keyed):Option (Array Keyed)×Nat×Nat×Array Keyed×Nat->SortSt->Prop
 | mk:∀ (r:Array Keyed) (na nb:Nat)(out:Array Keyed) (mg:Nat)(st':SortSt),kg st st'->r.toList.Perm (xs.toList++ys.toList)->Ae st xs ys (some r,na,nb,out,mg) st'
inductive Gm (st:SortSt)(xs ys:Array Keyed) (n y:Nat):Option (Array Keyed)×Nat×Nat×Array Keyed×Nat×Nat->SortSt->Prop
 | mk:∀ (na nb:Nat)(out:Array Keyed) (ac bc:Nat),Pr xs ys out na nb->1<=na->2<=nb->na<=xs.size->nb<=ys.size->na + nb + y<=n->Gm st xs ys n y (none,na,nb,out,ac,bc) st
inductive pI (st:SortSt)(xs ys:Array Keyed) (n:Nat):Option (Array Keyed)×Nat×Nat×Array Keyed×Nat×Nat->SortSt->Prop
 | dn:∀ (r:Array Keyed) (na nb:Nat)(out:Array Keyed) (ac bc:Nat),r.toList.Perm (xs.toList++ys.toList)->pI st xs ys n (some r,na,nb,out,ac,bc) st
 | go:∀ (na nb:Nat)(out:Array Keyed) (ac bc:Nat),Pr xs ys out na nb->1<=na->2<=nb->na<=xs.size->nb<=ys.size->na + nb + 1<=n->pI st xs ys n (none,na,nb,out,ac,bc) st
inductive JR (st:SortSt)(xs ys:Array Keyed) (n:Nat):Option (Array Keyed)×Nat×Nat×Array Keyed×Nat×Nat×Nat->SortSt->Prop
 | mk:∀ (na nb:Nat)(out:Array Keyed) (mg ac bc:Nat)(st':SortSt),kg st st'->Pr xs ys out na nb->1<=na->2<=nb->na<=xs.size->nb<=ys.size->na + nb<=n->JR st xs ys n (none,na,nb,out,mg,ac,bc) st'
inductive l5 (st:SortSt)(xs ys:Array Keyed) (n:Nat):Option (Array Keyed)×Nat×Nat×Array Keyed×Nat×Nat×Nat->SortSt->Prop
 | dn:∀ (r:Array Keyed) (na nb:Nat)(out:Array Keyed) (mg ac bc:Nat)(st':SortSt),kg st st'->r.toList.Perm (xs.toList++ys.toList)->l5 st xs ys n (some r,na,nb,out,mg,ac,bc) st'
 | go:∀ (na nb:Nat)(out:Array Keyed) (mg ac bc:Nat)(st':SortSt),kg st st'->Pr xs ys out na nb->1<=na->2<=nb->na<=xs.size->nb<=ys.size->na + nb<=n->l5 st xs ys n (none,na,nb,out,mg,ac,bc) st'
section
variable {prog:Program}{w:World}{A:Around}{E:Value->Shared->Prop}{s:Shared}{kd:SortKind}{P:Value->Prop}
def Mp {st:SortSt}{xs ys:Array Keyed}{Q:Array Keyed->SortSt->Prop}(L:g9 prog w A s kd P)(hk:kindOf st=kd)(G1:Good P xs)(G2:Good P ys)(h1:1<=xs.size)(h2:1<=ys.size)(h:∀ zs st',kg st st'->zs.toList.Perm (xs.toList++ys.toList)->Q zs st') :
  wpS (model prog w) A E s (vY xs ys) Q st:=by
 unfold vY;refine O1 (wpS_lift (wpAny_rule ⟨rfl,?_⟩));dsimp only;refine bV (by omega) fun p hp=>?_
 have pm0:Pr xs ys #[p] (xs.size - 1) ys.size:=by
  have z:Pr xs ys #[] xs.size ys.size:=by
   unfold Pr;rw [List.drop_of_length_le (by simp),List.drop_of_length_le (by simp)]
   exact List.Perm.refl _
  exact z.px h1 hp
 have g0:kg st st:=⟨rfl,rfl,rfl,rfl⟩;refine dN (fun e1=>O4 (h _ _ g0 pm0.done)) (fun e1=>?_)
 refine dN (fun e2=>O4 (h _ _ g0 pm0.first)) (fun e2=>?_)
 refine O1 (wpS_get ?_);refine O1 (wpS_mono (wpS_forRange (I:=Js st xs ys) (Q:=Ae st xs ys) ?step ?fin (.mk _ _ _ _ _ g0 pm0 (by omega) (by omega) (by omega) (by omega) (by omega))) ?post)
 case post =>
  rintro _ st' ⟨r,na,nb,out,mg,_,g,pr⟩;dsimp only;exact O4 (h _ _ g pr)
 case fin =>
  rintro _ st' ⟨na,nb,out,mg,_,_,_,a,b,c,d,e⟩;omega
 case step =>
  rintro x _ st' _ _ ⟨na,nb,out,mg,_,g,pm,a1,b1,c1,d1,f1⟩;dsimp only;have hk':kindOf st'=kd:=g.1.trans hk;refine O1 (wpS_mono (wpS_forRange (I:=Gm st' xs ys (na + nb)) (Q:=pI st' xs ys (na + nb)) ?step1 ?fin1 (.mk _ _ _ _ _ pm a1 b1 c1 d1 (by omega))) ?post1)
  case fin1 =>
   rintro _ _ ⟨na2,mK,out2,ac,bc,_,a,b,c,d,e⟩;omega
  case step1 =>
   rintro y _ _ _ _ ⟨na2,mK,out2,ac,bc,pm2,a2,b2,c2,d2,f2⟩;dsimp only;refine bV (by omega) fun p1 hp1=>?_
   refine bV (by omega) fun p2 hp2=>?_
   refine vF L hk' (G2 _ _ hp1) (G1 _ _ hp2) fun b=>?_
   dsimp only;cases b with
   | true =>
    rw [if_pos rfl];refine bV (by omega) fun p3 hp3=>?_
    have pm3:=pm2.px (by omega) hp3
    refine dN (fun e3=>O4 (pI.dn _ _ _ _ _ _ pm3.done)) (fun e3=>?_)
    refine cA (fun e4=>?_) (fun e4=>?_)
    ·exact O4 (pI.go _ _ _ _ _ pm3 (by omega) (by omega) (by omega) (by omega) (by omega))
    ·exact O4 (Gm.mk _ _ _ _ _ pm3 (by omega) (by omega) (by omega) (by omega) (by omega))
   | false =>
    rw [if_neg ON];refine bV (by omega) fun p3 hp3=>?_
    have pm3:=pm2.py (by omega) hp3
    refine dN (fun e3=>O4 (pI.dn _ _ _ _ _ _ pm3.first)) (fun e3=>?_)
    refine cA (fun e4=>?_) (fun e4=>?_)
    ·exact O4 (pI.go _ _ _ _ _ pm3 (by omega) (by omega) (by omega) (by omega) (by omega))
    ·exact O4 (Gm.mk _ _ _ _ _ pm3 (by omega) (by omega) (by omega) (by omega) (by omega))
  case post1 =>
   rintro _ _ (⟨r,na2,mK,out2,ac,bc,pr⟩ | ⟨na2,mK,out2,ac,bc,pm2,a2,b2,c2,d2,f2⟩)
   ·exact O4 (Ae.mk _ _ _ _ _ _ g pr)
   ·dsimp only;refine O1 (wpS_lift (wpAny_rule ⟨rfl,?_⟩));refine O1 (wpS_mono (wpS_forRange (I:=fun _=>JR st xs ys (na2 + mK)) (Q:=l5 st xs ys (na2 + mK)) ?step2 (fun c st3 q=>by cases q;exact .go _ _ _ _ _ _ _ ‹_› ‹_› ‹_› ‹_› ‹_› ‹_› ‹_›) (.mk _ _ _ _ _ _ _ g pm2 a2 b2 c2 d2 (O5 _))) ?post2)
    case step2 =>
     rintro y _ st3 _ _ ⟨na3,nb3,out3,mg3,ac3,bc3,_,g3,pm3,a3,b3,c3,d3,f3⟩;dsimp only;have hk3:kindOf st3=kd:=g3.1.trans hk;refine cA (fun e5=>?b1) (fun e5=>?b2)
     generalize mg3 - 1=v;clear e5;revert v;refine ?key
     case b2=>exact ?key mg3
     intro v;refine O1 (wpS_modify ?_);refine bV (by omega) fun p1 hp1=>?_
     refine lX L hk3 (G2 _ _ hp1) G1 (by omega) (by omega) fun k hk1=>?_
     dsimp only;refine cA (fun k0=>?c1) (fun k0=>?c2)
     have pm4:=pm3.x hk1;refine dN (fun e7=>O4 (l5.dn _ _ _ _ _ _ _ _ g3 pm4.done)) (fun e7=>?_)
     generalize out3++(xs.extract k na3).reverse=o at pm4 ⊢;generalize na3 - k=d;have n1:1<=k:=by omega
     revert n1 pm4;clear e7 k0;revert hk1;generalize k=n;revert d o n;refine ?key2
     case c2=>exact ?key2 out3 (na3 - k) na3 (O5 _) pm3 (by omega)
     intro o d n hk1 pm4 n1;refine bV (by omega) fun p2 hp2=>?_
     have pm5:=pm4.py (by omega) hp2
     refine dN (fun e8=>O4 (l5.dn _ _ _ _ _ _ _ _ g3 pm5.first)) (fun e8=>?_)
     refine bV (by omega) fun p3 hp3=>?_
     refine lX L hk3 (G1 _ _ hp3) G2 (by omega) (by omega) fun k2 hk2=>?_
     dsimp only;refine cA (fun k20=>?d1) (fun k20=>?d2)
     have pm6:=pm5.y hk2;refine dN (fun e9=>O4 (l5.dn _ _ _ _ _ _ _ _ g3 pm6.first)) (fun e9=>?_)
     refine dN (fun e9'=>O4 (l5.dn _ _ _ _ _ _ _ _ g3 pm6.done)) (fun e9'=>?_)
     have n2:2<=k2:=by omega
     revert n2 pm6;generalize o.push _++(ys.extract k2 (nb3 - 1)).reverse=o2;generalize nb3 - 1 - k2=d2;clear e9 e9' k20;revert hk2;generalize k2=m;revert d2 o2 m;refine ?key3
     case d2=>exact ?key3 _ _ _ (O5 _) pm5 (by omega)
     intro o2 d2 m hm pm6 n2;refine bV (by omega) fun p4 hp4=>?_
     have pm7:=pm6.px (by omega) hp4
     refine dN (fun e10=>O4 (l5.dn _ _ _ _ _ _ _ _ g3 pm7.done)) (fun e10=>?_)
     refine cA (fun _=>?_) (fun _=>?_)
     ·exact O4 (l5.go _ _ _ _ _ _ _ g3 pm7 (by omega) (by omega) (by omega) (by omega) (by omega))
     ·exact O4 (JR.mk _ _ _ _ _ _ _ g3 pm7 (by omega) (by omega) (by omega) (by omega) (by omega))
    case post2 =>
     rintro _ st3 (⟨r,na3,nb3,out3,mg3,ac3,bc3,_,g3,pr⟩ | ⟨na3,nb3,out3,mg3,ac3,bc3,_,g3,pm3,a3,b3,c3,d3,f3⟩)
     ·exact O4 (Ae.mk _ _ _ _ _ _ g3 pr)
     ·dsimp only;refine O1 (wpS_modify ?_);exact O4 (Js.mk _ _ _ _ _ g3 pm3 a3 b3 c3 d3 (by omega))
end
structure SB (kd:SortKind)(xs0:Array Keyed)(st:SortSt):Prop where
 perm:(arrOf st).Perm xs0
 kind:kindOf st=kd
 ok:failedOf st=none
theorem SB.size {kd:SortKind}{xs0:Array Keyed}{st:SortSt}(B:SB kd xs0 st):(arrOf st).size=xs0.size:=B.perm.size_eq
def Good.perm {P:Value->Prop}{xs ys:Array Keyed}(G:Good P ys)(p:xs.Perm ys):Good P xs:=fun i q h=>by
 have m:q∈xs.toList:=OO (by rw [OZ];exact h)
 have m2:q∈ys.toList:=(Array.perm_iff_toList_perm.mp p).mem_iff.mp m;obtain ⟨j,hj⟩:=List.getElem?_of_mem m2;rw [OZ] at hj;exact G j q hj
section
variable {prog:Program}{w:World}{A:Around}{E:Value->Shared->Prop}{s:Shared}{kd:SortKind}{P:Value->Prop}{xs0:Array Keyed}
def fj {st:SortSt}{i j:Nat}{Q:Option Bool->SortSt->Prop}(L:g9 prog w A s kd P)(G:Good P xs0)(B:SB kd xs0 st)(hi:i < xs0.size)(hj:j < xs0.size)(h:∀ b,Q (some b) st):wpS (model prog w) A E s (ltAt' i j) Q st:=by
 rw [ltAt'_eq];refine O1 (wpS_get ?_);have G':=G.perm B.perm;refine O1 (jw (by rw [B.size];exact hi) fun p hp=>?_)
 refine O1 (jw (by rw [B.size];exact hj) fun q hq=>?_)
 exact ask L B.kind (G' _ _ hp) (G' _ _ hq) h
def gS {st:SortSt}{i j:Nat}{Q:Unit->SortSt->Prop}(B:SB kd xs0 st)(h:∀ st',SB kd xs0 st'->pendingOf st'=pendingOf st->Q () st'):wpS (model prog w) A E s (reverseSlice' i j) Q st:=by
 rw [reverseSlice'_eq];exact wpS_modify (h _ ⟨(mirror_perm _ _ _ _).trans B.perm,B.kind,B.ok⟩ rfl)
def DY {st:SortSt}{lo nrem:Nat}{Q:Option Nat->SortSt->Prop}(L:g9 prog w A s kd P)(G:Good P xs0)(B:SB kd xs0 st)(h1:1<=nrem)(hn:lo + nrem<=xs0.size)(h:∀ m st',SB kd xs0 st'->pendingOf st'=pendingOf st->1<=m->m<=nrem->Q (some m) st') :
  wpS (model prog w) A E s (countRun' lo nrem) Q st:=by
 unfold countRun';refine O1 (wpS_mono (wpS_forRange (I:=fun x c st'=>st'=st/\c.1=none/\c.2=x) (Q:=fun c st'=>st'=st/\c.1=none/\1<=c.2/\c.2<=nrem) ?step ?fin ⟨rfl,rfl,rfl⟩) ?post)
 case step =>
  rintro x ⟨o,n⟩ st' a b ⟨rfl,rfl,rfl⟩;dsimp only;refine O1 (fj L G B (by dsimp only at a b;omega) (by dsimp only at a b;omega) fun c=>?_)
  dsimp only;refine cA (fun _=>O4 ⟨rfl,rfl,by dsimp only at a b ⊢;omega,by dsimp only at a b ⊢;omega⟩) (fun _=>O4 ⟨rfl,rfl,rfl⟩)
 case fin =>
  rintro ⟨o,n⟩ st' ⟨rfl,rfl,e⟩;dsimp only at e;exact ⟨rfl,rfl,by dsimp only;omega,by dsimp only;omega⟩
 case post =>
  rintro ⟨o,n⟩ st' ⟨rfl,rfl,n1,n2⟩;dsimp only at n1 n2 ⊢;refine dN (fun e=>O4 (h _ _ B rfl n1 n2)) (fun e=>?_)
  refine cA (fun n0=>?_) (fun n0=>?_)
  ·refine O1 (fj L G B (by omega) (by omega) fun c=>?_)
   dsimp only;refine cA (fun _=>O4 (h _ _ B rfl n1 n2)) (fun _=>?_)
   refine O1 (gS B fun st6 B6 p6=>?_)
   refine O1 (wpS_lift (wpAny_rule ⟨rfl,?_⟩));refine O1 (wpS_mono (wpS_forRange (I:=fun x c st2=>SB kd xs0 st2/\pendingOf st2=pendingOf st'/\c.1=none/\c.2.1=x) (Q:=fun c st2=>SB kd xs0 st2/\pendingOf st2=pendingOf st'/\c.1=none/\1<=c.2.1/\c.2.1<=nrem) ?step1 ?fin1 ⟨B6,p6,rfl,rfl⟩) ?post1)
   case step1 =>
    rintro x ⟨o,m,q⟩ st2 a b ⟨B2,p2,rfl,rfl⟩;dsimp only at a b ⊢;refine O1 (fj L G B2 (by omega) (by omega) fun c=>?_)
    dsimp only;refine cA (fun _=>?_) (fun _=>?_)
    ·refine cA (fun _=>?_) (fun _=>?_)
     ·exact O1 (gS B2 fun st3 B3 p3=>O4 ⟨B3,p3.trans p2,rfl,rfl⟩)
     ·exact O4 ⟨B2,p2,rfl,rfl⟩
    ·refine O1 (fj L G B2 (by omega) (by omega) fun c2=>?_)
     dsimp only;refine cA (fun _=>?_) (fun _=>?_)
     ·exact O4 ⟨B2,p2,rfl,by dsimp only;omega,by dsimp only;omega⟩
     ·exact O4 ⟨B2,p2,rfl,rfl⟩
   case fin1 =>
    rintro ⟨o,m,q⟩ st2 ⟨B2,p2,rfl,e2⟩;dsimp only at e2;exact ⟨B2,p2,rfl,by dsimp only;omega,by dsimp only;omega⟩
   case post1 =>
    rintro ⟨o,m,q⟩ st2 ⟨B2,p2,rfl,m1,m2⟩;dsimp only at m1 m2 ⊢;refine cA (fun _=>?_) (fun _=>?_)
    ·refine O1 (gS B2 fun st3 B3 p3=>?_)
     refine O1 (gS B3 fun st4 B4 p4=>?_)
     refine O1 (wpS_mono (wpS_forRange (I:=fun x c st5=>st5=st4/\c.1=none/\c.2=x) (Q:=fun c st5=>st5=st4/\c.1=none/\1<=c.2/\c.2<=nrem) ?stepL2 ?finL2 ⟨rfl,rfl,rfl⟩) ?postL2)
     case stepL2 =>
      rintro x ⟨o,m⟩ st5 a b ⟨rfl,rfl,rfl⟩;dsimp only at a b ⊢;refine O1 (fj L G B4 (by omega) (by omega) fun c=>?_)
      dsimp only;refine cA (fun _=>O4 ⟨rfl,rfl,by dsimp only;omega,by dsimp only;omega⟩) (fun _=>O4 ⟨rfl,rfl,rfl⟩)
     case finL2 =>
      rintro ⟨o,m⟩ st5 ⟨rfl,rfl,e2⟩;dsimp only at e2;exact ⟨rfl,rfl,by dsimp only;omega,by dsimp only;omega⟩
     case postL2 =>
      rintro ⟨o,m⟩ st5 ⟨rfl,rfl,k1,k2⟩;dsimp only at k1 k2 ⊢;exact O4 (h _ _ B4 (p4.trans (p3.trans p2)) k1 k2)
    ·refine O1 (gS B2 fun st4 B4 p4=>?_)
     refine O1 (wpS_mono (wpS_forRange (I:=fun x c st5=>st5=st4/\c.1=none/\c.2=x) (Q:=fun c st5=>st5=st4/\c.1=none/\1<=c.2/\c.2<=nrem) ?stepL3 ?finL3 ⟨rfl,rfl,rfl⟩) ?postL3)
     case stepL3 =>
      rintro x ⟨o,m⟩ st5 a b ⟨rfl,rfl,rfl⟩;dsimp only at a b ⊢;refine O1 (fj L G B4 (by omega) (by omega) fun c=>?_)
      dsimp only;refine cA (fun _=>O4 ⟨rfl,rfl,by dsimp only;omega,by dsimp only;omega⟩) (fun _=>O4 ⟨rfl,rfl,rfl⟩)
     case finL3 =>
      rintro ⟨o,m⟩ st5 ⟨rfl,rfl,e2⟩;dsimp only at e2;exact ⟨rfl,rfl,by dsimp only;omega,by dsimp only;omega⟩
     case postL3 =>
      rintro ⟨o,m⟩ st5 ⟨rfl,rfl,k1,k2⟩;dsimp only at k1 k2 ⊢;exact O4 (h _ _ B4 (p4.trans p2) k1 k2)
  ·have p6:pendingOf st'=pendingOf st':=rfl;refine O1 (wpS_lift (wpAny_rule ⟨rfl,?_⟩));refine O1 (wpS_mono (wpS_forRange (I:=fun x c st2=>SB kd xs0 st2/\pendingOf st2=pendingOf st'/\c.1=none/\c.2.1=x) (Q:=fun c st2=>SB kd xs0 st2/\pendingOf st2=pendingOf st'/\c.1=none/\1<=c.2.1/\c.2.1<=nrem) ?step4 ?fin4 ⟨B,p6,rfl,rfl⟩) ?post4)
   case step4 =>
    rintro x ⟨o,m,q⟩ st2 a b ⟨B2,p2,rfl,rfl⟩;dsimp only at a b ⊢;refine O1 (fj L G B2 (by omega) (by omega) fun c=>?_)
    dsimp only;refine cA (fun _=>?_) (fun _=>?_)
    ·refine cA (fun _=>?_) (fun _=>?_)
     ·exact O1 (gS B2 fun st3 B3 p3=>O4 ⟨B3,p3.trans p2,rfl,rfl⟩)
     ·exact O4 ⟨B2,p2,rfl,rfl⟩
    ·refine O1 (fj L G B2 (by omega) (by omega) fun c2=>?_)
     dsimp only;refine cA (fun _=>?_) (fun _=>?_)
     ·exact O4 ⟨B2,p2,rfl,by dsimp only;omega,by dsimp only;omega⟩
     ·exact O4 ⟨B2,p2,rfl,rfl⟩
   case fin4 =>
    rintro ⟨o,m,q⟩ st2 ⟨B2,p2,rfl,e2⟩;dsimp only at e2;exact ⟨B2,p2,rfl,by dsimp only;omega,by dsimp only;omega⟩
   case post4 =>
    rintro ⟨o,m,q⟩ st2 ⟨B2,p2,rfl,m1,m2⟩;dsimp only at m1 m2 ⊢;refine cA (fun _=>?_) (fun _=>?_)
    ·refine O1 (gS B2 fun st3 B3 p3=>?_)
     refine O1 (gS B3 fun st4 B4 p4=>?_)
     refine O1 (wpS_mono (wpS_forRange (I:=fun x c st5=>st5=st4/\c.1=none/\c.2=x) (Q:=fun c st5=>st5=st4/\c.1=none/\1<=c.2/\c.2<=nrem) ?stepL5 ?finL5 ⟨rfl,rfl,rfl⟩) ?postL5)
     case stepL5 =>
      rintro x ⟨o,m⟩ st5 a b ⟨rfl,rfl,rfl⟩;dsimp only at a b ⊢;refine O1 (fj L G B4 (by omega) (by omega) fun c=>?_)
      dsimp only;refine cA (fun _=>O4 ⟨rfl,rfl,by dsimp only;omega,by dsimp only;omega⟩) (fun _=>O4 ⟨rfl,rfl,rfl⟩)
     case finL5 =>
      rintro ⟨o,m⟩ st5 ⟨rfl,rfl,e2⟩;dsimp only at e2;exact ⟨rfl,rfl,by dsimp only;omega,by dsimp only;omega⟩
     case postL5 =>
      rintro ⟨o,m⟩ st5 ⟨rfl,rfl,k1,k2⟩;dsimp only at k1 k2 ⊢;exact O4 (h _ _ B4 (p4.trans (p3.trans p2)) k1 k2)
    ·refine O1 (gS B2 fun st4 B4 p4=>?_)
     refine O1 (wpS_mono (wpS_forRange (I:=fun x c st5=>st5=st4/\c.1=none/\c.2=x) (Q:=fun c st5=>st5=st4/\c.1=none/\1<=c.2/\c.2<=nrem) ?stepL6 ?finL6 ⟨rfl,rfl,rfl⟩) ?postL6)
     case stepL6 =>
      rintro x ⟨o,m⟩ st5 a b ⟨rfl,rfl,rfl⟩;dsimp only at a b ⊢;refine O1 (fj L G B4 (by omega) (by omega) fun c=>?_)
      dsimp only;refine cA (fun _=>O4 ⟨rfl,rfl,by dsimp only;omega,by dsimp only;omega⟩) (fun _=>O4 ⟨rfl,rfl,rfl⟩)
     case finL6 =>
      rintro ⟨o,m⟩ st5 ⟨rfl,rfl,e2⟩;dsimp only at e2;exact ⟨rfl,rfl,by dsimp only;omega,by dsimp only;omega⟩
     case postL6 =>
      rintro ⟨o,m⟩ st5 ⟨rfl,rfl,k1,k2⟩;dsimp only at k1 k2 ⊢;exact O4 (h _ _ B4 (p4.trans p2) k1 k2)
def Kz {st:SortSt}{lo n k:Nat}{Q:Bool->SortSt->Prop}(L:g9 prog w A s kd P)(G:Good P xs0)(B:SB kd xs0 st)(hn:lo + n<=xs0.size)(h:∀ st',SB kd xs0 st'->pendingOf st'=pendingOf st->Q true st') :
  wpS (model prog w) A E s (binarySort' lo n k) Q st:=by
 unfold binarySort';refine O1 (wpS_mono (wpS_forRange (I:=fun x c st'=>SB kd xs0 st'/\pendingOf st'=pendingOf st/\c.1=none) (Q:=fun c st'=>SB kd xs0 st'/\pendingOf st'=pendingOf st/\c.1=none) ?step (fun _ _ q=>q) ⟨B,rfl,rfl⟩) ?post)
 case post =>
  rintro ⟨o,u⟩ st' ⟨B1,p1,rfl⟩;exact O4 (h _ B1 p1)
 case step =>
  rintro x ⟨o,u⟩ st' a b ⟨B1,p1,rfl⟩;dsimp only;refine O1 (wpS_mono (wpS_forRange (I:=fun y c st2=>st2=st'/\c.1=none/\c.2.2<=x) (Q:=fun c st2=>st2=st'/\c.1=none/\c.2.2<=x) ?step1 (fun _ _ q=>q) ⟨rfl,rfl,O5 _⟩) ?post1)
  case step1 =>
   rintro y ⟨o,l,r⟩ st2 _ _ ⟨rfl,rfl,le⟩;dsimp only at le ⊢;refine cA (fun _=>O4 ⟨rfl,rfl,le⟩) (fun lr=>?_)
   refine O1 (fj L G B1 (by omega) (by omega) fun c=>?_)
   dsimp only;refine cA (fun _=>O4 ⟨rfl,rfl,by dsimp only;omega⟩) (fun _=>O4 ⟨rfl,rfl,le⟩)
  case post1 =>
   rintro ⟨o,l,r⟩ st2 ⟨rfl,rfl,le⟩;dsimp only;refine O1 (wpS_modify ?_);exact O4 ⟨⟨(bubble_perm _ _ _).trans B1.perm,B1.kind,B1.ok⟩,p1,rfl⟩
end
theorem xy (sa:Nat):∀ (l:List Keyed) (i:Nat)(a:Array Keyed),sa + i + l.length<=a.size->((l.zipIdx i).foldl (fun a (x:Keyed×Nat)=>a.setIfInBounds (sa + x.2) x.1) a).toList=a.toList.take (sa + i)++(l++a.toList.drop (sa + i + l.length))
 | [],i,a,h=>by simp
 | p::r,i,a,h=>by
  have hl:(p::r).length=r.length + 1:=rfl;rw [hl] at h;rw [List.zipIdx_cons,List.foldl_cons,xy sa r (i + 1) _ (by rw [Array.size_setIfInBounds];omega)]
  rw [Array.toList_setIfInBounds];have lt:sa + i < a.toList.length:=by simp;omega
  have e1:(a.toList.set (sa + i) p).take (sa + (i + 1))=a.toList.take (sa + i)++[p]:=by
   rw [show sa + (i + 1)=sa + i + 1 by omega,List.take_succ,List.take_set_of_le (O5 _),List.getElem?_set_self lt]
   rfl
  have e2:(a.toList.set (sa + i) p).drop (sa + (i + 1) + r.length)=a.toList.drop (sa + i + (p::r).length):=by
   rw [List.drop_set_of_lt (by omega),hl]
   congr 1;omega
  rw [e1,e2];simp
def seg (a:Array Keyed){i j k:Nat}(h1:i<=j)(h2:j<=k):a.toList=a.toList.take i++((a.extract i j).toList++((a.extract j k).toList++a.toList.drop k)):=by
 have e1:=iu a h1;have e2:=iu a h2;rw [<- e2,<- e1,List.take_append_drop]
section
variable {prog:Program}{w:World}{A:Around}{E:Value->Shared->Prop}{s:Shared}{kd:SortKind}{P:Value->Prop}{xs0:Array Keyed}
theorem Good.extract {xs:Array Keyed}(G:Good P xs) (i j:Nat):Good P (xs.extract i j):=fun k p h=>by
 rw [Array.getElem?_extract] at h;split at h
 ·exact G _ _ h
 ·cases h
def ED {st:SortSt}{i sa na pw sb nb pb:Nat}{Q:Bool->SortSt->Prop}(L:g9 prog w A s kd P)(G:Good P xs0)(B:SB kd xs0 st)(e1:(pendingOf st)[i]?=some (sa,na,pw))(e2:(pendingOf st)[i + 1]?=some (sb,nb,pb))(c:sb=sa + na)(n1:1<=na)(n2:1<=nb)(le:sb + nb<=xs0.size)
  (h:∀ st',SB kd xs0 st'->pendingOf st'=((pendingOf st).setIfInBounds i (sa,na + nb,pw)).eraseIdxIfInBounds (i + 1)->Q true st'):wpS (model prog w) A E s (mergeAt' i) Q st:=by
 have G':=G.perm B.perm;have sz:=B.size;unfold mergeAt';refine O1 (wpS_get ?_);dsimp only;rw [e1,e2];dsimp only;refine O1 (?_:wpS _ _ _ _ (set _) _ _);unfold wpS;rw [StateT.run_set];refine O0 ⟨rfl,?_⟩;refine O1 (jw (by rw [sz];omega) fun p hp=>?_)
 have B1:SB kd xs0 (SortSt.mk' (kindOf st) (arrOf st) (((pendingOf st).setIfInBounds i (sa,na + nb,pw)).eraseIdxIfInBounds (i + 1)) (gallopOf st) (failedOf st)):=⟨B.perm,B.kind,B.ok⟩;refine O1 (mX L B.kind (G' _ _ hp) G' (show sa + na<=(arrOf st).size by omega) (by omega) fun k hk=>?_)
 dsimp only;refine dN (fun _=>O4 (h _ B1 rfl)) (fun e3=>?_)
 refine O1 (jw (show sa + k + (na - k) - 1 < (arrOf st).size by omega) fun p2 hp2=>?_)
 refine O1 (mX L B.kind (G' _ _ hp2) G' (show sb + nb<=(arrOf st).size by omega) (by omega) fun k2 hk2=>?_)
 dsimp only;refine dN (fun _=>O4 (h _ B1 rfl)) (fun e4=>?_)
 have x1:((arrOf st).extract (sa + k) sb).size=sb - (sa + k):=by
  rw [Array.size_extract];omega
 have x2:((arrOf st).extract sb (sb + k2)).size=k2:=by
  rw [Array.size_extract];omega
 have fin:∀ zs:Array Keyed,zs.toList.Perm (((arrOf st).extract (sa + k) sb).toList++((arrOf st).extract sb (sb + k2)).toList)->(zs.toList.zipIdx.foldl (fun a (x:Keyed×Nat)=>a.setIfInBounds (sa + k + x.2) x.1) (arrOf st)).Perm xs0:=fun zs pm=>by
  have zl:zs.toList.length=sb + k2 - (sa + k):=by
   rw [pm.length_eq,OR,Array.length_toList,Array.length_toList,x1,x2];omega
  refine Array.Perm.trans (Array.perm_iff_toList_perm.mpr ?_) B.perm;rw [xy (sa + k) zs.toList 0 (arrOf st) (by omega)]
  have e:=seg (arrOf st) (show sa + k<=sb by omega) (show sb<=sb + k2 by omega)
  rw [Nat.add_zero,show sa + k + zs.toList.length=sb + k2 by omega]
  conv=>rhs;rw [e]
  refine List.Perm.append_left _ ?_;rw [<- List.append_assoc];exact pm.append_right _
 refine cA (fun _=>?_) (fun _=>?_)
 ·refine O1 (LS L B.kind (G'.extract _ _) (G'.extract _ _) (show 1<=((arrOf st).extract (sa + k) sb).size by omega) (show 1<=((arrOf st).extract sb (sb + k2)).size by omega) fun zs st2 g pm=>?_)
  obtain ⟨g1,g2,g3,g4⟩:=g;refine O1 (wpS_modify ?_);refine O1 (wpS_get ?_);refine O4 ?_;have e:(failedOf st2).isNone=true:=by
   rw [g4];show (failedOf st).isNone=true;rw [B.ok];rfl
  show Q (failedOf st2).isNone _;rw [e];refine h _ ⟨?_,g1.trans B.kind,g4.trans B.ok⟩ g3;show (zs.toList.zipIdx.foldl (fun a (x:Keyed×Nat)=>a.setIfInBounds (sa + k + x.2) x.1) (arrOf st2)).Perm xs0
  rw [g2];exact fin zs pm
 ·refine O1 (Mp L B.kind (G'.extract _ _) (G'.extract _ _) (show 1<=((arrOf st).extract (sa + k) sb).size by omega) (show 1<=((arrOf st).extract sb (sb + k2)).size by omega) fun zs st2 g pm=>?_)
  obtain ⟨g1,g2,g3,g4⟩:=g;refine O1 (wpS_modify ?_);refine O1 (wpS_get ?_);refine O4 ?_;have e:(failedOf st2).isNone=true:=by
   rw [g4];show (failedOf st).isNone=true;rw [B.ok];rfl
  show Q (failedOf st2).isNone _;rw [e];refine h _ ⟨?_,g1.trans B.kind,g4.trans B.ok⟩ g3;show (zs.toList.zipIdx.foldl (fun a (x:Keyed×Nat)=>a.setIfInBounds (sa + k + x.2) x.1) (arrOf st2)).Perm xs0
  rw [g2];exact fin zs pm
end
def Cont:Nat->List (Nat×Nat×Nat)->Nat->Prop
 | f,[],lo=>f=lo
 | f,(s,n,_)::r,lo=>s=f/\1<=n/\Cont (f + n) r lo
theorem Cont.le:∀ {l:List (Nat×Nat×Nat)}{f lo:Nat},Cont f l lo->f<=lo
 | [],f,lo,h=>Nat.le_of_eq h
 | (s,n,p)::r,f,lo,⟨_,h1,h⟩=>by
  have:=Cont.le h;omega
theorem Cont.two:∀ {l:List (Nat×Nat×Nat)}{f lo:Nat} (i:Nat),Cont f l lo->i + 1 < l.length->∃ sa na pw sb nb pb,l[i]?=some (sa,na,pw)/\l[i + 1]?=some (sb,nb,pb)/\sb=sa + na/\1<=na/\1<=nb/\sb + nb<=lo
 | (s,n,p)::(s2,n2,p2)::r,f,lo,0,⟨h1,h2,h3,h4,h5⟩,_=>⟨s,n,p,s2,n2,p2,rfl,rfl,by omega,h2,h4,by have:=h5.le;omega⟩
 | (s,n,p)::r,f,lo,i + 1,⟨_,_,h⟩,hl=>Cont.two i h (by simpa using hl)
 | [],_,_,_,_,hl=>by simp at hl
 | [_],_,_,0,_,hl=>by simp at hl
theorem Cont.merge:∀ {l:List (Nat×Nat×Nat)}{f lo:Nat} (i:Nat){sa na pw sb nb pb:Nat},Cont f l lo->l[i]?=some (sa,na,pw)->l[i + 1]?=some (sb,nb,pb)->Cont f ((l.set i (sa,na + nb,pw)).eraseIdx (i + 1)) lo
 | (s,n,p)::(s2,n2,p2)::r,f,lo,0,sa,na,pw,sb,nb,pb,⟨h1,h2,h3,h4,h5⟩,e1,e2=>by
  cases e1;cases e2;refine ⟨h1,by omega,?_⟩
  rw [<- Nat.add_assoc];exact h5
 | (s,n,p)::r,f,lo,i + 1,sa,na,pw,sb,nb,pb,⟨h1,h2,h⟩,e1,e2=>⟨h1,h2,Cont.merge i h e1 e2⟩
 | [],_,_,_,_,_,_,_,_,_,_,e1,_=>by cases e1
 | [_],_,_,0,_,_,_,_,_,_,_,_,e2=>by cases e2
theorem Cont.mod (pw:Nat):∀ {l:List (Nat×Nat×Nat)}{f lo:Nat} (j:Nat),Cont f l lo->Cont f (l.modify j fun x=>(x.1,x.2.1,pw)) lo
 | [],f,lo,j,h=>by
  rw [List.modify_nil];exact h
 | (s,n,p)::r,f,lo,0,⟨h1,h2,h⟩=>⟨h1,h2,h⟩
 | (s,n,p)::r,f,lo,j + 1,⟨h1,h2,h⟩=>⟨h1,h2,Cont.mod pw j h⟩
theorem Cont.push {n:Nat}(hn:1<=n):∀ {l:List (Nat×Nat×Nat)}{f lo:Nat},Cont f l lo->Cont f (l++[(lo,n,0)]) (lo + n)
 | [],f,lo,h=>⟨h.symm,hn,by show f + n=lo + n;rw [show f=lo from h]⟩
 | (s,m,p)::r,f,lo,⟨h1,h2,h⟩=>⟨h1,h2,Cont.push hn h⟩
section
variable {prog:Program}{w:World}{A:Around}{E:Value->Shared->Prop}{s:Shared}{kd:SortKind}{P:Value->Prop}{xs0:Array Keyed}
def pS {st:SortSt}{i lo:Nat}{Q:Bool->SortSt->Prop}(L:g9 prog w A s kd P)(G:Good P xs0)(B:SB kd xs0 st)(C:Cont 0 (pendingOf st).toList lo)(le:lo<=xs0.size)(hi:i + 1 < (pendingOf st).size)
  (h:∀ st',SB kd xs0 st'->Cont 0 (pendingOf st').toList lo->Q true st'):wpS (model prog w) A E s (mergeAt' i) Q st:=by
 obtain ⟨sa,na,pw,sb,nb,pb,e1,e2,c,n1,n2,l2⟩:=C.two i (by simpa using hi)
 refine ED L G B (by rw [<- OZ];exact e1) (by rw [<- OZ];exact e2) c n1 n2 (by omega) fun st' B' p'=>h st' B' ?_
 rw [p',Array.toList_eraseIdxIfInBounds,Array.toList_setIfInBounds];exact C.merge i e1 e2
def Hj {st:SortSt}{Q:Unit->SortSt->Prop}(L:g9 prog w A s kd P)(G:Good P xs0)(B:SB kd xs0 st)(p0:pendingOf st=#[])(h:∀ st',SB kd xs0 st'->Q () st'):wpS (model prog w) A E s sortRuns' Q st:=by
 rw [sortRuns'_eq];refine O1 (wpS_get ?_);dsimp only;rw [B.size];refine O1 (wpS_mono (wpS_forRange (I:=fun x c st'=>SB kd xs0 st'/\c.1=none/\Cont 0 (pendingOf st').toList c.2/\c.2<=xs0.size) (Q:=fun c st'=>SB kd xs0 st'/\c.1=none/\Cont 0 (pendingOf st').toList c.2/\c.2<=xs0.size) ?step (fun _ _ q=>q) ⟨B,rfl,by rw [p0];rfl,Nat.zero_le _⟩) ?post)
 case step =>
  rintro x ⟨o,lo⟩ st' _ _ ⟨B1,rfl,C1,l1⟩;dsimp only at C1 l1 ⊢;refine cA (fun _=>O4 ⟨B1,rfl,C1,l1⟩) (fun ge=>?_)
  refine O1 (DY L G B1 (by omega) (by omega) fun m st2 B2 p2 m1 m2=>?_)
  dsimp only;have C2:Cont 0 (pendingOf st2).toList lo:=by rw [p2];exact C1
  refine cA (fun lt=>?_) (fun lt=>?_)
  ·refine O1 (wpS_lift (wpAny_rule ⟨rfl,?_⟩));generalize hf:min (xs0.size - lo) (minRun' xs0.size xs0.size 0)=force;have f1:1<=force:=by omega
   have f2:lo + force<=xs0.size:=by omega
   refine O1 (Kz L G B2 f2 fun st3 B3 p3=>?_)
   have C3:Cont 0 (pendingOf st3).toList lo:=by rw [p3];exact C2
   refine cA (fun z=>absurd z (by decide)) (fun _=>?_)
   refine O1 (wpS_get ?_);cases hb:(pendingOf st3).back? with
   | none =>
    dsimp only;refine O1 (wpS_modify ?_);refine O4 ⟨⟨B3.perm,B3.kind,B3.ok⟩,rfl,?_,f2⟩;show Cont 0 ((pendingOf st3).push (lo,force,0)).toList (lo + force);rw [Array.toList_push];exact C3.push f1
   | some t =>
    obtain ⟨s1,n1',q1⟩:=t;dsimp only;refine O1 (wpS_mono (wpS_forRange (I:=fun y c st4=>SB kd xs0 st4/\c.1=none/\Cont 0 (pendingOf st4).toList lo) (Q:=fun c st4=>SB kd xs0 st4/\c.1=none/\Cont 0 (pendingOf st4).toList lo) ?step1 (fun _ _ q=>q) ⟨B3,rfl,C3⟩) ?post1)
    case step1 =>
     rintro y ⟨o,u⟩ st4 _ _ ⟨B4,rfl,C4⟩;refine O1 (wpS_get ?_);cases hm:(if (pendingOf st4).size > 1 then (pendingOf st4)[(pendingOf st4).size - 2]? else none) with
     | none=>exact O4 ⟨B4,rfl,C4⟩
     | some t =>
      obtain ⟨f1,f2,older⟩:=t;dsimp only;refine cA (fun _=>O4 ⟨B4,rfl,C4⟩) (fun _=>?_)
      have s2:(pendingOf st4).size > 1:=by
       by_cases z:(pendingOf st4).size > 1
       ·exact z
       ·rw [if_neg z] at hm;cases hm
      refine O1 (pS L G B4 C4 l1 (by omega) fun st5 B5 C5=>?_)
      exact cA (fun z=>absurd z (by decide)) (fun _=>O4 ⟨B5,rfl,C5⟩)
    case post1 =>
     rintro ⟨o,u⟩ st4 ⟨B4,rfl,C4⟩;dsimp only;refine O1 (wpS_modify ?_);refine O1 (wpS_modify ?_);refine O4 ⟨⟨B4.perm,B4.kind,B4.ok⟩,rfl,?_,f2⟩;refine id (?_:Cont 0 (((pendingOf st4).modify ((pendingOf st4).size - 1) fun x=>(x.1,x.2.1,_)).push (lo,force,0)).toList (lo + force))
     rw [Array.toList_push,Array.toList_modify];exact (C4.mod _ _).push f1
  ·have f2:lo + m<=xs0.size:=by omega
   refine O1 (wpS_get ?_);cases hb:(pendingOf st2).back? with
   | none =>
    dsimp only;refine O1 (wpS_modify ?_);refine O4 ⟨⟨B2.perm,B2.kind,B2.ok⟩,rfl,?_,f2⟩;show Cont 0 ((pendingOf st2).push (lo,m,0)).toList (lo + m);rw [Array.toList_push];exact C2.push m1
   | some t =>
    obtain ⟨s1,n1',q1⟩:=t;dsimp only;refine O1 (wpS_mono (wpS_forRange (I:=fun y c st4=>SB kd xs0 st4/\c.1=none/\Cont 0 (pendingOf st4).toList lo) (Q:=fun c st4=>SB kd xs0 st4/\c.1=none/\Cont 0 (pendingOf st4).toList lo) ?step2 (fun _ _ q=>q) ⟨B2,rfl,C2⟩) ?post2)
    case step2 =>
     rintro y ⟨o,u⟩ st4 _ _ ⟨B4,rfl,C4⟩;refine O1 (wpS_get ?_);cases hm:(if (pendingOf st4).size > 1 then (pendingOf st4)[(pendingOf st4).size - 2]? else none) with
     | none=>exact O4 ⟨B4,rfl,C4⟩
     | some t =>
      obtain ⟨f1,f2,older⟩:=t;dsimp only;refine cA (fun _=>O4 ⟨B4,rfl,C4⟩) (fun _=>?_)
      have s2:(pendingOf st4).size > 1:=by
       by_cases z:(pendingOf st4).size > 1
       ·exact z
       ·rw [if_neg z] at hm;cases hm
      refine O1 (pS L G B4 C4 l1 (by omega) fun st5 B5 C5=>?_)
      exact cA (fun z=>absurd z (by decide)) (fun _=>O4 ⟨B5,rfl,C5⟩)
    case post2 =>
     rintro ⟨o,u⟩ st4 ⟨B4,rfl,C4⟩;dsimp only;refine O1 (wpS_modify ?_);refine O1 (wpS_modify ?_);refine O4 ⟨⟨B4.perm,B4.kind,B4.ok⟩,rfl,?_,f2⟩;refine id (?_:Cont 0 (((pendingOf st4).modify ((pendingOf st4).size - 1) fun x=>(x.1,x.2.1,_)).push (lo,m,0)).toList (lo + m))
     rw [Array.toList_push,Array.toList_modify];exact (C4.mod _ _).push m1
 case post =>
  rintro ⟨o,lo⟩ st' ⟨B1,rfl,C1,l1⟩;dsimp only at C1 l1 ⊢;refine O1 (wpS_mono (wpS_forRange (I:=fun y c st4=>SB kd xs0 st4/\c.1=none/\Cont 0 (pendingOf st4).toList lo) (Q:=fun c st4=>SB kd xs0 st4/\c.1=none/\Cont 0 (pendingOf st4).toList lo) ?stepE (fun _ _ q=>q) ⟨B1,rfl,C1⟩) ?postE)
  case stepE =>
   rintro y ⟨o,u⟩ st4 _ _ ⟨B4,rfl,C4⟩;refine O1 (wpS_get ?_);refine cA (fun _=>O4 ⟨B4,rfl,C4⟩) (fun gt=>?_)
   refine O1 (pS L G B4 C4 l1 (by (repeat' split) <;> omega) fun st5 B5 C5=>?_)
   exact cA (fun z=>absurd z (by decide)) (fun _=>O4 ⟨B5,rfl,C5⟩)
  case postE =>
   rintro ⟨o,u⟩ st4 ⟨B4,rfl,C4⟩;dsimp only;exact O4 (h _ B4)
end
def IsPair (h:Heap)(v:Value):Prop:=∃ (a:Addr)(o:Obj) (i j:Int)(t u:Tok) (n:Nat),v=.ref a/\h.get? a=some o/\o.cls=.type "tuple"/\o.data=.seq #[.int i t,.int j u] n
section
variable {prog:Program}{w:World}{A:Around}{E:Value->Shared->Prop}{s:Shared}
def Kr (b:Bool){i j:Int}{t u:Tok}{Q:Bool->Shared->Prop}(h:∀ c,Q c s):wpAny (model prog w) A (oneLt' b (.int i t) (.int j u)) Q E s:=by
 cases b with
 | true=>exact oneLt_int (h _)
 | false =>
  rw [oneLt'_eq];rw [if_neg ON];refine N8 (?_:wpAny _ _ (compareOp .Lt (.int i t) (.int j u)) _ _ _);exact lt_int (wpAny_truthy_bool (h _))
def AO:g9 prog w A s (tuples' true) (IsPair s.heap):=by
 rintro E x y ⟨a,o,i,j,t,u,n,rfl,ho,hc,hd⟩ ⟨a2,o2,i2,j2,t2,u2,n2,rfl,ho2,hc2,hd2⟩ Q h;refine N8 (listItems_at ho hd ?_);refine N8 (listItems_at ho2 hd2 ?_);dsimp only;refine N8 ?_;refine wpAny_forIn_list _ (fun rest r s'=>s'=s/\r.1=none/\∀ x∈rest,∃ (i j:Int)(t u:Tok),x.1=(Value.int i t,Value.int j u)) _ ?_ ?_ _ _ ⟨rfl,rfl,fun x hx=>?_⟩
 ·rintro ⟨⟨p,q⟩,k⟩ rest ⟨r,⟨⟩⟩ s' ⟨rfl,rfl,hall⟩;obtain ⟨i3,j3,t3,u3,e⟩:=hall _ N9;dsimp only at e;cases e;dsimp only;refine N8 ((intKind prog w).eqBool (a:=i3) (b:=j3) (intKind_is _ _ i3 t3) (intKind_is _ _ j3 u3) ?_);cases decide (i3=j3) with
  | true=>exact O0 ⟨rfl,rfl,fun x hx=>hall x (O6 _ hx)⟩
  | false=>exact N8 (Kr _ fun c=>O0 (O0 (h c)))
 ·rintro ⟨r,⟨⟩⟩ s' ⟨rfl,rfl,_⟩;exact O0 (h _)
 ·have hx':x=((Value.int i t,Value.int i2 t2),0)\/x=((Value.int j u,Value.int j2 u2),1):=by simpa using hx
  rcases hx' with rfl | rfl
  ·exact ⟨_,_,_,_,rfl⟩
  ·exact ⟨_,_,_,_,rfl⟩
def Ak {v:Value}{Q:Option Value->Shared->Prop}(hv:IsPair s.heap v)(h:∀ i t,Q (some (.int i t)) s):wpAny (model prog w) A (firstOfTuple' v) Q E s:=by
 obtain ⟨a,o,i,j,t,u,n,rfl,ho,hc,hd⟩:=hv;unfold firstOfTuple';refine N8 (wpAny_typeOf (T:="tuple") ⟨o,ho,hc⟩ ?_);rw [if_neg (by decide)]
 refine N8 (listItems_at ho hd (O0 ?_));exact h i t
theorem firsts {Q:List (Option Value)->Shared->Prop}:∀ {vs:List Value},(∀ v∈vs,IsPair s.heap v)->(∀ os:List (Option Value),os.length=vs.length->(∀ o∈os,∃ i t,o=some (Value.int i t))->Q os s)->wpAny (model prog w) A (vs.mapM firstOfTuple') Q E s
 | [],_,h=>by
  rw [List.mapM_nil];exact O0 (h [] rfl fun o ho=>(nomatch ho))
 | v::r,hv,h=>by
  rw [List.mapM_cons];refine N8 (Ak (hv v N9) fun i t=>?_)
  refine N8 (firsts (fun x hx=>hv x (O6 _ hx)) fun os ol oh=>?_)
  refine O0 (h _ (by simp [ol]) fun o ho=>?_)
  rcases O9.mp ho with rfl | ho
  ·exact ⟨i,t,rfl⟩
  ·exact oh o ho
def As {vs:List Value}{Q:SortKind->Shared->Prop}(h0:vs≠[])(hv:∀ v∈vs,IsPair s.heap v)(h:Q (tuples' true) s):wpAny (model prog w) A (keyKind' vs.toArray) Q E s:=by
 rw [keyKind'_eq,List.mapM_toArray];rw [map_eq_pure_bind,bind_assoc];refine N8 (firsts hv fun os ol oh=>?_)
 rw [pure_bind];have all:os.toArray.all (·.isSome)=true:=by
  rw [List.all_toArray,OC];intro o ho;obtain ⟨i,t,rfl⟩:=oh o ho;rfl
 rw [if_pos all];refine N8 (wpAny_rule ?_);have inte:∃ us:List Value,os.toArray.filterMap id=us.toArray/\us≠[]/\∃ ns,IntsAre us ns:=by
  have go:∀ os:List (Option Value),(∀ o∈os,∃ i t,o=some (Value.int i t))->∃ us ns,os.filterMap id=us/\us.length=os.length/\IntsAre us ns:=fun os=>by
   induction os with
   | nil=>exact fun _=>⟨[],[],rfl,rfl,.nil⟩
   | cons o r ih =>
    intro hh;obtain ⟨i,t,rfl⟩:=hh o N9;obtain ⟨us,ns,e,l,I⟩:=ih fun x hx=>hh x (O6 _ hx)
    exact ⟨.int i t::us,i::ns,by simp [e],by simp [l],.cons i t I⟩
  obtain ⟨us,ns,e,l,I⟩:=go os oh;refine ⟨us,?_,fun z=>h0 ?_,ns,I⟩
  ·rw [List.filterMap_toArray,e]
  ·rw [z] at l;have:vs.length=0:=by
    rw [<- ol,<- l];rfl
   exact List.length_eq_zero_iff.mp this
 obtain ⟨us,e,un,ns,I⟩:=inte;rw [e,oneTypeOnly'_eq,List.mapM_toArray,mapM_typeOf_ints I];simp only [map_pure,pure_bind];obtain ⟨u0,ur,rfl⟩:=List.exists_cons_of_ne_nil un;have hall:((List.map (fun _=>Value.type "int") (u0::ur)).toArray.all fun x=>x == Value.type "int")=true:=by
  simp only [List.all_toArray,List.all_map,OC];intro _ _;rfl
 have h1:(List.map (fun _=>Value.type "int") (u0::ur)).toArray[0]?=some (Value.type "int"):=by simp
 rw [h1];simp only [hall,if_true,pure_bind];exact O0 h
end
def IsPair.keep {h h':Heap}{v:Value}{a:Addr}{c:Obj}(p:IsPair h v)(ha:h.get? a=some c)(hc:c.cls=.type "list")(k:∀ b o,b≠a->h.get? b=some o->h'.get? b=some o):IsPair h' v:=by
 obtain ⟨b,o,i,j,t,u,n,rfl,ho,hco,hd⟩:=p;refine ⟨b,o,i,j,t,u,n,rfl,k b o (fun z=>?_) ho,hco,hd⟩
 rw [z,ha] at ho;cases ho;rw [hc] at hco;injection hco with z
 exact absurd z (by decide)
section
variable {prog:Program}{w:World}{A:Around}{E:Value->Shared->Prop}{s:Shared}
def zN {a:Addr}{vs:List Value}{n:Nat}{R:Fin->Shared->Prop}(ho:s.heap.get? a=some (seqObj "list" vs.toArray n))(hv:∀ v∈vs,IsPair s.heap v)(few:vs.length<=1000)
  (h:∀ us:Array Value,us.toList.Perm vs->R (.done (.ret .none)) { s with heap:=sortedHeap s.heap a vs us }):wpAny (model prog w) A (Builtin.«list.sort» ⟨[.ref a],[]⟩) R E s:=by
 have line:(1000:Nat)<=sizeLine:=by decide
 have az:a < s.heap.objs.size:=OB ho;rw [list_sort_plain (a:Addr)];refine N8 (listItems_at ho rfl (?_:_))
 refine N8 (listUpdate_at ho rfl (?_:_) (by simp;omega) (by simp))
 obtain ⟨ep,g1⟩:∃ ep,(s.heap.update a (Obj.mapSeq fun _=>#[])).get? a=some (seqObj "list" #[] ep):=⟨_,get?_update_seq ho fun _=>#[]⟩
 refine N8 (seqEpoch_at g1 rfl (?_:_))
 refine N8 (wpAny_newTuple (?_:_) (by simp;omega))
 refine N8 (wpAny_newList (?_:_))
 refine wpAny_holding (?_:_)
 have g6:(((s.heap.update a (Obj.mapSeq fun _=>#[])).push (seqObj "tuple" vs.toArray 0)).push (seqObj "list" #[] 0)).get? a=some (seqObj "list" #[] ep):=OF _ (OF _ g1)
 have keep:∀ b o,b≠a->s.heap.get? b=some o->(((s.heap.update a (Obj.mapSeq fun _=>#[])).push (seqObj "tuple" vs.toArray 0)).push (seqObj "list" #[] 0)).get? b=some o:=fun b o hb e=>OF _ (OF _ ((Heap.get?_update_other _ _ (Ne.symm hb)).trans e))
 have hv6:∀ v∈vs,IsPair (((s.heap.update a (Obj.mapSeq fun _=>#[])).push (seqObj "tuple" vs.toArray 0)).push (seqObj "list" #[] 0)) v:=fun v m=>(hv v m).keep ho rfl keep
 refine id (?_:wpAny (model prog w) A _ R E { s with heap:=((s.heap.update a (Obj.mapSeq fun _=>#[])).push (seqObj "tuple" vs.toArray 0)).push (seqObj "list" #[] 0) })
 dsimp only;have psz:(vs.toArray.zip vs.toArray).size=vs.length:=by simp
 have out:∀ zs:Array Keyed,zs.Perm (vs.toArray.zip vs.toArray)->(zs.map (·.2)).toList.Perm vs:=fun zs p=>by
  have p2:=(Array.perm_iff_toList_perm.mp p).map (·.2);rw [Array.toList_map];refine p2.trans ?_;have:((vs.toArray.zip vs.toArray).toList.map (·.2))=vs:=by
   rw [Array.toList_zip];simp [List.map_snd_zip]
  rw [this]
 by_cases h2:vs.toArray.size < 2
 ·rw [if_pos h2,if_pos h2];refine N8 (O0 (?_:_))
  rw [StateT.run_pure];refine N8 (O0 (?_:_))
  dsimp only;refine N8 (seqEpoch_at g6 rfl (?_:_))
  have o1:=out (vs.toArray.zip vs.toArray) (Array.Perm.refl _);have l1:=o1.length_eq;rw [Array.length_toList] at l1;refine N8 (listUpdate_at g6 rfl (?_:_) (by simp) (Nat.le_trans (Nat.le_of_eq l1) (by omega)))
  simp only [bne_self_eq_false,Bool.false_eq_true,if_false];refine O0 (?_:_)
  exact h _ o1
 ·rw [if_neg h2,if_neg h2];have ne:vs≠[]:=fun z=>h2 (by rw [z];decide)
  refine N8 (As (s:={ s with heap:=((s.heap.update a (Obj.mapSeq fun _=>#[])).push (seqObj "tuple" vs.toArray 0)).push (seqObj "list" #[] 0) }) ne hv6 (?_:_))
  refine N8 (wpAny_mono (Hj (kd:=tuples' true) (P:=IsPair (((s.heap.update a (Obj.mapSeq fun _=>#[])).push (seqObj "tuple" vs.toArray 0)).push (seqObj "list" #[] 0))) (xs0:=vs.toArray.zip vs.toArray) (s:={ s with heap:=((s.heap.update a (Obj.mapSeq fun _=>#[])).push (seqObj "tuple" vs.toArray 0)).push (seqObj "list" #[] 0) }) (Q:=fun _ st'=>SB (tuples' true) (vs.toArray.zip vs.toArray) st') AO (fun k p hp=>?_) ⟨Array.Perm.refl _,rfl,rfl⟩ rfl fun st' B=>B) ?_ fun _ _ e=>e)
  ·have m:p∈(vs.toArray.zip vs.toArray).toList:=OO (by rw [OZ];exact hp)
   rw [Array.toList_zip] at m;exact hv6 _ (List.of_mem_zip m).1
  ·rintro ⟨⟨⟩,st'⟩ s' ⟨rfl,B⟩;dsimp only;refine N8 (seqEpoch_at g6 rfl (?_:_))
   have o1:=out _ B.perm;have l1:=o1.length_eq;rw [Array.length_toList] at l1;refine N8 (listUpdate_at g6 rfl (?_:_) (by simp) (Nat.le_trans (Nat.le_of_eq l1) (by omega)))
   rw [B.ok];simp only [bne_self_eq_false,Bool.false_eq_true,if_false];refine O0 (?_:_)
   exact h _ o1
end
end TS
namespace L2
open PySem PySem.Spec PyProof.Rows
def A8 {us its:List Value}(p:us.Perm its):∀ {ys:List V},Vals ys its->∃ zs,zs.Perm ys/\Vals zs us:=by
 induction p with
 | nil=>exact fun {ys} r=>⟨ys,List.Perm.refl _,r⟩
 | cons x _ ih =>
  intro ys r;cases r with
  | cons h r =>
   obtain ⟨zs,p1,r1⟩:=ih r;exact ⟨_::zs,p1.cons _,.cons h r1⟩
 | swap x y l =>
  intro ys r;cases r with
  | cons h r =>
   cases r with
   | cons h2 r=>exact ⟨_::_::_,List.Perm.swap _ _ _,.cons h2 (.cons h r)⟩
 | trans _ _ ih1 ih2 =>
  intro ys r;obtain ⟨zs,p1,r1⟩:=ih2 r;obtain ⟨ws,p2,r2⟩:=ih1 r1;exact ⟨ws,p2.trans p1,r2⟩
section
variable {X:Cx}
inductive yJ (K:PySem.W.Frag)(xs:List V)(H:Hp)(Q:VK):Prop
 | mk:∀ (a:Addr)(ys:List V),(xs=[.ref a])->(bI K H a ys)->((∀ y∈ys,∃ (b:Addr) (i j:Int),y=.ref b/\bW K H b [.int i,.int j]))->(ys.length<=1000)->(∀ (zs:List V)(p:Addr),zs.Perm ys->H p=none->Q (.ref p) (upd H p (.lst zs)))->yJ K xs H Q
def Bo (K:PySem.W.Frag):List V->Hp->VK->Prop:=fun xs H Q=>yJ K xs H Q
def xg:cj X (.builtin "sorted") (Bo X.K):=by
 intro pins s σ H xs us Q I r h;obtain ⟨a,ys,rfl,hq,tu,few,q⟩:=h;obtain ⟨u,rfl,ru⟩:=r.one;cases ru;obtain ⟨its,rv,p,_⟩:=I.list hq;have hlen:its.length=ys.length:=rv.length.symm;have hv:∀ v∈its,TS.IsPair s.heap v:=fun v m=>by
  obtain ⟨i,hi⟩:=List.getElem?_of_mem m;have go:∀ {ys:List V}{its:List Value},Vals ys its->∀ (i:Nat)(u:Value),its[i]?=some u->∃ x,ys[i]?=some x/\RelV x u:=fun {ys its} r=>by
   induction r with
   | nil=>exact fun i u h=>(nomatch h)
   | cons h _ ih =>
    intro i u e;cases i with
    | zero =>
     cases e;exact ⟨_,rfl,h⟩
    | succ i=>exact ih i u e
  obtain ⟨x,hx,rx⟩:=go rv i v hi;obtain ⟨b,i1,j1,rfl,sb⟩:=tu x (OO hx);cases rx;obtain ⟨its2,r2,⟨o2,e2,c2,n2,d2⟩,_⟩:=I.tuple sb;cases r2 with
  | cons ra r3 =>
   cases r3 with
   | cons rb r4 =>
    cases r4;obtain ⟨t,rfl⟩:=ra;obtain ⟨u,rfl⟩:=rb;exact ⟨b,o2,i1,j1,t,u,n2,rfl,e2,c2,d2⟩
 have line:(1000:Nat)<=sizeLine:=by decide
 refine Calls.call_function_entry kind_sorted plain_sorted entry_sorted (args_sorted1 _) (?_:_)
 unfold Builtin.«sorted»;refine N8 (m:=checkCount "sorted" 1 1 _) (O0 (?_:_))
 refine N8 (collect_list p.isList (?_:_) (by omega))
 refine N8 (wpAny_newList (?_:_) (by omega))
 have sz:((s.heap.push (seqObj "list" #[] 0)).update s.heap.objs.size (Obj.mapSeq (·++its.toArray))).objs.size=s.heap.objs.size + 1:=by
  rw [Heap.size_update];exact size_push' _ _
 have g0:(((s.heap.push (seqObj "list" #[] 0)).update s.heap.objs.size (Obj.mapSeq (·++its.toArray))).push (seqObj "list" its.toArray 0)).get? (s.heap.objs.size + 1)=some (seqObj "list" its.toArray 0):=by
  rw [<- sz];exact Of _ rfl
 have old:∀ b o,s.heap.get? b=some o->(((s.heap.push (seqObj "list" #[] 0)).update s.heap.objs.size (Obj.mapSeq (·++its.toArray))).push (seqObj "list" its.toArray 0)).get? b=some o:=fun b o e=>OF _ ((Heap.get?_update_other _ _ (Nat.ne_of_gt (OB e))).trans (OF _ e))
 refine id (?_:wpAny _ _ _ _ _ { s with heap:=((s.heap.push (seqObj "list" #[] 0)).update s.heap.objs.size (Obj.mapSeq (·++its.toArray))).push (seqObj "list" its.toArray 0) })
 rw [sz];have hv2:∀ v∈its,TS.IsPair (((s.heap.push (seqObj "list" #[] 0)).update s.heap.objs.size (Obj.mapSeq (·++its.toArray))).push (seqObj "list" its.toArray 0)) v:=fun v m=>by
  obtain ⟨b,o,i,j,t,u,n,e,ho,r⟩:=hv v m;exact ⟨b,o,i,j,t,u,n,e,old b o ho,r⟩
 refine N8 (wpAny_holding (wpAny_call_entry slot_list_sort ⟨_,g0,rfl⟩ entry_list_sort (TS.zN g0 hv2 (by omega) fun out pm=>⟨_,rfl,(?_:_)⟩) (args_list_sort _)))
 obtain ⟨n,hn⟩:=sortedHeap_at (vs:=its) (out:=out) g0;obtain ⟨zs,pz,rz⟩:=A8 pm rv;have new:s.heap.get? (s.heap.objs.size + 1)=none:=Heap.get?_none_of_le (Nat.le_succ _);have I2:=I.Ay (a:=s.heap.objs.size + 1) (o:=.lst zs) (t':=s.toks) (h':=sortedHeap (((s.heap.push (seqObj "list" #[] 0)).update s.heap.objs.size (Obj.mapSeq (·++its.toArray))).push (seqObj "list" its.toArray 0)) (s.heap.objs.size + 1) its out) (fun b o hb=>by
   have lt:=OB hb;rw [sortedHeap_old (OD (Nat.lt_succ_of_lt lt)) (by rw [size_push',sz];exact Nat.lt_succ_of_lt (Nat.lt_succ_of_lt lt))]
   exact old b o hb) new
  ⟨by rw [pz.length_eq];omega,out.toList,n,rz,by simpa using hn⟩
 exact O0 ⟨_,rfl,.ref (s.heap.objs.size + 1),_,I2,rfl,q zs _ pz (I.jq new)⟩
end
abbrev n5:Obj:={ cls:=.type "cell",data:=.cell none }
def Cx.aK (X:Cx)(scope:Scope) (x:Str)(C c:Addr)(NB:List Str)(s2:Shared)(H2:Hp)(fp:List Addr):Cx :=
 { X with N:=NB,s₀:=s2,H₀:=H2,env:=compEnvC scope ((x,c)::bM X.env.cells scope.names []) C X.env,outer:=X.stack,ex:=fp,fn:=fun y=>y == x,pn:=[],xe:=fun _ _=>False }
section
variable {M:Model}{A:Around}{E:Value->Shared->Prop}{s:Shared}{X:Cx}{scope:Scope}{x:Str}{NB:List Str}{ix:List Nat}
end
section
variable {X:Cx}{scope:Scope}{x:Str}{NB:List Str}{ix:List Nat}{pins:List (Addr×Obj)}{σ:St}{H2:Hp}{s2:Shared}{fp:List Addr}
def pZ (I2:Inv X pins σ H2 s2){y:Str}{c:Addr}(e:X.env.cells.lookup y=some c):c < s2.heap.objs.size:=by
 obtain ⟨v,q⟩:=I2.cell y c e;exact q.lt
end
section
variable {X:Cx}{scope:Scope}{x:Str}{NB:List Str}{ix:List Nat}{pins:List (Addr×Obj)}{σ:St}{H2:Hp}{s2:Shared}{fp:List Addr}
def AF {C c D:Addr}{H':Hp}{s4:Shared}{σB:St}{its:List Value}{n:Nat}{ys:List V}(I2:Inv X pins σ H2 s2)(f2:∀ b∈fp,dS X pins H2 b)(hD:s2.heap.objs.size<=D)
  (I4:Inv (X.aK scope x C c NB s2 H2 fp) [(D,dO its n)] σB H' s4)(rv:Vals ys its)(hz:ys.length<=sizeLine):Inv X pins σ (upd H' D (.lst ys)) s4:=by
 have hp:=I4.pin (D,dO its n) (by show _∈[]++[(D,dO its n)];simp)
 have hfree:H' D=none:=hp.2.1;have m8:∀ b o,s2.heap.get? b=some o->b≠D:=fun b o e=>OD (OL (OB e) hD)
 have neT:∀ b o,H2 b=some o->b≠D:=fun b o e=>OD (OL (I2.hok.lt e) hD)
 have u:Un (frs X.stack) fp H2 H' s2.heap s4.heap:=I4.base;refine I2.AQ (ch:=fp) I4.os ⟨u.keep,u.slot,fun b o e n hx=>?_,u.there,fun b xs e=>?_,fun b o v e=>?_,fun b ps e=>?_⟩ (fun b o e=>?_) I4.bare fun b hb=>?_
 ·rw [ai (m8 b o e)];exact u.free b o e n hx
 ·rw [ai (neT b _ e)];exact u.tups b xs e
 ·rw [ai (neT b _ e)];exact u.jd b o v e
 ·rw [ai (neT b _ e)];exact u.jB b ps e
 ·by_cases hb:b=D
  ·subst hb;rw [aq] at e;cases e;exact ⟨hz,its,n,rv,hp.1⟩
  ·rw [ai hb] at e;have ne:∀ {c:Addr}{w:HO},H' c=some w->c≠D:=fun {c w} q z=>by rw [z,hfree] at q;cases q
   exact (I4.hok b o e).stay (fun _ _ _ q=>q) (fun c q=>by rw [ai (ne q)];exact q) fun c xs q=>by rw [ai (ne q)];exact q
 ·obtain ⟨_,g1,g2,g3,g4,g5⟩:=f2 b hb;exact ⟨g3,g1,g4,g5⟩
end
def Jw (K:PySem.W.Frag)(a:Addr):It :=
 ⟨fun i H=>∃ xs x,bI K H a xs/\xs[i]?=some x,fun i H v H'=>∃ T,H T=none/\v=.ref T/\∀ xs,bI K H a xs->∃ x,xs[i]?=some x/\H'=upd H T (.tup [.int i,x]),fun i H=>∃ xs,bI K H a xs/\xs.length<=i⟩
def CV {P:Program}{w:World}{K:PySem.W.Frag}{elts:List Expr}{x1:Nat}{pos:Pos}(a e it:Addr)(hne:e≠it) :
  Turn P w K (.Tuple elts x1 pos) (Jw K a) [e,it] e (fun i h=>(∃ old,IsEnum h e it i old)/\h.IsListIter it a i) where
 mem:=by simp
 obj:=fun i h st b hb=>by
  obtain ⟨⟨old,he⟩,o,e1,c,d⟩:=st;rcases O9.mp hb with z | z
  ·subst z;exact ⟨_,he,fun v q=>by cases q⟩
  ·have z:b=it:=by simpa using z
   subst z;exact ⟨o,e1,fun v q=>by rw [d] at q;cases q⟩
 keep:=fun i h h' st k=>by
  obtain ⟨⟨old,he⟩,li⟩:=st;exact ⟨⟨old,k e (by simp) _ he⟩,li.at fun o q=>k it (by simp) o q⟩
 item:=by
  intro X hP hw hK hc i pins s σ H E I hf st hg;subst hP hw hK;obtain ⟨xs,x,hq,hx⟩:=hg;obtain ⟨its,rv,p,hz⟩:=I.list hq;obtain ⟨u,hu,ru⟩:=rv.get hx;obtain ⟨⟨old,he⟩,hit⟩:=st;have fe:=hf e (by simp)
  have fi:=hf it (by simp)
  refine wpAny_pyNext_enum_item he hit p.isList (x:=u) (by simpa using hu) hne fun h1 heo hit1 ht1 hz1 hk1=>⟨_,rfl,?_⟩
  refine wpAny_letOwnedTupleGo_enum heo fun h2 he2 hs2=>?_
  have elt:e < s.heap.objs.size:=OB he;have ht2:h2.get? s.heap.objs.size=some { cls:=.type "tuple",data:=.seq #[.int i s.toks,u] }:=(hs2.2 _ (Nat.ne_of_gt elt)).trans ht1;have hfr:H s.heap.objs.size=none:=I.hok.fresh (O5 _);have k2:∀ b o,b≠e->b≠it->s.heap.get? b=some o->h2.get? b=some o:=fun b o b1 b2 q=>hs2.extBut b o b1 (hk1 b o b1 b2 q)
  have neT:∀ b o,H b=some o->b≠s.heap.objs.size:=fun b o q z=>by rw [z,hfr] at q;cases q
  have neS:∀ b o,s.heap.get? b=some o->b≠s.heap.objs.size:=fun b o q=>OD (OB q)
  have nt:∀ b o,H b=some o->b≠e/\b≠it:=fun b o q=>⟨(fun z=>by rw [z,fe.1] at q;cases q),(fun z=>by rw [z,fi.1] at q;cases q)⟩
  have nin:∀ b,b∉[e,it]->b≠e/\b≠it:=fun b hb=>⟨fun z=>hb (by simp [z]),fun z=>hb (by simp [z])⟩
  have I2:Inv X pins σ (upd H s.heap.objs.size (.tup [.int i,x])) { s with heap:=h2,toks:=s.toks + 1 }:=by
   refine I.step (g':=s.gens) (d':=s.drawn) (ch:=[e,it]) (fun b hb=>?_) (fun b o _ _ hc' q _=>k2 b o (nin b hc').1 (nin b hc').2 q) (fun b o _ _ hc' q _=>⟨o.slots,k2 b o (nin b hc').1 (nin b hc').2 q⟩)
    (fun b o _ q n=>by rw [ai (neS b o q)];exact n) (fun b o hc' q=>⟨o,k2 b o (nin b hc').1 (nin b hc').2 q⟩) (fun b ys q=>by rw [ai (neT b _ q)];exact q) (fun b o v q=>by rw [ai (neT b _ q)];exact q)
    (fun b ps q=>⟨#[],by rw [ai (neT b _ q),q];simp⟩) (fun m hm=>?_) (fun b o q=>?_) I.bare
   ·rcases O9.mp hb with z | z
    ·subst z;exact ⟨fe.2.2.2.1,fe.2.1,fe.2.2.2.2.1,fe.2.2.2.2.2⟩
    ·have z:b=it:=by simpa using z
     subst z;exact ⟨fi.2.2.2.1,fi.2.1,fi.2.2.2.2.1,fi.2.2.2.2.2⟩
   ·obtain ⟨o,es,ep,ho,r⟩:=hm;exact ⟨o,es,ep,k2 _ o (Ne.symm fe.2.1) (Ne.symm fi.2.1) ho,r⟩
   ·by_cases z:b=s.heap.objs.size
    ·subst z;rw [aq] at q;cases q;exact ⟨(by show 2<=sizeLine;decide),[.int i s.toks,u],.cons ⟨_,rfl⟩ (.cons ru .nil),_,ht2,rfl,_,rfl⟩
    ·rw [ai z] at q;refine (I.hok b o q).stay (fun c v hc' r=>k2 c v ?_ ?_ r) (fun c r=>by rw [ai (neT c _ r)];exact r) fun c ys r=>by rw [ai (neT c _ r)];exact r
     ·rcases hc' with y | y
      ·rw [y];exact (nt b o q).1
      ·exact (nt c _ y).1
     ·rcases hc' with y | y
      ·rw [y];exact (nt b o q).2
      ·exact (nt c _ y).2
  refine ⟨.ref s.heap.objs.size,_,I2,rfl,⟨s.heap.objs.size,hfr,rfl,fun ys hy=>⟨x,by rw [I.lY hy hq];exact hx,rfl⟩⟩,⟨⟨_,he2⟩,?_⟩,fun b hb=>?_⟩
  ·exact hit1.at fun o q=>hs2.extBut it o (Ne.symm hne) q
  ·rcases O9.mp hb with z | z
   ·subst z;rw [ai (OD elt)];exact fe.1
   ·have z:b=it:=by simpa using z
    subst z;obtain ⟨o,q,_⟩:=id hit;rw [ai (OD (OB q))];exact fi.1
 done:=by
  intro X hP hw hK hc i pins s σ H E I hf st hg;subst hP hw hK;obtain ⟨xs,hq,hx⟩:=hg;obtain ⟨its,rv,p,hz⟩:=I.list hq;obtain ⟨⟨old,he⟩,hit⟩:=st;obtain ⟨f0,f1,f2,f3,f4,f5⟩:=hf it (by simp)
  have hl:=rv.length;exact wpAny_pyNext_enum_end (I.ok.hd hc) he hit p.isList (by simp;omega) fun h' eb=>⟨rfl,I.turned (t':=s.toks) (fun b o hb q=>eb b o hb q) f0 f1 f3 f4 f5⟩
 self:=fun _ _ _ _ _ st h=>by
  obtain ⟨⟨old,he⟩,_⟩:=st;exact wpAny_pyIter_enum he h
section
variable {X:Cx}
inductive BD (K:PySem.W.Frag)(R:(It->Hp->Prop))(vs:List V)(H1:Hp):Prop
 | mk:∀ a,(vs=[.ref a])->((∃ xs,bI K H1 a xs))->(R (Jw K a) H1)->BD K R vs H1
def Mi (K:PySem.W.Frag)(ta:TA):TI:=fun σ H R=>ta σ H fun vs H1=>BD K R vs H1
def Ii {elts:List Expr}{x1:Nat}{tp p pos:Pos}{e:Expr}{ta:TA}(hg:Gl X "enumerate")(hm:X.mg "enumerate"=none)(ha:PA X [e] ta)(hs:starEach [e] X.env=[(false,eval e X.env)]:=by rfl) :
  PI X (.Tuple elts x1 tp) (.Call (.Name "enumerate" p) [e] [] pos) (Mi X.K ta):=by
 intro pins s σ H R I h;refine Call_ (jR I hg hm boot_enumerate (PyProof.Rows.callWith_type1 (aF (ha pos pins s σ H _ I h) fun us s1 ⟨vs,H1,I1,r1,q1⟩=>?_) hs rfl))
 obtain ⟨a,ev,⟨xs,hq⟩,q⟩:=q1;subst ev;obtain ⟨u,rfl,ru⟩:=r1.one;cases ru;obtain ⟨its,rv,pl,hz⟩:=I1.list hq;refine call_enumerate_list pl.isList fun h' he hit hsz hk=>?_
 refine wpAny_pyIter_enum he ?_;have I2:Inv X pins σ H1 { s1 with heap:=h' }:=I1.kept (t':=s1.toks) hk
 refine ⟨s1.heap.objs.size + 1,[s1.heap.objs.size + 1,s1.heap.objs.size],_,_,H1,rfl,I2,CV a _ _ (Nat.succ_ne_self _),⟨⟨_,he⟩,hit⟩,fun b hb=>?_,q⟩
 have hb:s1.heap.objs.size<=b:=by
  rcases O9.mp hb with z | z
  ·rw [z];exact Nat.le_succ _
  ·have z:b=s1.heap.objs.size:=by simpa using z
   rw [z];exact O5 _
 exact I1.nL hb (I1.hok.fresh hb)
end
section
variable {prog:Program}{w:World}{A:Around}{R:Result->Shared->Prop}{s:Shared}
abbrev mK (prog:Program)(w:World)(A:Around)(env:Env)(R:Result->Shared->Prop):Value->Shared->Prop:=notedBy (model prog w) A env fun e s'=>R (.error e) s'
end
section
variable {X:Cx}{scope:Scope}{x y0:Str}{NB:List Str}{ix:List Nat}{pins:List (Addr×Obj)}{σ:St}{H2:Hp}{s2:Shared}{fp:List Addr}
end
section
variable {X:Cx}{scope:Scope}{x y0:Str}{NB:List Str}{ix:List Nat}{pins:List (Addr×Obj)}{σ:St}{H2:Hp}{s2:Shared}{fp:List Addr}
end
def JO (K:PySem.W.Frag)(a b:Addr):It :=
 ⟨fun i H=>∃ xs ys x y,bI K H a xs/\bI K H b ys/\xs[i]?=some x/\ys[i]?=some y,fun i H v H'=>∃ T,H T=none/\v=.ref T/\∀ xs ys,bI K H a xs->bI K H b ys->∃ x y,xs[i]?=some x/\ys[i]?=some y/\H'=upd H T (.tup [x,y]),
  fun i H=>∃ xs ys,bI K H a xs/\bI K H b ys/\(xs.length<=i\/ys.length<=i)⟩
def Ew {P:Program}{w:World}{K:PySem.W.Frag}{elts:List Expr}{x1:Nat}{pos:Pos}(a b z TI TO i1 i2:Addr)(D:PySem.ZipApart z TI TO i1 i2 a b) :
  Turn P w K (.Tuple elts x1 pos) (JO K a b) [z,TI,TO,i1,i2] z (fun i h=>PySem.IsZip h z TI TO .none/\PySem.IsPair h TI (.ref i1) (.ref i2)/\(∃ u v,PySem.IsPair h TO u v)/\h.IsListIter i1 a i/\h.IsListIter i2 b i) where
 mem:=by simp
 obj:=fun i h st c hc=>by
  obtain ⟨h1,h2,⟨u,v,h3⟩,h4,h5⟩:=st;simp only [O9,OW,or_false] at hc;rcases hc with rfl | rfl | rfl | rfl | rfl
  ·exact ⟨_,h1,fun v q=>by cases q⟩
  ·exact ⟨_,h2,fun v q=>by cases q⟩
  ·exact ⟨_,h3,fun v q=>by cases q⟩
  ·obtain ⟨o,e1,_,d⟩:=h4;exact ⟨o,e1,fun v q=>by rw [d] at q;cases q⟩
  ·obtain ⟨o,e1,_,d⟩:=h5;exact ⟨o,e1,fun v q=>by rw [d] at q;cases q⟩
 keep:=fun i h h' st k=>by
  obtain ⟨h1,h2,⟨u,v,h3⟩,h4,h5⟩:=st;exact ⟨k z (by simp) _ h1,k TI (by simp) _ h2,⟨u,v,k TO (by simp) _ h3⟩,h4.at fun o q=>k i1 (by simp) o q,h5.at fun o q=>k i2 (by simp) o q⟩
 item:=by
  intro X hP hw hK hc i pins s σ H E I hf st hg;subst hP hw hK;obtain ⟨xs,ys,x,y,hq,hq2,hx,hy⟩:=hg;obtain ⟨its,rv,p,_⟩:=I.list hq;obtain ⟨its2,rv2,p2,_⟩:=I.list hq2;obtain ⟨u,hu,ru⟩:=rv.get hx;obtain ⟨u2,hu2,ru2⟩:=rv2.get hy;obtain ⟨h1,h2,⟨ua,ub,h3⟩,h4,h5⟩:=st;have fz:=hf z (by simp)
  have fI:=hf TI (by simp)
  have fO:=hf TO (by simp)
  have f1:=hf i1 (by simp)
  have f2:=hf i2 (by simp)
  refine PySem.wpAny_pyNext_zip_item D h1 h2 h3 h4 h5 p.isList p2.isList (x:=u) (y:=u2) (by simpa using hu) (by simpa using hu2) fun hA a1 a2 a3 a4 a5 a6 a7=>⟨_,rfl,?_⟩
  refine PySem.wpAny_letOwnedTupleGo_zip a1 fun hB b1 hs=>?_
  have zlt:z < s.heap.objs.size:=OB h1;have ht2:hB.get? s.heap.objs.size=some { cls:=.type "tuple",data:=.seq #[u,u2] }:=(hs.2 _ (Nat.ne_of_gt zlt)).trans a5;have hfr:H s.heap.objs.size=none:=I.hok.fresh (O5 _);have k2:∀ c o,c≠z->c≠TO->c≠i1->c≠i2->s.heap.get? c=some o->hB.get? c=some o:=fun c o c1 c2 c3 c4 q=>hs.extBut c o c1 (a7 c o c1 c2 c3 c4 q)
  have neT:∀ c o,H c=some o->c≠s.heap.objs.size:=fun c o q z=>by rw [z,hfr] at q;cases q
  have neS:∀ c o,s.heap.get? c=some o->c≠s.heap.objs.size:=fun c o q=>OD (OB q)
  have nt:∀ c o,H c=some o->c≠z/\c≠TO/\c≠i1/\c≠i2:=fun c o q=>⟨(fun e=>by rw [e,fz.1] at q;cases q),(fun e=>by rw [e,fO.1] at q;cases q),(fun e=>by rw [e,f1.1] at q;cases q),(fun e=>by rw [e,f2.1] at q;cases q)⟩
  have nin:∀ c,c∉[z,TO,i1,i2]->c≠z/\c≠TO/\c≠i1/\c≠i2:=fun c hc=>⟨fun e=>hc (by simp [e]),fun e=>hc (by simp [e]),fun e=>hc (by simp [e]),fun e=>hc (by simp [e])⟩
  have kk:∀ c o,(c≠z/\c≠TO/\c≠i1/\c≠i2)->s.heap.get? c=some o->hB.get? c=some o:=fun c o n q=>k2 c o n.1 n.2.1 n.2.2.1 n.2.2.2 q
  have I2:Inv X pins σ (upd H s.heap.objs.size (.tup [x,y])) { s with heap:=hB }:=by
   refine I.step (g':=s.gens) (d':=s.drawn) (t':=s.toks) (ch:=[z,TO,i1,i2]) (fun c hc=>?_) (fun c o _ _ hc' q _=>kk c o (nin c hc') q) (fun c o _ _ hc' q _=>⟨o.slots,kk c o (nin c hc') q⟩)
    (fun c o _ q n=>by rw [ai (neS c o q)];exact n) (fun c o hc' q=>⟨o,kk c o (nin c hc') q⟩) (fun c ys q=>by rw [ai (neT c _ q)];exact q) (fun c o v q=>by rw [ai (neT c _ q)];exact q)
    (fun c ps q=>⟨#[],by rw [ai (neT c _ q),q];simp⟩) (fun m hm=>?_) (fun c o q=>?_) I.bare
   ·simp only [O9,OW,or_false] at hc;rcases hc with rfl | rfl | rfl | rfl
    ·exact ⟨fz.2.2.2.1,fz.2.1,fz.2.2.2.2.1,fz.2.2.2.2.2⟩
    ·exact ⟨fO.2.2.2.1,fO.2.1,fO.2.2.2.2.1,fO.2.2.2.2.2⟩
    ·exact ⟨f1.2.2.2.1,f1.2.1,f1.2.2.2.2.1,f1.2.2.2.2.2⟩
    ·exact ⟨f2.2.2.2.1,f2.2.1,f2.2.2.2.2.1,f2.2.2.2.2.2⟩
   ·obtain ⟨o,es,ep,ho,r⟩:=hm;exact ⟨o,es,ep,kk _ o ⟨Ne.symm fz.2.1,Ne.symm fO.2.1,Ne.symm f1.2.1,Ne.symm f2.2.1⟩ ho,r⟩
   ·by_cases e:c=s.heap.objs.size
    ·subst e;rw [aq] at q;cases q;exact ⟨(by show 2<=sizeLine;decide),[u,u2],.cons ru (.cons ru2 .nil),_,ht2,rfl,_,rfl⟩
    ·rw [ai e] at q;refine (I.hok c o q).stay (fun d v hd r=>kk d v ?_ r) (fun d r=>by rw [ai (neT d _ r)];exact r) fun d ys r=>by rw [ai (neT d _ r)];exact r
     rcases hd with y | y
     ·rw [y];exact nt c o q
     ·exact nt d _ y
  refine ⟨.ref s.heap.objs.size,_,I2,rfl,⟨s.heap.objs.size,hfr,rfl,fun xs2 ys2 hx2 hy2=>⟨x,y,by rw [I.lY hx2 hq];exact hx,by rw [I.lY hy2 hq2];exact hy,rfl⟩⟩,⟨b1,?_,⟨_,_,hs.extBut _ _ D.TOz a2⟩,a3.at fun o q=>hs.extBut _ _ D.i1z q,a4.at fun o q=>hs.extBut _ _ D.i2z q⟩,fun c hc=>?_⟩
  ·exact k2 _ _ D.TIz D.TITO D.TIi1 D.TIi2 h2
  ·have old:∀ c,(∃ o,s.heap.get? c=some o)->H c=none->upd H s.heap.objs.size (.tup [x,y]) c=none:=fun c ⟨o,q⟩ hn=>by rw [ai (neS c o q)];exact hn
   simp only [O9,OW,or_false] at hc;rcases hc with rfl | rfl | rfl | rfl | rfl
   ·exact old _ ⟨_,h1⟩ fz.1
   ·exact old _ ⟨_,h2⟩ fI.1
   ·exact old _ ⟨_,h3⟩ fO.1
   ·obtain ⟨o,q,_⟩:=id h4;exact old _ ⟨o,q⟩ f1.1
   ·obtain ⟨o,q,_⟩:=id h5;exact old _ ⟨o,q⟩ f2.1
 done:=by
  intro X hP hw hK hc i pins s σ H E I hf st hg;subst hP hw hK;obtain ⟨xs,ys,hq,hq2,hx⟩:=hg;obtain ⟨its,rv,p,_⟩:=I.list hq;obtain ⟨its2,rv2,p2,_⟩:=I.list hq2;obtain ⟨h1,h2,⟨ua,ub,h3⟩,h4,h5⟩:=st;have hl:=rv.length;have hl2:=rv2.length;have fz:=hf z (by simp)
  have fO:=hf TO (by simp)
  have f1:=hf i1 (by simp)
  have f2:=hf i2 (by simp)
  refine PySem.wpAny_pyNext_zip_end (I.ok.hd hc) D h1 h2 h3 h4 h5 p.isList p2.isList (hx.imp (fun e=>by simp;omega) (fun e=>by simp;omega)) fun hA k=>⟨rfl,?_⟩
  have nin:∀ c,c∉[z,TO,i1,i2]->c≠z/\c≠TO/\c≠i1/\c≠i2:=fun c hc=>⟨fun e=>hc (by simp [e]),fun e=>hc (by simp [e]),fun e=>hc (by simp [e]),fun e=>hc (by simp [e])⟩
  have kk:∀ c o,(c≠z/\c≠TO/\c≠i1/\c≠i2)->s.heap.get? c=some o->hA.get? c=some o:=fun c o n q=>k c o n.1 n.2.1 n.2.2.1 n.2.2.2 q
  have nt:∀ c o,H c=some o->c≠z/\c≠TO/\c≠i1/\c≠i2:=fun c o q=>⟨(fun e=>by rw [e,fz.1] at q;cases q),(fun e=>by rw [e,fO.1] at q;cases q),(fun e=>by rw [e,f1.1] at q;cases q),(fun e=>by rw [e,f2.1] at q;cases q)⟩
  refine I.step (g':=s.gens) (d':=s.drawn) (t':=s.toks) (ch:=[z,TO,i1,i2]) (fun c hc=>?_) (fun c o _ _ hc' q _=>kk c o (nin c hc') q) (fun c o _ _ hc' q _=>⟨o.slots,kk c o (nin c hc') q⟩)
   (fun c o _ q n=>n) (fun c o hc' q=>⟨o,kk c o (nin c hc') q⟩) (fun c ys q=>q) (fun c o v q=>q) (fun c ps q=>⟨#[],by rw [q];simp⟩) (fun m hm=>?_) (fun c o q=>?_) I.bare
  ·simp only [O9,OW,or_false] at hc;rcases hc with rfl | rfl | rfl | rfl
   ·exact ⟨fz.2.2.2.1,fz.2.1,fz.2.2.2.2.1,fz.2.2.2.2.2⟩
   ·exact ⟨fO.2.2.2.1,fO.2.1,fO.2.2.2.2.1,fO.2.2.2.2.2⟩
   ·exact ⟨f1.2.2.2.1,f1.2.1,f1.2.2.2.2.1,f1.2.2.2.2.2⟩
   ·exact ⟨f2.2.2.2.1,f2.2.1,f2.2.2.2.2.1,f2.2.2.2.2.2⟩
  ·obtain ⟨o,es,ep,ho,r⟩:=hm;exact ⟨o,es,ep,kk _ o ⟨Ne.symm fz.2.1,Ne.symm fO.2.1,Ne.symm f1.2.1,Ne.symm f2.2.1⟩ ho,r⟩
  ·refine (I.hok c o q).stay (fun d v hd r=>kk d v ?_ r) (fun d r=>r) fun d ys r=>r
   rcases hd with y | y
   ·rw [y];exact nt c o q
   ·exact nt d _ y
 self:=fun _ _ _ _ _ st h=>PySem.wpAny_pyIter_zip st.1 h
section
variable {X:Cx}
inductive Fp (K:PySem.W.Frag)(R:(It->Hp->Prop))(vs:List V)(H1:Hp):Prop
 | mk:∀ a b,(vs=[.ref a,.ref b])->((∃ xs,bI K H1 a xs))->((∃ ys,bI K H1 b ys))->(R (JO K a b) H1)->Fp K R vs H1
def E9 (K:PySem.W.Frag)(ta:TA):TI:=fun σ H R=>ta σ H fun vs H1=>Fp K R vs H1
def KC {elts:List Expr}{x1:Nat}{tp p pos:Pos}{e1 e2:Expr}{ta:TA}(hg:Gl X "zip")(hm:X.mg "zip"=none)(ha:PA X [e1,e2] ta)(hs:starEach [e1,e2] X.env=[(false,eval e1 X.env),(false,eval e2 X.env)]:=by rfl)(hs2:starEach [e2] X.env=[(false,eval e2 X.env)]:=by rfl) :
  PI X (.Tuple elts x1 tp) (.Call (.Name "zip" p) [e1,e2] [] pos) (E9 X.K ta):=by
 intro pins s σ H R I h;refine Call_ (jR I hg hm PyProof.Rows.boot_zip (PyProof.Rows.callWith_type1 (aF (ha pos pins s σ H _ I h) fun us s1 ⟨vs,H1,I1,r1,q1⟩=>?_) (by rw [hs,hs2]) (by rw [hs2];rfl)))
 obtain ⟨a,b,ev,⟨xs,hq⟩,⟨ys,hq2⟩,q⟩:=q1;subst ev;obtain ⟨u1,u2,rfl,ru1,ru2⟩:=r1.two;cases ru1;cases ru2;obtain ⟨its,rv,pl,_⟩:=I1.list hq;obtain ⟨its2,rv2,pl2,_⟩:=I1.list hq2;have la:a < s1.heap.objs.size:=by
  obtain ⟨o,ho,_⟩:=pl.isList;exact OB ho
 have lb:b < s1.heap.objs.size:=by
  obtain ⟨o,ho,_⟩:=pl2.isList;exact OB ho
 refine PySem.call_zip_2 pl.isList pl2.isList fun h' hz h2 h3 h4 h5 hsz hk=>?_
 refine PySem.wpAny_pyIter_zip hz ?_;have I2:Inv X pins σ H1 { s1 with heap:=h' }:=I1.kept (t':=s1.toks) hk
 have ga:∀ k:Nat,a≠s1.heap.objs.size + k:=fun k=>OD (OL la (Nat.le_add_right _ _))
 have gb:∀ k:Nat,b≠s1.heap.objs.size + k:=fun k=>OD (OL lb (Nat.le_add_right _ _))
 have D:PySem.ZipApart (s1.heap.objs.size + 4) (s1.heap.objs.size + 2) (s1.heap.objs.size + 3) s1.heap.objs.size (s1.heap.objs.size + 1) a b:=by
  constructor <;> first | exact ga 4 | exact ga 3 | exact ga 1 | exact ga 0 | exact gb 4 | exact gb 3 | exact gb 1 | exact gb 0 | exact OD (by omega) | exact Nat.ne_of_gt (by omega)
 refine ⟨s1.heap.objs.size + 4,[s1.heap.objs.size + 4,s1.heap.objs.size + 2,s1.heap.objs.size + 3,s1.heap.objs.size,s1.heap.objs.size + 1],_,_,H1,rfl,I2,Ew a b _ _ _ _ _ D,⟨hz,h2,⟨_,_,h3⟩,h4,h5⟩,fun c hc=>?_,q⟩
 have hb:s1.heap.objs.size<=c:=by
  simp only [O9,OW,or_false] at hc;rcases hc with rfl | rfl | rfl | rfl | rfl
  ·exact Nat.le_add_right _ _
  ·exact Nat.le_add_right _ _
  ·exact Nat.le_add_right _ _
  ·exact O5 _
  ·exact Nat.le_add_right _ _
 exact I1.nL hb (I1.hok.fresh hb)
end
end L2
namespace Dv
open PySem L2 PySem.W
section
variable {K:Frag}{H Hm:Hp}{P:Kd->PyData->Prop}{Q:VK}
def bu (K:Frag)(H Hm:Hp)(P:Kd->PyData->Prop)(Q:VK):Prop:=∀ k v u H' Hm' fp,P k v->af H H'->af Hm Hm'->af Hm' H'->(∀ a,H a≠none->OE (Hm' a) (Hm a))->Own K H' Hm' k u v fp->(∀ a∈fp,H a=none/\Hm' a=none)->Q u H'
def bu.sc (q:bu K H Hm P Q)(s:af Hm H){u:V}{v:PyData}(p:P .sh v)(r:Rp K Hm u v):Q u H:=q _ _ _ _ _ [] p (af.refl _) (af.refl _) s (fun _ _=>.inl rfl) (.sh r) fun _ z=>by cases z
def iK (s:af Hm H){p:Addr}(h:H p=none):Hm p=none:=by
 cases e:Hm p with
 | none=>rfl
 | some o=>rw [s _ _ e] at h;cases h
def bu.nl (q:bu K H Hm P Q)(s:af Hm H){p:Addr}{xs:List V}{ds:List PyData}(pp:P (.ow false) (.list ds))(hp:H p=none)(r:au K Hm xs ds):Q (.ref p) (upd H p (.lst xs)) :=
 q _ _ _ _ Hm [p] pp (bA hp) (af.refl _) (s.trans (bA hp)) (fun _ _=>.inl rfl) (.ow aq r) fun a ha=>by rw [O8.mp ha];exact ⟨hp,iK s hp⟩
def bu.nt (q:bu K H Hm P Q)(s:af Hm H){p:Addr}{xs:List V}{ds:List PyData}(pp:P .sh (.tuple ds))(hp:H p=none)(r:au K Hm xs ds):Q (.ref p) (upd H p (.tup xs)):=by
 have n:=iK s hp;have s2:=bA (o:=.tup xs) n;refine q _ _ _ _ (upd Hm p (.tup xs)) [] pp (bA hp) s2 (fun b o e=>?_) (fun a ha=>.inl (ai fun z=>ha (z ▸ hp))) (.sh (.tup aq (r.mono s2))) fun _ z=>by cases z
 by_cases c:b=p
 ·rw [c,aq] at e ⊢;exact e
 ·rw [ai c] at e ⊢;exact s _ _ e
end
def r2 (r:R2):List V->Hp->VK->Prop:=fun vs H Q=>match vs with
 | [x,y]=>r x y H Q
 | _=>False
def r1 (r:V->Hp->VK->Prop):List V->Hp->VK->Prop:=fun vs H Q=>match vs with
 | [x]=>r x H Q
 | _=>False
def c7 {K:Frag}{H:Hp}{vs:List V}{a:PyData}(h:au K H vs [a]):∃ x,vs=[x]/\Rp K H x a:=by
 cases h with
 | cons h t=>cases t;exact ⟨_,rfl,h⟩
def cP {K:Frag}{H:Hp}{vs:List V}{a b:PyData}(h:au K H vs [a,b]):∃ x y,vs=[x,y]/\Rp K H x a/\Rp K H y b:=by
 cases h with
 | cons h t =>
  obtain ⟨y,rfl,h2⟩:=c7 t;exact ⟨_,_,rfl,h,h2⟩
def Nt {K:Frag}{H:Hp}{vs:List V}{a b c:PyData}(h:au K H vs [a,b,c]):∃ x y z,vs=[x,y,z]/\Rp K H x a/\Rp K H y b/\Rp K H z c:=by
 cases h with
 | cons h t =>
  obtain ⟨y,z,rfl,h2,h3⟩:=cP t;exact ⟨_,_,_,rfl,h,h2,h3⟩
def bG.or {X:Cx}{f:Value->Value->Sem Value}{r s:R2}(h:bG X f r)(k:bG X f s):bG X f fun x y H Q=>r x y H Q\/s x y H Q:=fun pins st σ H x y v u Q I a b z=>z.elim (h pins st σ H x y v u Q I a b) (k pins st σ H x y v u Q I a b)
section
variable {X:Cx}{Ex:XK}{π:List Nat}
def lA {a b:Expr}{op:Operator}{pos:Pos}{r:R2}{f:DR}{as:List Arg}(ho:bG X (binaryOp op) r)(D:cM X.K f (r2 r))(S:aL X Ex π [a,b] as):SE X Ex π (.BinOp a op b pos) (aa f as):=eL (r:=r2 r) S (fun σ H Q h=>WE.of (Mx ho bE bE) h) D
def Mt {a:Expr}{op:UnaryOp}{pos:Pos}{r:V->Hp->VK->Prop}{f:DR}{as:List Arg}(ho:Fv X (unaryOp op) r)(D:cM X.K f (r1 r))(S:aL X Ex π [a] as):SE X Ex π (.UnaryOp op a pos) (aa f as):=eL (r:=r1 r) S (fun σ H Q h=>WE.of (Mg ho bE) h) D
def Jy {a b:Expr}{op:CmpOp}{pos:Pos}{r:R2}{f:DR}{as:List Arg}(ho:bG X (compareOp op) r)(hm:behindInMarks op b=false)(D:cM X.K f (r2 r))(S:aL X Ex π [a,b] as):SE X Ex π (.Compare a [op] [b] pos) (aa f as):=eL (r:=r2 r) S (fun σ H Q h=>WE.of (Hi ho bE bE hm) h) D
def L6 {a b:Expr}{pos:Pos}{r:R2}{f:DR}{as:List Arg}(ho:mU X r)(hs:lI b)(D:cM X.K f (r2 r))(S:aL X Ex π [a,b] as):SE X Ex π (.Subscript a b pos) (aa f as):=eL (r:=r2 r) S (fun σ H Q h=>WE.of (GF ho bE bE hs) h) D
end
def lZ (g:Int->Int->PyData):DR:=fun ds P=>match ds with
 | [.int a,.int b]=>P .sh (g a b)
 | _=>False
def um (C:Int->Int->Prop)(g:Int->Int->PyData):DR:=fun ds P=>match ds with
 | [.int a,.int b]=>C a b/\P .sh (g a b)
 | _=>False
def rV {ds:List PyData}{Z:Prop}{f:Int->Int->Prop}(h:match ds with | [PyData.int a,.int b]=>f a b | _=>False)(k:∀ a b,ds=[.int a,.int b]->f a b->Z):Z:=by
 split at h
 ·exact k _ _ rfl h
 ·exact h.elim
def mw {K:Frag}{g:Int->Int->PyData}{gv:Int->Int->V}(hg:∀ a b Hm,Rp K Hm (gv a b) (g a b)):cM K (lZ g) (r2 (mJ gv)):=by
 intro H Hm vs ds P Q s r h q;refine rV h fun a b e p=>?_
 subst e;obtain ⟨x,y,rfl,h1,h2⟩:=cP r;cases h1;cases h2;exact ⟨a,b,rfl,rfl,bu.sc q s p (hg a b Hm)⟩
def sd {K:Frag}{C:Int->Int->Prop}{g:Int->Int->PyData}{gv:Int->Int->V}(hg:∀ a b Hm,Rp K Hm (gv a b) (g a b)):cM K (um C g) (r2 (rI C gv)):=by
 intro H Hm vs ds P Q s r h q;refine rV h fun a b e p=>?_
 subst e;obtain ⟨x,y,rfl,h1,h2⟩:=cP r;cases h1;cases h2;exact ⟨a,b,rfl,rfl,p.1,bu.sc q s p.2 (hg a b Hm)⟩
inductive CL (K:Frag) (x:V) (y:V)(H:Hp)(Q:VK):Prop
 | mk:∀ l b xs zs,(x=.ref l)->(y=.ref b)->(b9 K H l xs)->(b9 K H b zs)->(xs.length + zs.length<=sizeLine)->(∀ p,H p=none->Q (.ref p) (upd H p (.lst (xs++zs))))->CL K x y H Q
def GB (K:Frag):R2:=fun x y H Q=>CL K x y H Q
section
variable {X:Cx}
def GW:bG X (binaryOp .Add) (GB X.K):=by
 intro pins s σ H x y v u Q I rx ry h;obtain ⟨l,b,xs,zs,rfl,rfl,hH,hB,hz,q⟩:=h;cases rx;cases ry;obtain ⟨z,its,n,r,e⟩:=hH.get I;obtain ⟨z2,its2,n2,r2,e2⟩:=hB.get I;have hl:=r.length;have hl2:=r2.length;refine PySem.P.add_list e e2 ?_ (by rw [OJ,OJ];omega)
 have ea:its.toArray++its2.toArray=(its++its2).toArray:=by simp
 rw [ea];exact ⟨.ref _,_,I.Ju (t':=s.toks) (r.append r2) (by rw [OR];omega),rfl,q _ I.fresh⟩
end
def c9:DR:=fun ds P=>match ds with
 | [.int a,.int b]=>P .sh (.int (a + b))
 | [.list a,.list b]=>a.length + b.length<=sizeLine/\P (.ow false) (.list (a++b))
 | [.tuple a,.tuple b]=>(a≠[]/\a.length + b.length<=sizeLine)/\P .sh (.tuple (a++b))
 | [.str a,.str b]=>a.length + b.length<=sizeLine/\P .sh (.str (a++b))
 | _=>False
def Fy (K:Frag):R2:=fun x y H Q=>(((mJ fun i j=>.int (i + j)) x y H Q\/GB K x y H Q)\/Fg K x y H Q)\/∃ i j,x=.str i/\y=.str j/\i.length + j.length<=sizeLine/\Q (.str (i++j)) H
def Iv {X:Cx}:bG X (binaryOp .Add) (Fy X.K):=((K7.or GW).or G9).or Az
def G8 {K:Frag}:cM K c9 (r2 (Fy K)):=by
 intro H Hm vs ds P Q s r h q;unfold c9 at h;split at h
 ·obtain ⟨x,y,rfl,h1,h2⟩:=cP r;cases h1;cases h2;exact .inl (.inl (.inl ⟨_,_,rfl,rfl,bu.sc q s h (.int _)⟩))
 ·obtain ⟨x,y,rfl,h1,h2⟩:=cP r;cases h1 with
  | lst a1 r1 =>
   cases h2 with
   | lst a2 r2=>exact .inl (.inl (.inr ⟨_,_,_,_,rfl,rfl,b9.mono s a1,b9.mono s a2,by rw [r1.len,r2.len];exact h.1,fun p hp=>bu.nl q s h.2 hp (r1.app r2)⟩))
 ·obtain ⟨x,y,rfl,h1,h2⟩:=cP r;cases h1 with
  | @tup a xs ds1 a1 r1 =>
   cases h2 with
   | @tup b ys ds2 a2 r2 =>
    refine .inl (.inr ⟨_,_,_,_,rfl,rfl,bW.of (s _ _ a1),bW.of (s _ _ a2),fun z=>h.1.1 ?_,by rw [r1.len,r2.len];exact h.1.2,fun z=>?_,fun _ p hp=>bu.nt q s h.2 hp (r1.app r2)⟩)
    ·subst z;cases r1;rfl
    ·subst z;cases r2;refine bu.sc q s h.2 ?_;rw [List.append_nil];exact .tup a1 r1
 ·obtain ⟨x,y,rfl,h1,h2⟩:=cP r;cases h1;cases h2;exact .inr ⟨_,_,rfl,rfl,h.1,bu.sc q s h.2 (.str _)⟩
 ·exact h.elim
inductive Dm (K:Frag) (x:V) (y:V)(H:Hp)(Q:VK):Prop
 | mk:∀ l k xs,(x=.ref l)->(y=.int k)->(b9 K H l xs)->(-(2 ^ 63)<=k)->(k < 2 ^ 63)->(xs.length * k.toNat<=sizeLine)->(∀ p,H p=none->Q (.ref p) (upd H p (.lst (List.replicate k.toNat xs).flatten)))->Dm K x y H Q
def F7 (K:Frag):R2:=fun x y H Q=>Dm K x y H Q
section
variable {X:Cx}
open PyProof.Rows in
def HD:bG X (binaryOp .Mult) (F7 X.K):=by
 intro pins s σ H x y v u Q I rx ry h;obtain ⟨l,k,xs,rfl,rfl,hH,h1,h2,hz,q⟩:=h;cases rx;obtain ⟨t,rfl⟩:=ry;obtain ⟨z,its,n,r,e⟩:=hH.get I;have hl:=r.length;have hlen:its.toArray.size * k.toNat<=sizeLine:=by rw [OJ,<- hl];exact hz
 have hcap:¬ its.toArray.size * k.toNat > (2 ^ 63 - 1) / 8:=by
  have:(sizeLine:Nat)<=(2 ^ 63 - 1) / 8:=by decide
  omega
 have hfit:¬ (!Builtin.List.listFitsIndex k)=true:=by
  rw [fitsIndex_both h1 h2];exact ON
 have hlong:¬ Builtin.List.listTooLong (its.toArray.size * k.toNat)=true:=by
  rw [DB hlen];exact ON
 have hnew:List.foldl (fun x1 x2=>x1++x2) #[] (List.replicate (if its.toArray.isEmpty=true then 0 else k.toNat) its.toArray)=(List.replicate k.toNat its).flatten.toArray:=by
  have f0:∀ m:Nat,List.foldl (fun x1 x2=>x1++x2) #[] (List.replicate m its.toArray)=(List.replicate m its).flatten.toArray:=fun m=>by
   have:=foldl_rep its m [];rw [List.nil_append] at this;exact this
  rw [f0];cases its with
  | nil=>simp
  | cons a r'=>rw [if_neg (by simp)]
 refine wpAny_binaryOp_repeat_ref (T:="list") (U:="int") (by decide) ⟨_,e,rfl⟩ (fun s'=>typeIs_int s' k t) noFill_list_mul F.fills_int_mul F.slot_int_rmul repeat_list F.slot_int_index.lookup
  (call_meets F.slot_int_rmul (typeIs_int s k t) F.entry_int_rmul (F.args_int_rmul_2 _ _) (int___rmul___int_list k t l its.toArray n)
   ⟨e,rfl,⟨_,e,rfl⟩,call_meets F.slot_list_mul ⟨_,e,rfl⟩ F.entry_list_mul (F.args_list_mul_2 _ _) (AutoListH.list___mul___list_int_3 l its.toArray n k t hfit hcap hlong) ⟨e,?_⟩⟩)
 rw [hnew];exact ⟨.ref _,_,I.Ju (t':=s.toks) (r.rep k.toNat) (by rw [len_rep,Nat.mul_comm];exact hz),rfl,q _ I.fresh⟩
end
theorem au.rep {K:Frag}{H:Hp}{xs:List V}{ds:List PyData}(r:au K H xs ds):∀ n:Nat,au K H (List.replicate n xs).flatten (List.replicate n ds).flatten
 | 0=>.nil
 | n + 1=>by rw [List.replicate_succ,List.replicate_succ,List.flatten_cons,List.flatten_cons];exact r.app (r.rep n)
def iw:DR:=fun ds P=>match ds with
 | [.int a,.int b]=>ja a b/\P .sh (.int (a * b))
 | [.list a,.int k]=>(-(2 ^ 63)<=k/\k < 2 ^ 63/\a.length * k.toNat<=sizeLine)/\P (.ow false) (.list (List.replicate k.toNat a).flatten)
 | _=>False
def GD (K:Frag):R2:=fun x y H Q=>(rI ja fun i j=>.int (i * j)) x y H Q\/F7 K x y H Q
def Iw {X:Cx}:bG X (binaryOp .Mult) (GD X.K):=Ku.or HD
def G7 {K:Frag}:cM K iw (r2 (GD K)):=by
 intro H Hm vs ds P Q s r h q;unfold iw at h;split at h
 ·obtain ⟨x,y,rfl,h1,h2⟩:=cP r;cases h1;cases h2;exact .inl ⟨_,_,rfl,rfl,h.1,bu.sc q s h.2 (.int _)⟩
 ·obtain ⟨x,y,rfl,h1,h2⟩:=cP r;cases h2;cases h1 with
  | lst a1 r1=>exact .inr ⟨_,_,_,rfl,rfl,b9.mono s a1,h.1.1,h.1.2.1,by rw [r1.len];exact h.1.2.2,fun p hp=>bu.nl q s h.2 hp (r1.rep _)⟩
 ·exact h.elim
end Dv
namespace L2
open PySem PySem.Spec PyProof.Rows
section
variable {prog:Program}{w:World}{A:Around}{E:Value->Shared->Prop}{s:Shared}
def t7 {t sl:Addr}{items:Array Value}{vl vu:Value}{lo hi:Option Int}{Q:Value->Shared->Prop}(ht:IsTup s.heap t items)(hs:s.heap.IsSliceOf sl vl vu .none)(pl:IsPart vl lo)(pu:IsPart vu hi)
  (w0:HT.aC items.size 0 lo=0)(w1:HT.aC items.size items.size hi=items.size)(h:Q (.ref t) s):wpAny (model prog w) A (getItem (.ref t) (.ref sl)) Q E s:=by
 obtain ⟨os,hos,hcs,hds⟩:=id hs;have hTs:s.TypeIs (.ref sl) "slice":=⟨os,hos,hcs⟩;unfold getItem;refine wpAny_holding (?_:_)
 refine N8 (wpAny_sequenceKey ht.typeIs (by decide) (?_:_))
 refine N8 (wpAny_callSpecial?_slot (name:=Str.ofString "__getitem__") ht.typeIs PyProof.Rows.slot_tuple_getitem
  (wpAny_call_entry PyProof.Rows.slot_tuple_getitem ht.typeIs entry_tuple_getitem (?_:_) (args_tuple_getitem _ _)))
 refine id (?_:wpAny _ _ (Builtin.Tuple.tupleItemsOf (.ref t) >>= _) _ _ s);refine N8 (tupleItemsOf_ ht (?_:_))
 refine N8 (wpAny_typeOf hTs (?_:_))
 rw [if_pos (by decide)]
 refine N8 (HT.jP hs pl pu (?_:_))
 have yes:(((HT.aC items.size 0 lo:Nat):Int) == 0 && (1:Int) == 1 && (HT.aC items.size items.size hi - HT.aC items.size 0 lo) == items.size)=true:=by
  rw [w0,w1,Nat.sub_zero];simp
 refine id (?_:wpAny _ _ (if (((HT.aC items.size 0 lo:Nat):Int) == 0 && (1:Int) == 1 && (HT.aC items.size items.size hi - HT.aC items.size 0 lo) == items.size)=true then _ else _) _ _ s)
 rw [if_pos yes];refine N8 (m:=Builtin.Tuple.tupleIsExact _) (N8 (wpAny_typeOf ht.typeIs (O0 (?_:_))))
 rw [if_pos (by decide)]
 refine N8 (wpAny_rule (?_:_))
 exact O0 ⟨_,rfl,O0 h⟩
end
section
variable {X:Cx}
def GA (K:PySem.W.Frag):V->Option Int->Option Int->Hp->VK->Prop:=fun x lo hi H Q=>∃ a xs,x=.ref a/\bW K H a xs /\
 (HT.aC xs.length 0 lo=0/\HT.aC xs.length xs.length hi=xs.length->Q (.ref a) H)/\(¬ (HT.aC xs.length 0 lo=0/\HT.aC xs.length xs.length hi=xs.length)->∀ p,H p=none->Q (.ref p) (upd H p (.tup (mE xs lo hi))))
def GV:Cr X (GA X.K):=by
 intro pins s σ H x v vl vu lo hi sl Q I rx hs pl pu h;obtain ⟨a,xs,rfl,hx,q1,q2⟩:=h
 by_cases c:HT.aC xs.length 0 lo=0/\HT.aC xs.length xs.length hi=xs.length
 ·cases rx;obtain ⟨its,r,ht,hz⟩:=I.tuple hx;have hlen:its.toArray.size=xs.length:=by rw [OJ];exact r.length.symm
  refine ⟨"tuple",_,PyProof.Rows.slot_tuple_getitem.lookup,ht.typeIs,?_⟩;exact t7 ht hs pl pu (by rw [hlen];exact c.1) (by rw [hlen];exact c.2) ⟨.ref a,H,I,rfl,q1 c⟩
 ·exact Jj pins s σ H (.ref a) v vl vu lo hi sl Q I rx hs pl pu ⟨a,xs,rfl,hx,c,q2 c⟩
end
end L2
namespace Dv
open PySem L2 PySem.W
def dl:Nat->PyData->Bool
 | _,.none=>true
 | _,.int _=>true
 | _,.str x=>PyData.strOk x
 | n + 1,.list ds=>ds.all (dl n)
 | n + 1,.tuple ds=>ds.all (dl n)
 | _,_=>false
theorem jv:∀ {ds:List PyData},(∀ d∈ds,d.canLay0=true)->PyData.canLayAll0 ds=true
 | [],_=>rfl
 | d::ds,h=>by
  rw [PyData.canLayAll0,h d N9,jv fun e he=>h e (O6 _ he)]
  rfl
theorem nB {n:Nat}:∀ {ds:List PyData},(∀ d∈ds,d.depth<=n)->PyData.depthAll ds<=n
 | [],_=>by rw [PyData.depthAll];exact Nat.zero_le _
 | d::ds,h=>by
  rw [PyData.depthAll];exact Nat.max_le.mpr ⟨h d N9,nB fun e he=>h e (O6 _ he)⟩
theorem eB:∀ {n:Nat}{d:PyData},dl n d=true->d.canLay0=true/\d.depth<=n
 | _,.none,_=>⟨rfl,Nat.zero_le _⟩
 | _,.int _,_=>⟨rfl,Nat.zero_le _⟩
 | n,.str x,h=>⟨by cases n <;> exact h,Nat.zero_le _⟩
 | n + 1,.list ds,h=>by
  have h:ds.all (dl n)=true:=h;rw [OC] at h;refine ⟨by rw [PyData.canLay0];exact jv fun d hd=>(eB (h d hd)).1,?_⟩
  rw [PyData.depth];have:=nB (n:=n) (ds:=ds) fun d hd=>(eB (h d hd)).2
  omega
 | n + 1,.tuple ds,h=>by
  have h:ds.all (dl n)=true:=h;rw [OC] at h;refine ⟨by rw [PyData.canLay0];exact jv fun d hd=>(eB (h d hd)).1,?_⟩
  rw [PyData.depth];have:=nB (n:=n) (ds:=ds) fun d hd=>(eB (h d hd)).2
  omega
 | 0,.list _,h=>by cases h
 | 0,.tuple _,h=>by cases h
 | n,.bool _,h=>by cases n <;> cases h
 | n,.dict _,h=>by cases n <;> cases h
theorem k7:∀ {ds:List PyData},(∀ d∈ds,nd d=true)->nd.nds ds=true
 | [],_=>rfl
 | d::ds,h=>by
  rw [nd.nds,h d N9,k7 fun e he=>h e (O6 _ he)]
  rfl
theorem iH:∀ {n:Nat}{d:PyData},dl n d=true->nd d=true
 | _,.none,_=>rfl
 | _,.int _,_=>rfl
 | _,.str _,_=>rfl
 | _,.bool _,_=>rfl
 | n + 1,.list ds,h=>by
  have h:ds.all (dl n)=true:=h;rw [OC] at h;rw [nd];exact k7 fun d hd=>iH (h d hd)
 | n + 1,.tuple ds,h=>by
  have h:ds.all (dl n)=true:=h;rw [OC] at h;rw [nd];exact k7 fun d hd=>iH (h d hd)
 | 0,.list _,h=>by cases h
 | 0,.tuple _,h=>by cases h
 | n,.dict _,h=>by cases n <;> cases h
theorem mZ {f:PyData->Bool}(hf:∀ a b,f a=true->f b=true->SeqAt.noMix a b=true):∀ {xs ys:List PyData},xs.all f=true->ys.all f=true->SeqAt.noMixAll xs ys=true
 | [],[],_,_=>rfl
 | [],_::_,_,_=>rfl
 | _::_,[],_,_=>rfl
 | x::xs,y::ys,h1,h2=>by
  rw [OH,OA] at h1 h2;rw [SeqAt.noMixAll,hf x y h1.1 h2.1,mZ hf h1.2 h2.2];rfl
def Be:∀ (n:Nat)(a b:PyData),dl n a=true->dl n b=true->SeqAt.noMix a b=true:=by
 intro n
 induction n with
 | zero =>
  intro a b ha hb;cases a <;> first | (cases ha;done) | (cases b <;> first | (cases hb;done) | rfl)
 | succ n ih =>
  intro a b ha hb;cases a with
  | list xs =>
   cases b with
   | list ys=>rw [SeqAt.noMix];exact mZ ih ha hb
   | dict _=>cases hb
   | bool _=>cases hb
   | _=>rfl
  | tuple xs =>
   cases b with
   | tuple ys=>rw [SeqAt.noMix];exact mZ ih ha hb
   | dict _=>cases hb
   | bool _=>cases hb
   | _=>rfl
  | dict _=>cases ha
  | bool _=>cases ha
  | _=>cases b <;> first | (cases hb;done) | rfl
def wI {n:Nat}{a b:PyData}(ha:dl n a=true)(hb:dl n b=true):PyData.eqv a b=decide (a=b):=by
 rw [<- SeqAt.same_eq_eqv a b (Be n a b ha hb),Bool.eq_iff_iff,PyProof.Rows.same_iff,decide_eq_true_eq]
def tH {n:Nat}{d:PyData}(h:dl n d=true)(l:n<=60):SeqAt.shaped d=true:=by
 obtain ⟨h1,h2⟩:=eB h;unfold SeqAt.shaped;rw [h1,decide_eq_true (Nat.le_trans h2 (by omega))]
 rfl
def Gf (a b:PyData)(P:Bool->Prop):Prop:=match a,b with
 | .int a,.int b=>P (decide (a=b))
 | .str a,.str b=>P (decide (a=b))
 | .bool a,.bool b=>P (decide (a=b))
 | .none,.none=>P true
 | a,b=>(dl 8 a=true/\dl 8 b=true)/\P (decide (a=b))
def iU:DR:=fun ds P=>match ds with
 | [a,b]=>Gf a b fun c=>P .sh (.bool c)
 | _=>False
def mO:DR:=fun ds P=>match ds with
 | [a,b]=>Gf a b fun c=>P .sh (.bool !c)
 | _=>False
def qh (K:Frag)(neg:Bool):R2:=fun x y H Q=>D9 K neg x y H Q\/(if neg then MQ x y H Q else M4 x y H Q)
section
variable {X:Cx}
def BZ (hu:X.A.units + 64 < cLine):bG X (compareOp .Eq) (qh X.K false):=(Jg hu).or (LW (X:=X))
def Km (hu:X.A.units + 64 < cLine):bG X (compareOp .NotEq) (qh X.K true):=(IK hu).or (Mz (X:=X))
end
def Cy {K:Frag}{H Hm:Hp}{x y:V}{a b:PyData}{Pb:Bool->Prop}{Q:VK}(neg:Bool)(s:af Hm H)(h1:Rp K Hm x a)(h2:Rp K Hm y b)(h:Gf a b Pb)(q:∀ c,Pb c->Q (.bl (if neg then !c else c)) H):qh K neg x y H Q:=by
 have gen:dl 8 a=true/\dl 8 b=true->Pb (decide (a=b))->qh K neg x y H Q:=fun hd p=>by
  refine .inl ⟨a,b,(h1.mono s).lF (iH hd.1),(h2.mono s).lF (iH hd.2),tH hd.1 (by decide),tH hd.2 (by decide),Be 8 a b hd.1 hd.2,?_⟩
  have e:Spec.same a b=decide (a=b):=by rw [Bool.eq_iff_iff,PyProof.Rows.same_iff,decide_eq_true_eq]
  rw [e];exact q _ p
 have sc:EI x y=true->Pb (decide (x=y))->qh K neg x y H Q:=fun hs p=>by
  refine .inr ?_;cases neg with
  | true=>exact ⟨hs,q _ p⟩
  | false=>exact ⟨hs,q _ p⟩
 unfold Gf at h;split at h
 ·cases h1;cases h2;refine sc rfl ?_
  simpa using h
 ·cases h1;cases h2;refine sc rfl ?_
  simpa using h
 ·cases h1;cases h2;refine sc rfl ?_
  simpa using h
 ·cases h1;cases h2;exact gen ⟨rfl,rfl⟩ (by simpa using h)
 ·exact gen h.1 h.2
def Bx {K:Frag}:cM K iU (r2 (qh K false)):=by
 intro H Hm vs ds P Q s r h q;unfold iU at h;split at h
 ·obtain ⟨x,y,rfl,h1,h2⟩:=cP r;exact Cy false s h1 h2 h fun c p=>bu.sc q s p (.bl _)
 ·exact h.elim
def LA {K:Frag}:cM K mO (r2 (qh K true)):=by
 intro H Hm vs ds P Q s r h q;unfold mO at h;split at h
 ·obtain ⟨x,y,rfl,h1,h2⟩:=cP r;exact Cy true s h1 h2 h fun c p=>bu.sc q s p (.bl _)
 ·exact h.elim
def dR (neg:Bool):DR:=fun ds P=>match ds with
 | [a,.none]=>P .sh (.bool (if neg then !decide (a=.none) else decide (a=.none)))
 | _=>False
def HP {K:Frag}{H:Hp}{x:V}{d:PyData}(h:Rp K H x d):decide (x=.aY)=decide (d=.none):=by
 cases h <;> simp
def IF {K:Frag}:cM K (dR false) (r2 fun x y H Q=>y=.aY/\Q (.bl (decide (x=.aY))) H):=by
 intro H Hm vs ds P Q s r h q;unfold dR at h;split at h
 ·obtain ⟨x,y,rfl,h1,h2⟩:=cP r;cases h2;refine ⟨rfl,?_⟩;rw [HP h1];exact bu.sc q s h (.bl _)
 ·exact h.elim
def Bt (neg:Bool):DR:=fun ds P=>match ds with
 | [d,.list xs]=>(xs.all (dl 8)=true/\dl 8 d=true)/\P .sh (.bool (if neg then !decide (d∈xs) else decide (d∈xs)))
 | [d,.tuple xs]=>(xs.all (dl 8)=true/\dl 8 d=true)/\P .sh (.bool (if neg then !decide (d∈xs) else decide (d∈xs)))
 | _=>False
inductive Gi (K:Frag)(neg:Bool) (x:V) (y:V)(H:Hp)(Q:VK):Prop
 | mk:∀ (d:PyData)(xs:List PyData),(jV K H x d)->((jV K H y (.list xs)\/jV K H y (.tuple xs)))->(PyData.canLayAll0 xs=true)->(d.canLay0=true)->(d.depth<=60)->(Q (.bl (if neg then !xs.any fun y=>PyData.eqv y d else xs.any fun y=>PyData.eqv y d)) H)->Gi K neg x y H Q
def Ar (K:Frag)(neg:Bool):R2:=fun x y H Q=>Gi K neg x y H Q
section
variable {X:Cx}
def JI (hu:X.A.units + 64 < cLine):bG X (compareOp .In) (Ar X.K false):=by
 intro pins s σ H x y v u Q I rx ry h;obtain ⟨d,xs,hx,hy,l1,l2,dp,q⟩:=h;obtain ⟨bs,rb⟩:=I.reads hx rx;rcases hy with hy | hy
 ·obtain ⟨as,ra⟩:=I.reads hy ry;exact SeqAt.in_list_reads ra rb l1 l2 (by omega) ⟨.bl _,H,I,rfl,q⟩
 ·obtain ⟨as,ra⟩:=I.reads hy ry;exact SeqAt.in_tuple_reads ra rb l1 l2 (by omega) ⟨.bl _,H,I,rfl,q⟩
def BG (hu:X.A.units + 64 < cLine):bG X (compareOp .NotIn) (Ar X.K true):=by
 intro pins s σ H x y v u Q I rx ry h;obtain ⟨d,xs,hx,hy,l1,l2,dp,q⟩:=h;obtain ⟨bs,rb⟩:=I.reads hx rx;rcases hy with hy | hy
 ·obtain ⟨as,ra⟩:=I.reads hy ry;exact SeqAt.notIn_list_reads ra rb l1 l2 (by omega) ⟨.bl _,H,I,rfl,q⟩
 ·obtain ⟨as,ra⟩:=I.reads hy ry;exact SeqAt.notIn_tuple_reads ra rb l1 l2 (by omega) ⟨.bl _,H,I,rfl,q⟩
end
def zH {n:Nat}{d:PyData}{xs:List PyData}(h:xs.all (dl n)=true)(hd:dl n d=true):(xs.any fun y=>PyData.eqv y d)=decide (d∈xs):=by
 rw [Bool.eq_iff_iff,List.any_eq_true,decide_eq_true_eq];rw [OC] at h;constructor
 ·rintro ⟨y,hy,e⟩;rw [wI (h y hy) hd,decide_eq_true_eq] at e;exact e ▸ hy
 ·intro m;exact ⟨d,m,by rw [wI hd hd];simp⟩
def Jk {K:Frag}(neg:Bool):cM K (Bt neg) (r2 (Ar K neg)):=by
 intro H Hm vs ds P Q s r h q;unfold Bt at h;split at h
 ·rename_i d xs;obtain ⟨x,y,rfl,h1,h2⟩:=cP r;obtain ⟨⟨ha,hd⟩,p⟩:=h;refine ⟨d,xs,(h1.mono s).lF (iH hd),.inl ((h2.mono s).lF (by rw [nd];exact k7 fun d hd=>iH (OC.mp ha d hd))),jv fun e he=>(eB (OC.mp ha e he)).1,(eB hd).1,Nat.le_trans (eB hd).2 (by decide),?_⟩
  rw [zH ha hd];exact bu.sc q s p (.bl _)
 ·rename_i d xs;obtain ⟨x,y,rfl,h1,h2⟩:=cP r;obtain ⟨⟨ha,hd⟩,p⟩:=h;refine ⟨d,xs,(h1.mono s).lF (iH hd),.inr ((h2.mono s).lF (by rw [nd];exact k7 fun d hd=>iH (OC.mp ha d hd))),jv fun e he=>(eB (OC.mp ha e he)).1,(eB hd).1,Nat.le_trans (eB hd).2 (by decide),?_⟩
  rw [zH ha hd];exact bu.sc q s p (.bl _)
 ·exact h.elim
def Cp:DR:=fun ds P=>match ds with
 | [.list xs,.int i]=>∃ d,dg xs i=some d/\P .sh d
 | [.tuple xs,.int i]=>∃ d,dg xs i=some d/\P .sh d
 | _=>False
theorem au.dg {K:Frag}{H:Hp}{vs:List V}{ds:List PyData}(r:au K H vs ds){i:Int}{d:PyData}(h:L2.dg ds i=some d):∃ v,L2.dg vs i=some v/\Rp K H v d:=by
 unfold L2.dg at h ⊢;rw [r.len];cases e:nS ds.length i with
 | none=>rw [e] at h;cases h
 | some j =>
  rw [e] at h;exact r.get h
def J3 {K:Frag}:cM K Cp (r2 (Jb K)):=by
 intro H Hm vs ds P Q s r h q;unfold Cp at h;split at h
 ·obtain ⟨x,y,rfl,h1,h2⟩:=cP r;obtain ⟨d,e,p⟩:=h;cases h2;cases h1 with
  | lst a1 r1 =>
   obtain ⟨v,e2,rv⟩:=r1.dg e;exact .inl ⟨_,_,_,v,rfl,rfl,(b9.mono s a1).sq,e2,bu.sc q s p rv⟩
 ·obtain ⟨x,y,rfl,h1,h2⟩:=cP r;obtain ⟨d,e,p⟩:=h;cases h2;cases h1 with
  | tup a1 r1 =>
   obtain ⟨v,e2,rv⟩:=r1.dg e;exact .inr (.inl ⟨_,_,_,v,rfl,rfl,bW.of (s _ _ a1),e2,bu.sc q s p rv⟩)
 ·exact h.elim
def cutD (xs:List PyData)(lo hi:Option Int):List PyData:=(xs.drop (HT.aC xs.length 0 lo)).take (HT.aC xs.length xs.length hi - HT.aC xs.length 0 lo)
def au.cut {K:Frag}{H:Hp}{vs:List V}{ds:List PyData}(r:au K H vs ds)(lo hi:Option Int):au K H (mE vs lo hi) (cutD ds lo hi):=by
 unfold mE cutD;rw [r.len];exact (r.drop _).take _
def Ct (d:PyData)(lo hi:Option Int)(P:Kd->PyData->Prop):Prop:=match d with
 | .list xs=>P (.ow false) (.list (cutD xs lo hi))
 | .tuple xs=>P .sh (.tuple (cutD xs lo hi))
 | _=>False
def ko (bl bh:Bool):DR:=fun ds P=>match bl,bh,ds with
 | false,false,[d]=>Ct d none none P
 | true,false,[d,.int a]=>Ct d (some a) none P
 | false,true,[d,.int b]=>Ct d none (some b) P
 | true,true,[d,.int a,.int b]=>Ct d (some a) (some b) P
 | _,_,_=>False
def rQ (K:Frag):V->Option Int->Option Int->Hp->VK->Prop:=fun x lo hi H Q=>Jr K x lo hi H Q\/GA K x lo hi H Q
def Ds {X:Cx}:Cr X (rQ X.K):=fun pins s σ H x v vl vu lo hi sl Q I rx hs pl pu h=>h.elim (GP pins s σ H x v vl vu lo hi sl Q I rx hs pl pu) (GV pins s σ H x v vl vu lo hi sl Q I rx hs pl pu)
def Bb (bl bh:Bool)(K:Frag):List V->Hp->VK->Prop:=fun vs H Q=>match bl,bh,vs with
 | false,false,[x]=>rQ K x none none H Q
 | true,false,[x,a]=>∃ i,a=.int i/\rQ K x (some i) none H Q
 | false,true,[x,b]=>∃ i,b=.int i/\rQ K x none (some i) H Q
 | true,true,[x,a,b]=>∃ i,a=.int i/\∃ j,b=.int j/\rQ K x (some i) (some j) H Q
 | _,_,_=>False
def Au {xs:List PyData}{lo hi:Option Int}(h:HT.aC xs.length 0 lo=0/\HT.aC xs.length xs.length hi=xs.length):cutD xs lo hi=xs:=by
 unfold cutD;rw [h.1,h.2,List.drop_zero,Nat.sub_zero,List.take_length]
def qY {K:Frag}{H Hm:Hp}{P:Kd->PyData->Prop}{Q:VK}(q:bu K H Hm P Q)(s:af Hm H){x:V}{d:PyData}(h1:Rp K Hm x d){lo hi:Option Int}(h:Ct d lo hi P):rQ K x lo hi H Q:=by
 cases h1 with
 | lst a1 r1=>exact .inl ⟨_,_,rfl,(b9.mono s a1).sq,fun p hp=>bu.nl q s h hp (r1.cut lo hi)⟩
 | tup a1 r1 =>
  refine .inr ⟨_,_,rfl,bW.of (s _ _ a1),fun w=>?_,fun _ p hp=>bu.nt q s h hp (r1.cut lo hi)⟩
  rw [r1.len] at w;have h:P .sh (.tuple (cutD _ lo hi)):=h;rw [Au w] at h;exact bu.sc q s h (.tup a1 r1)
 | _=>exact h.elim
def we {K:Frag}(bl bh:Bool):cM K (ko bl bh) (Bb bl bh K):=by
 intro H Hm vs ds P Q s r h q;unfold ko at h;split at h
 ·obtain ⟨x,rfl,h1⟩:=c7 r;exact qY q s h1 h
 ·obtain ⟨x,y,rfl,h1,h2⟩:=cP r;cases h2;exact ⟨_,rfl,qY q s h1 h⟩
 ·obtain ⟨x,y,rfl,h1,h2⟩:=cP r;cases h2;exact ⟨_,rfl,qY q s h1 h⟩
 ·obtain ⟨x,y,z,rfl,h1,h2,h3⟩:=Nt r;cases h2;cases h3;exact ⟨_,rfl,_,rfl,qY q s h1 h⟩
 ·exact h.elim
section
variable {X:Cx}{Ex:XK}{π:List Nat}{a l u:Expr}{pos p2:Pos}{as:List Arg}
def LF (S:aL X Ex π [a,l] as):SE X Ex π (.Subscript a (.Slice (some l) none none p2) pos) (aa (ko true false) as):=eL (r:=Bb true false X.K) S (fun σ H Q h=>WE.of (u7 Ds bE (zd bE) zq) h) (we _ _)
def B0 (S:aL X Ex π [a,u] as):SE X Ex π (.Subscript a (.Slice none (some u) none p2) pos) (aa (ko false true) as):=eL (r:=Bb false true X.K) S (fun σ H Q h=>WE.of (u7 Ds bE zq (zd bE)) h) (we _ _)
open PyProof.Rows in
def IU {σ:L2.St}{H:Hp}{Q:VK}(h:qT X [a,l,u] σ H fun vs H1=>Bb true true X.K vs H1 Q):WE X (.Subscript a (.Slice (some l) (some u) none p2) pos) σ H Q:=by
 intro pins s I;refine Subscript_ (aF (h pins s I) fun v s1 ⟨x,H1,I1,r1,q1⟩=>?_)
 refine wpAny_Slice ?_;rw [evalPart_some];refine aF (q1 pins s1 I1) fun vl s2 ⟨y,H2,I2,pl,q2⟩=>?_
 rw [evalPart_some];refine aF (q2 pins s2 I2) fun vu s3 ⟨z,H3,I3,pu,q3⟩=>?_
 obtain ⟨i,rfl,j,rfl,q3⟩:=q3;obtain ⟨t1,rfl⟩:=pl;obtain ⟨t2,rfl⟩:=pu;rw [evalPart_none];refine O0 ?_;have I4:Inv X pins σ H3 { s3 with heap:=s3.heap.push { cls:=.type "slice",data:=.fields #[.int i t1,.int j t2,.none] } }:=I3.kept (t':=s3.toks) fun b ob q=>OF _ q
 obtain ⟨T,id,hT,ht,hg⟩:=Ds pins { s3 with heap:=s3.heap.push { cls:=.type "slice",data:=.fields #[.int i t1,.int j t2,.none] } } σ H3 x v (.int i t1) (.int j t2) (some i) (some j) s3.heap.objs.size Q I4 r1 (Heap.IsSliceOf.new ..) (.int i t1) (.int j t2) q3
 show wpAny (model X.prog X.w) X.A (subscriptTail a (.Slice (some l) (some u) none p2) v (.ref s3.heap.objs.size)) (EP X pins σ Q) X.xe { s3 with heap:=s3.heap.push { cls:=.type "slice",data:=.fields #[.int i t1,.int j t2,.none] } }
 exact tail_any (ops:=[.ref s3.heap.objs.size,v]) ht hT hg (by with_unfolding_all rfl)
def Je (S:aL X Ex π [a,l,u] as):SE X Ex π (.Subscript a (.Slice (some l) (some u) none p2) pos) (aa (ko true true) as):=eL (r:=Bb true true X.K) S (fun σ H Q h=>IU h) (we _ _)
end
end Dv
namespace L2
open PySem PySem.Spec PyProof.Rows
section
variable {X:Cx}
def xX:cj X (.type "range") (fun xs H Q=>∃ j:Int,xs=[.int j]/\∀ p,H p=none->Q (.ref p) (upd H p (.oO 0 j))):=by
 intro pins s σ H xs us Q I r h;obtain ⟨j,rfl,q⟩:=h;obtain ⟨u,rfl,ru⟩:=vals1 r;obtain ⟨t,rfl⟩:=ru;refine call_range_1 (?_:_)
 exact ⟨.ref s.heap.objs.size,_,I.laid (o:=.oO 0 j) (fun b o e=>OF _ e) (O5 _) ⟨_,_,_,Of _ rfl⟩,rfl,q _ (I.hok.fresh (O5 _))⟩
def Aq (hc:X.calm=true):cj X (.type "list") (fun xs H Q=>∃ (a:Addr) (j:Int),xs=[.ref a]/\H a=some (.oO 0 j)/\0<=j/\j<=1000/\∀ l,H l=none->Q (.ref l) (upd H l (.lst (((List.range j.toNat).map fun i:Nat=>(i:Int)).map V.int)))):=by
 intro pins s σ H xs us Q I r h;obtain ⟨a,j,rfl,ha,j0,j1,q⟩:=h;obtain ⟨u,rfl,ru⟩:=vals1 r;cases ru;obtain ⟨t,u,v,e⟩:=I.hok a _ ha;refine call_list_range (n:=j.toNat) (I.ok.hd hc) e (small_one (by decide) (by decide) (by omega) (by omega)) (by rw [rangeSize_one];split <;> omega) (by omega) fun h' tk acc c kp hS its=>?_
 obtain ⟨z1,z2⟩:=its;have rv:Vals (((List.range j.toNat).map fun i:Nat=>(i:Int)).map V.int) acc.toList:=by
  have go:∀ (l:List Value) (k:Nat),(∀ (i:Nat)(v:Value),l[i]?=some v->∃ t:Tok,v=Value.int ((k + i:Nat):Int) t)->Vals (((List.range' k l.length).map fun i:Nat=>(i:Int)).map V.int) l:=fun l=>by
   induction l with
   | nil=>exact fun k _=>.nil
   | cons x l ih =>
    intro k h;obtain ⟨t,e⟩:=h 0 x rfl;refine .cons ⟨t,by simpa using e⟩ (ih (k + 1) fun i v hv=>?_)
    obtain ⟨t,e⟩:=h (i + 1) v hv;exact ⟨t,by rw [e,Nat.add_assoc,Nat.add_comm 1 i]⟩
  have:=go acc.toList 0 fun i v hv=>by
   obtain ⟨t,e⟩:=z2 i v (by simpa using hv)
   exact ⟨t,by rw [e];simp⟩
  rw [List.range_eq_range']
  simpa [z1] using this
 exact ⟨.ref s.heap.objs.size,_,I.laid (t':=tk) kp (O5 _) (o:=.lst _) ⟨by rw [O7,O7,OP];exact Nat.le_trans (show j.toNat<=1000 by omega) (by decide),acc.toList,c,rv,by simpa using hS⟩,rfl,q _ (I.hok.fresh (O5 _))⟩
end
end L2
namespace L2
open PySem PySem.Spec PyProof.Rows PySem.W
def cC {α:Type}(c:List Nat)(x:α):List (List Nat×List α)->List (List Nat×List α)
 | []=>[(c,[x])]
 | (d,xs)::gs=>if d=c then (d,xs++[x])::gs else (d,xs)::cC c x gs
def f9 {α:Type}(l:List (List Nat×α)):List (List Nat×List α):=l.foldl (fun gs q=>cC q.1 q.2 gs) []
def kr {α:Type}(l:List (List Nat×α))(q:List Nat×α):f9 (l++[q])=cC q.1 q.2 (f9 l):=by
 unfold f9;rw [List.foldl_append];rfl
theorem uW {α:Type}(c:List Nat)(x:α):∀ gs:List (List Nat×List α),(cC c x gs).length<=gs.length + 1/\∀ n,(∀ g∈gs,g.2.length<=n)->∀ g∈cC c x gs,g.2.length<=n + 1
 | []=>⟨O5 _,fun n _ g hg=>by cases O8.mp hg;exact Nat.succ_le_succ (Nat.zero_le _)⟩
 | (d,xs)::gs=>by
  obtain ⟨h1,h2⟩:=uW c x gs
  by_cases e:d=c
  ·have e2:cC c x ((d,xs)::gs)=(d,xs++[x])::gs:=if_pos e;rw [e2];refine ⟨Nat.le_succ _,fun n hn g hg=>?_⟩
   rcases O9.mp hg with rfl | hg
   ·have:=hn _ N9;rw [OR];exact Nat.succ_le_succ this
   ·exact Nat.le_succ_of_le (hn g (O6 _ hg))
  ·have e2:cC c x ((d,xs)::gs)=(d,xs)::cC c x gs:=if_neg e;rw [e2];refine ⟨Nat.succ_le_succ h1,fun n hn g hg=>?_⟩
   rcases O9.mp hg with rfl | hg
   ·exact Nat.le_succ_of_le (hn _ N9)
   ·exact h2 n (fun g hg=>hn g (O6 _ hg)) g hg
theorem qg {α:Type}:∀ (n:Nat)(l:List (List Nat×α)),(f9 (l.take n)).length<=n/\∀ g∈f9 (l.take n),g.2.length<=n
 | 0,l=>by
  rw [List.take_zero];exact ⟨O5 _,fun g hg=>(nomatch hg)⟩
 | n + 1,l=>by
  obtain ⟨h1,h2⟩:=qg n l;rw [List.take_succ];cases e:l[n]? with
  | none =>
   rw [Option.toList_none,List.append_nil];exact ⟨Nat.le_succ_of_le h1,fun g hg=>Nat.le_succ_of_le (h2 g hg)⟩
  | some q =>
   rw [Option.toList_some,kr];obtain ⟨h3,h4⟩:=uW q.1 q.2 (f9 (l.take n));exact ⟨by omega,h4 n h2⟩
theorem sJ {α:Type}(c:List Nat)(x:α):∀ gs:List (List Nat×List α),(gs.map (·.1)).Nodup->((cC c x gs).map (·.1)).Nodup/\∀ d,d∈(cC c x gs).map (·.1)↔d∈gs.map (·.1)\/d=c
 | [],_=>⟨List.nodup_cons.mpr ⟨OW,List.nodup_nil⟩,fun d=>by simp [cC]⟩
 | (e,xs)::gs,h=>by
  obtain ⟨n1,n2⟩:=List.nodup_cons.mp h;obtain ⟨h1,h2⟩:=sJ c x gs n2
  by_cases k:e=c
  ·have e2:cC c x ((e,xs)::gs)=(e,xs++[x])::gs:=if_pos k;rw [e2];refine ⟨h,fun d=>?_⟩
   show d∈e::gs.map (·.1)↔d∈e::gs.map (·.1)\/d=c;constructor
   ·exact .inl
   ·rintro (z | rfl)
    ·exact z
    ·rw [k];exact N9
  ·have e2:cC c x ((e,xs)::gs)=(e,xs)::cC c x gs:=if_neg k;rw [e2];refine ⟨List.nodup_cons.mpr ⟨fun z=>?_,h1⟩,fun d=>?_⟩
   ·rcases (h2 e).mp z with z | z
    ·exact n1 z
    ·exact k z
   ·show d∈e::(cC c x gs).map (·.1)↔d∈e::gs.map (·.1)\/d=c;rw [O9,O9,h2 d];constructor
    ·rintro (z | z | z)
     ·exact .inl (.inl z)
     ·exact .inl (.inr z)
     ·exact .inr z
    ·rintro ((z | z) | z)
     ·exact .inl z
     ·exact .inr (.inl z)
     ·exact .inr (.inr z)
section
variable {X:Cx}{a:Expr}{ta:TE}{pos:Pos}
end
end L2
namespace Dv
open PySem L2 PySem.W
section
variable {X:Cx}{Ex:XK}{π:List Nat}
def zS {e:Expr}{u:V}{v:PyData}(h:PE X e (tC u))(r:∀ Hm,Rp X.K Hm u v):SE X Ex π e (dC v):=fun g x E σ H Hm F P Q hx R p q=>WE.of h (q _ _ _ _ _ _ _ [] p R (af.refl _) (Tm.sh (r Hm)))
def Li {e:Expr}{i j:Nat}(h:PE X e (gh j))(hj:π[j]?=some i):SE X Ex π e (aT i):=by
 intro g x E σ H Hm F P Q hx R p q;obtain ⟨k,d,E',e1,e2,p⟩:=p;obtain ⟨v,Hm',F',h1,s,R',r⟩:=R.cg e1 e2;exact WE.of h ⟨v,cI hj h1,q _ _ _ _ _ _ _ [] p R' s (Tm.sh r)⟩
def bX (X:Cx)(Ex:XK)(π:List Nat)(e:Expr)(d:DE):Prop :=
 ∀ (g:Gh)(x:XC)(E:En)(σ:St)(H Hm:Hp)(F:Nat->List Addr)(P:En->Kd->PyData->Prop)(Q:Bool->Hp->Prop),XL X Ex x g->Rl X.K g E σ H Hm F->d x E P ->
  (∀ E' k v H' Hm' F',P E' k v->Rl X.K g E' σ H' Hm' F'->af Hm Hm'->∃ b,jT v=some b/\Q b H')->WT X e (sel π σ) H Q
def bX.st {e:Expr}{d:DE}(h:bX X Ex π e d):ST X Ex π e (cK d):=fun g x E σ H Hm F P Q hx R p q=>h g x E σ H Hm F _ Q hx R p fun E' k v H' Hm' F' ⟨b,e1,p⟩ R' s=>⟨b,e1,q _ _ _ _ _ p R' s⟩
theorem Rp.jT {K:Frag}{H:Hp}{u:V}{v:PyData}{b:Bool}(r:Rp K H u v)(h:Dv.jT v=some b):se K u H b:=by
 cases r with
 | aY=>cases h;rfl
 | bl c=>cases h;rfl
 | int i =>
  cases h;show (!decide (i=0))=(i != 0);rw [bne,Bool.beq_eq_decide_eq]
 | str _=>cases h
 | lst a r1 =>
  cases h;refine .inl ⟨_,a.sq,?_⟩;cases r1 <;> rfl
 | tup a r1 =>
  cases h;refine .inr (.inl ⟨_,bW.of a,?_⟩);cases r1 <;> rfl
 | dk _ _=>cases h
 | dt _ _=>cases h
theorem Own.jT {K:Frag}{H Hm:Hp}{k:Kd}{u:V}{v:PyData}{fp:List Addr}{b:Bool}(o:Own K H Hm k u v fp)(s:af Hm H)(h:Dv.jT v=some b):se K u H b:=by
 by_cases hk:k.rd=true
 ·exact (o.rp (Hm':=H) hk s fun _ _=>rfl).jT h
 ·cases o <;> first | exact absurd rfl hk | cases h
def SE.yU {e:Expr}{d:DE}(h:SE X Ex π e d)(he:∀ whole,isTrue e X.env whole=(do let v <- whole;standAt e.pos;holding [v] (truthy v))):bX X Ex π e d:=by
 intro g x E σ H Hm F P Q hx R p q;refine WT.of (wj bE he) (h g x E σ H Hm F P _ hx R p fun E' k v u H' Hm' F' fp p' R' s T=>?_)
 obtain ⟨b,e1,q'⟩:=q _ _ _ _ _ _ p' R' s;exact ⟨b,T.own.jT R'.sub e1,q'⟩
def IV {a b:Expr}{op:CmpOp}{pos:Pos}{r:R2}(ho:bG X (compareOp op) r)(hm:behindInMarks op b=false){σ:St}{H:Hp}{Q:Bool->Hp->Prop}(h:qT X [a,b] σ H fun vs H1=>r2 r vs H1 fun x H'=>∃ k,se X.K x H' k/\Q k H'):WT X (.Compare a [op] [b] pos) σ H Q:=by
 intro pins s I;refine wpAny_isTrue_Compare1 (aF (h pins s I) fun v s1 ⟨x,H1,I1,r1,q1⟩=>aF (q1 pins s1 I1) fun u s2 ⟨y,H2,I2,r2,q2⟩=>aF (ho pins s2 σ H2 x y v u _ I2 r1 r2 q2) fun c s3 ⟨z,H3,I3,r3,q3⟩=>?_) hm
 exact By pins s3 σ H3 z c Q I3 r3 q3
def IZ {e:Expr}{es:List Expr}{as:List Arg}{f:DR}{r:List V->Hp->VK->Prop}(S:aL X Ex π es as)(hr:∀ σ H (Q:Bool->Hp->Prop),qT X es σ H (fun vs H1=>r vs H1 fun x H'=>∃ k,se X.K x H' k/\Q k H')->WT X e σ H Q)(D:cM X.K f r):bX X Ex π e (aa f as):=by
 intro g x E σ H Hm F P Q hx R h q;refine hr _ _ _ (jL hx S R h fun E1 os vs H1 Hm1 F1 p R1 s1 G=>?_)
 obtain ⟨ds,hf,hg⟩:=p;have off:∀ a∈(fR as).flatMap F1,Hm1 a=none:=fun a ha=>by
  obtain ⟨i,_,h⟩:=List.mem_flatMap.mp ha;exact R1.off i a h
 have up:=gi (Hm:=Hm1) (H:=H1) off;refine D H1 (lend Hm1 H1 ((fR as).flatMap F1)) vs ds _ _ (ir R1.sub) (jt R1 up G hf fun i hi a ha=>dD (List.mem_flatMap.mpr ⟨i,hi,ha⟩)) hg fun k v u H' Hm2 fp p sH sM sS old o fr=>?_
 obtain ⟨E2,ha,p⟩:=p;obtain ⟨Hm',F',R',s',T⟩:=vN R1 (is:=fR as) (vh ha) sH sM sS old o fr;obtain ⟨b,e1,q'⟩:=q _ _ _ _ _ _ p R' (s1.trans s');exact ⟨b,o.jT sS e1,q'⟩
def gr {a b:Expr}{op:CmpOp}{pos:Pos}{r:R2}{f:DR}{as:List Arg}(ho:bG X (compareOp op) r)(hm:behindInMarks op b=false)(D:cM X.K f (r2 r))(S:aL X Ex π [a,b] as):bX X Ex π (.Compare a [op] [b] pos) (aa f as):=IZ S (fun σ H Q h=>IV ho hm h) D
theorem Own.int {K:Frag}{H Hm:Hp}{k:Kd}{u:V}{i:Int}{fp:List Addr}(o:Own K H Hm k u (.int i) fp):u=.int i:=by
 cases o with
 | sh r=>cases r;rfl
def yS {a:Expr}{pos:Pos}{d:DE}(ha:bX X Ex π a d):bX X Ex π (.UnaryOp .Not a pos) (vd d):=by
 intro g x E σ H Hm F P Q hx R p q;refine WT.of (Dc jm) (ha g x E σ H Hm F _ _ hx R p fun E1 k v H1 Hm1 F1 p1 R1 s1=>?_)
 obtain ⟨c,hc,p1⟩:=p1;obtain ⟨b,e1,q'⟩:=q _ _ _ _ _ _ p1 R1 s1;refine ⟨c,hc,?_⟩;cases e1;exact q'
def WW (X:Cx)(e:Expr):TT:=fun σ H Q=>∀ (whole:Sem Value)(pins:List (Addr×Obj))(s:Shared),Inv X pins σ H s->wpAny (model X.prog X.w) X.A (isTrue e X.env whole) (TP X pins σ Q) X.xe s
def pw_ww {e:Expr}:PW X e (WW X e):=fun wh pins s _ _ _ I h=>h wh pins s I
def WW.of {e:Expr}{t:TT}{σ:St}{H:Hp}{Q:Bool->Hp->Prop}(h:PW X e t)(q:t σ H Q):WW X e σ H Q:=fun wh pins s I=>h wh pins s σ H Q I q
def rB (X:Cx)(Ex:XK)(π:List Nat)(e:Expr)(d:DE):Prop :=
 ∀ (g:Gh)(x:XC)(E:En)(σ:St)(H Hm:Hp)(F:Nat->List Addr)(P:En->Kd->PyData->Prop)(Q:Bool->Hp->Prop),XL X Ex x g->Rl X.K g E σ H Hm F->d x E P ->
  (∀ E' k v H' Hm' F',P E' k v->Rl X.K g E' σ H' Hm' F'->af Hm Hm'->∃ b,jT v=some b/\Q b H')->WW X e (sel π σ) H Q
def rB.yU {e:Expr}{d:DE}(h:rB X Ex π e d):bX X Ex π e d:=fun g x E σ H Hm F P Q hx R p q=>WT.of (PW.pt pw_ww) (h g x E σ H Hm F P Q hx R p q)
def nZ {op:BoolOp}{a:Expr}{pos:Pos}{d:DE}(h:bX X Ex π a d):rB X Ex π (.BoolOp op [a] pos) d:=fun g x E σ H Hm F P Q hx R p q=>by
 cases op with
 | And=>exact WW.of (pw_and1 jm) (h g x E σ H Hm F P Q hx R p q)
 | Or=>exact WW.of (pw_or1 jm) (h g x E σ H Hm F P Q hx R p q)
def lq {a b:Expr}{rest:List Expr}{pos:Pos}{d e:DE}(ha:bX X Ex π a d)(hb:rB X Ex π (.BoolOp .Or (b::rest) pos) e):rB X Ex π (.BoolOp .Or (a::b::rest) pos) (rj d e):=by
 intro g x E σ H Hm F P Q hx R p q;refine WW.of (pw_or jm pw_ww) (ha g x E σ H Hm F _ _ hx R p fun E1 k v H1 Hm1 F1 p1 R1 s1=>?_)
 obtain ⟨c,rfl,p1⟩:=p1;refine ⟨c,rfl,?_⟩;cases c with
 | true =>
  obtain ⟨b,e1,q'⟩:=q _ _ _ _ _ _ p1 R1 s1;cases e1;exact rZ q'
 | false=>exact rW (hb g x E1 σ H1 Hm1 F1 P Q hx R1 p1 fun E' k v H' Hm' F' p' R' s'=>q _ _ _ _ _ _ p' R' (s1.trans s'))
def tN {a b c:Expr}{op op':CmpOp}{pos:Pos}{f f':Int->Int->Bool}{da db dc:DE}(ho:bG X (compareOp op) (mJ fun i j=>.bl (f i j)))(ho':bG X (compareOp op') (mJ fun i j=>.bl (f' i j)))(hm:lastMarks [op,op'] [b,c]=false)
  (ha:SE X Ex π a da)(hb:SE X Ex π b db)(hc:SE X Ex π c dc):bX X Ex π (.Compare a [op,op'] [b,c] pos) (lP f f' da db dc):=by
 intro g x E σ H Hm F P Q hx R p q;refine WT.of (DQ ho ho' bE bE bE hm) (ha g x E σ H Hm F _ _ hx R p fun E1 k1 v1 u1 H1 Hm1 F1 fp1 p1 R1 s1 T1=>?_)
 obtain ⟨i,rfl,p1⟩:=p1;cases T1.own.int;refine hb g x E1 σ H1 Hm1 F1 _ _ hx R1 p1 fun E2 k2 v2 u2 H2 Hm2 F2 fp2 p2 R2 s2 T2=>?_
 obtain ⟨j,rfl,p2⟩:=p2;cases T2.own.int;refine ⟨i,j,rfl,rfl,f i j,rfl,?_⟩
 by_cases z:f i j=true
 ·rw [if_pos z] at p2 ⊢;refine hc g x E2 σ H2 Hm2 F2 _ _ hx R2 p2 fun E3 k3 v3 u3 H3 Hm3 F3 fp3 p3 R3 s3 T3=>?_
  obtain ⟨k,rfl,p3⟩:=p3;cases T3.own.int;obtain ⟨b',e1,q'⟩:=q _ _ _ _ _ _ p3 R3 (s1.trans (s2.trans s3));cases e1;exact ⟨j,k,rfl,rfl,_,rfl,q'⟩
 ·rw [if_neg z] at p2 ⊢;obtain ⟨b',e1,q'⟩:=q _ _ _ _ _ _ p2 R2 (s1.trans s2);cases e1;exact ⟨_,rfl,q'⟩
def Av {c a b:Expr}{pos:Pos}{t:DT}{d e:DE}(hc:ST X Ex π c t)(ha:SE X Ex π a d)(hb:SE X Ex π b e):SE X Ex π (.IfExp c a b pos) (CU t d e):=by
 intro g x E σ H Hm F P Q hx R p q;refine WE.of (DJ jm bE bE) (hc g x E σ H Hm F _ _ hx R p fun E1 b H1 Hm1 F1 p1 R1 s1=>?_)
 cases b with
 | true=>exact rZ (ha g x E1 σ H1 Hm1 F1 P Q hx R1 (by simpa using p1) fun E' k v u H' Hm' F' fp p' R' s' T'=>q _ _ _ _ _ _ _ _ p' R' (s1.trans s') T')
 | false=>exact rW (hb g x E1 σ H1 Hm1 F1 P Q hx R1 (by simpa using p1) fun E' k v u H' Hm' F' fp p' R' s' T'=>q _ _ _ _ _ _ _ _ p' R' (s1.trans s') T')
def Nu {e:Expr}{i j:Nat}(h:PE X e (gh j))(hj:π[j]?=some i)(he:∀ whole,isTrue e X.env whole=(do let v <- whole;standAt e.pos;holding [v] (truthy v))):ST X Ex π e (xC i):=by
 intro g x E σ H Hm F P Q hx R p q;obtain ⟨k,d,b,e1,hk,ht,p⟩:=p;obtain ⟨v,h1,h2⟩:=R.slot i k d e1;exact WT.of (wj h he) ⟨v,cI hj h1,b,h2.jT R.sub ht,q _ _ _ _ _ p R (af.refl _)⟩
def xJ {a:Expr}{pos:Pos}{t:DT}(ha:ST X Ex π a t):ST X Ex π (.UnaryOp .Not a pos) (v7 t):=by
 intro g x E σ H Hm F P Q hx R p q;exact WT.of (Dc jm) (ha g x E σ H Hm F _ _ hx R p fun E1 b H1 Hm1 F1 p1 R1 s1=>q _ _ _ _ _ p1 R1 s1)
end
def noStar:Expr->Bool
 | .Starred ..=>false
 | _=>true
def aS {e:Expr}{es:List Expr}{env:Env}(h:noStar e=true):starEach (e::es) env=(false,eval e env)::starEach es env:=by
 cases e <;> first | rfl | cases h
theorem fX {pos:Pos}{env:Env}:∀ {es:List Expr},es.all noStar=true->(backTo pos (starEach es env)).any (·.1)=false
 | [],_=>rfl
 | e::es,h=>by
  rw [OH,OA] at h;rw [aS h.1];show (false || (backTo pos (starEach es env)).any (·.1))=false;rw [fX h.2];rfl
section
variable {X:Cx}{Ex:XK}{π:List Nat}
theorem dF:∀ {es:List Expr},es.all noStar=true->PA X es (qT X es)
 | [],_=>eS
 | e::es,h=>by
  rw [OH,OA] at h;exact cJ bE (dF h.2) (aS h.1)
def ic {x:Str}{id:String}{p pos:Pos}{e:Expr}{es:List Expr}{as:List Arg}{f:DR}{r:List V->Hp->VK->Prop}(hc:cj X (.builtin id) r)(D:cM X.K f r)(hg:Gl X x)(hm:X.mg x=none)(hv:bootBuiltins x=some (.builtin id))(hn:x≠"__name__")(hd:(x == ("__debug__":Str))=false)
  (ns:(e::es).all noStar=true)(S:aL X Ex π (e::es) as):SE X Ex π (.Call (.Name x p) (e::es) [] pos) (aa f as) :=
 eL S (fun σ H Q h=>WE.of (mF hc hg hm hv (dF ns) hn hd (aS (by rw [OH,OA] at ns;exact ns.1)) (fX (by rw [OH,OA] at ns;exact ns.2))) h) D
def nH {x:Str}{T:String}{p pos:Pos}{e:Expr}{es:List Expr}{as:List Arg}{f:DR}{r:List V->Hp->VK->Prop}(hc:cj X (.type T) r)(D:cM X.K f r)(hg:Gl X x)(hm:X.mg x=none)(hv:bootBuiltins x=some (.type T))(hn:x≠"__name__")(hd:(x == ("__debug__":Str))=false)
  (ns:(e::es).all noStar=true)(S:aL X Ex π (e::es) as):SE X Ex π (.Call (.Name x p) (e::es) [] pos) (aa f as) :=
 eL S (fun σ H Q h=>WE.of (iN hc hg hm hv (dF ns) hn hd (aS (by rw [OH,OA] at ns;exact ns.1)) (fX (by rw [OH,OA] at ns;exact ns.2))) h) D
def dm:DR:=fun ds P=>ds.length<=sizeLine/\P (.ow false) (.list ds)
def kR:DR:=fun ds P=>ds.length<=sizeLine/\P .sh (.tuple ds)
def Ij {K:Frag}:cM K dm fun xs H Q=>xs.length<=sizeLine/\∀ p,H p=none->Q (.ref p) (upd H p (.lst xs)):=fun H Hm vs ds P Q s r h q=>⟨by rw [r.len];exact h.1,fun p hp=>bu.nl q s h.2 hp r⟩
def Io {K:Frag}:cM K kR fun xs H Q=>xs.length<=sizeLine/\∀ p,H p=none->Q (.ref p) (upd H p (.tup xs)):=fun H Hm vs ds P Q s r h q=>⟨by rw [r.len];exact h.1,fun p hp=>bu.nt q s h.2 hp r⟩
def La {es:List Expr}{as:List Arg}{pos:Pos}(ns:es.all noStar=true)(S:aL X Ex π es as):SE X Ex π (.List es pos) (aa dm as):=eL S (fun σ H Q h=>WE.of (Br (dF ns)) h) Ij
def Jo {es:List Expr}{as:List Arg}{pos:Pos}{k:Nat}(ns:es.all noStar=true)(S:aL X Ex π es as):SE X Ex π (.Tuple es k pos) (aa kR as):=eL S (fun σ H Q h=>WE.of (CK (dF ns)) h) Io
def EB:DR:=fun ds P=>match ds with
 | [.list xs]=>P .sh (.int xs.length)
 | [.tuple xs]=>P .sh (.int xs.length)
 | _=>False
def Hl {K:Frag}:cM K EB fun xs H Q=>∃ p ys,xs=[.ref p]/\(bI K H p ys\/bW K H p ys)/\Q (.int ys.length) H:=by
 intro H Hm vs ds P Q s r h q;unfold EB at h;split at h
 ·obtain ⟨x,rfl,h1⟩:=c7 r;cases h1 with
  | lst a r1=>exact ⟨_,_,rfl,.inl (b9.mono s a).sq,by rw [r1.len];exact bu.sc q s h (.int _)⟩
 ·obtain ⟨x,rfl,h1⟩:=c7 r;cases h1 with
  | tup a r1=>exact ⟨_,_,rfl,.inr (bW.of (s _ _ a)),by rw [r1.len];exact bu.sc q s h (.int _)⟩
 ·exact h.elim
def gX:DR:=fun ds P=>match ds with
 | [.list xs]=>P (.ow false) (.list xs)
 | [.tuple xs]=>P (.ow false) (.list xs)
 | _=>False
def Dy {K:Frag}:cM K gX fun xs H Q=>∃ p ys,xs=[.ref p]/\(bI K H p ys\/bW K H p ys)/\∀ l,H l=none->Q (.ref l) (upd H l (.lst ys)):=by
 intro H Hm vs ds P Q s r h q;unfold gX at h;split at h
 ·obtain ⟨x,rfl,h1⟩:=c7 r;cases h1 with
  | lst a r1=>exact ⟨_,_,rfl,.inl (b9.mono s a).sq,fun p hp=>bu.nl q s h hp r1⟩
 ·obtain ⟨x,rfl,h1⟩:=c7 r;cases h1 with
  | tup a r1=>exact ⟨_,_,rfl,.inr (bW.of (s _ _ a)),fun p hp=>bu.nl q s h hp r1⟩
 ·exact h.elim
def iS:DR:=fun ds P=>match ds with
 | [.list xs]=>P .sh (.tuple xs)
 | [.tuple xs]=>P .sh (.tuple xs)
 | _=>False
def Dk {K:Frag}:cM K iS fun xs H Q=>∃ p ys,xs=[.ref p]/\((bI K H p ys/\∀ l,H l=none->Q (.ref l) (upd H l (.tup ys)))\/(bW K H p ys/\Q (.ref p) H)):=by
 intro H Hm vs ds P Q s r h q;unfold iS at h;split at h
 ·obtain ⟨x,rfl,h1⟩:=c7 r;cases h1 with
  | lst a r1=>exact ⟨_,_,rfl,.inl ⟨(b9.mono s a).sq,fun p hp=>bu.nt q s h hp r1⟩⟩
 ·obtain ⟨x,rfl,h1⟩:=c7 r;cases h1 with
  | tup a r1=>exact ⟨_,_,rfl,.inr ⟨bW.of (s _ _ a),bu.sc q s h (.tup a r1)⟩⟩
 ·exact h.elim
def oq:DR:=lZ fun i j=>.int (if j < i then j else i)
def qB:DR:=lZ fun i j=>.int (if j > i then j else i)
def FU {K:Frag}{f:Int->Int->Int}:cM K (lZ fun i j=>.int (f i j)) fun xs H Q=>∃ i j,xs=[.int i,.int j]/\Q (.int (f i j)) H:=by
 intro H Hm vs ds P Q s r h q;refine rV h fun a b e p=>?_
 subst e;obtain ⟨x,y,rfl,h1,h2⟩:=cP r;cases h1;cases h2;exact ⟨a,b,rfl,bu.sc q s p (.int _)⟩
def uM:DR:=fun ds P=>match ds with
 | [.int i]=>P .sh (.int (if i < 0 then -i else i))
 | _=>False
def IE {K:Frag}:cM K uM fun xs H Q=>∃ i,xs=[.int i]/\Q (.int (if i < 0 then -i else i)) H:=by
 intro H Hm vs ds P Q s r h q;unfold uM at h;split at h
 ·obtain ⟨x,rfl,h1⟩:=c7 r;cases h1;exact ⟨_,rfl,bu.sc q s h (.int _)⟩
 ·exact h.elim
def k8:DR:=fun ds P=>match ds with
 | [.int i]=>P .sh (.int i)
 | [.bool k]=>P .sh (.int (if k then 1 else 0))
 | _=>False
def Bp {K:Frag}:cM K k8 fun xs H Q=>(∃ i,xs=[.int i]/\Q (.int i) H)\/∃ k,xs=[.bl k]/\Q (.int (if k then 1 else 0)) H:=by
 intro H Hm vs ds P Q s r h q;unfold k8 at h;split at h
 ·obtain ⟨x,rfl,h1⟩:=c7 r;cases h1;exact .inl ⟨_,rfl,bu.sc q s h (.int _)⟩
 ·obtain ⟨x,rfl,h1⟩:=c7 r;cases h1;exact .inr ⟨_,rfl,bu.sc q s h (.int _)⟩
 ·exact h.elim
theorem pY {K:Frag}{H:Hp}:∀ {vs:List V}{ns:List Int},au K H vs (ns.map PyData.int)->vs=ns.map V.int
 | _,[],h=>by cases h;rfl
 | _,n::ns,h=>by
  cases h with
  | cons h t=>cases h;rw [pY t];rfl
theorem mj {K:Frag}{H:Hp}:∀ (ns:List Int),au K H (ns.map V.int) (ns.map PyData.int)
 | []=>.nil
 | n::ns=>.cons (.int n) (mj ns)
def ie {K:Frag}{H:Hp}{x:V}{ds:List PyData}(h:Rp K H x (.list ds)):∃ a xs,x=.ref a/\b9 K H a xs/\au K H xs ds:=by
 cases h with
 | lst a r=>exact ⟨_,_,rfl,a,r⟩
def nJ:DR:=fun ds P=>∃ ns:List Int,ds=[.list (ns.map .int)]/\ns.length < 64/\∀ ms:List Int,ms.Perm ns->ms.Pairwise (·<=·)->P (.ow false) (.list (ms.map .int))
def Bj {K:Frag}:cM K nJ fun xs H Q=>∃ (a:Addr)(ns:List Int),xs=[.ref a]/\bI K H a (ns.map V.int)/\ns.length < 64/\∀ (ms:List Int)(p:Addr),ms.Perm ns->ms.Pairwise (·<=·)->H p=none->Q (.ref p) (upd H p (.lst (ms.map V.int))):=by
 rintro H Hm vs ds P Q s r ⟨ns,rfl,hn,h⟩ q;obtain ⟨x,rfl,h1⟩:=c7 r;obtain ⟨a,xs,rfl,ha,r1⟩:=ie h1;cases pY r1;exact ⟨a,ns,rfl,(b9.mono s ha).sq,hn,fun ms p m1 m2 hp=>bu.nl q s (h ms m1 m2) hp (mj ms)⟩
def pD (p:Int×Int):PyData:=.tuple [.int p.1,.int p.2]
inductive yZ (vs:List V)(H:Hp)(Q:VK):Prop
 | mk:∀ j:Int,(vs=[.int j])->(∀ p,H p=none->0<=j/\j<=1000/\∀ l,upd H p (.oO 0 j) l=none->Q (.ref l) (upd (upd H p (.oO 0 j)) l (.lst (((List.range j.toNat).map fun i:Nat=>(i:Int)).map V.int))))->yZ vs H Q
def C7:List V->Hp->VK->Prop:=fun vs H Q=>yZ vs H Q
def iQ:DR:=fun ds P=>match ds with
 | [.int j]=>(0<=j/\j<=1000)/\P (.ow false) (.list (ji 0 j.toNat))
 | _=>False
def Hz {K:Frag}{H:Hp} (n:Nat):au K H (((List.range n).map fun i:Nat=>(i:Int)).map V.int) (ji 0 n):=by
 have:=mj (K:=K) (H:=H) ((List.range n).map fun i:Nat=>(i:Int))
 rw [List.map_map (l:=List.range n) (g:=PyData.int)] at this;unfold ji;rw [show (fun i:Nat=>PyData.int (0 + i))=PyData.int ∘ fun i:Nat=>(i:Int) from funext fun i=>by simp]
 exact this
def BW {K:Frag}:cM K iQ C7:=by
 intro H Hm vs ds P Q s r h q;unfold iQ at h;split at h
 ·obtain ⟨x,rfl,h1⟩:=c7 r;cases h1;rename_i j;refine ⟨j,rfl,fun p hp=>⟨h.1.1,h.1.2,fun l hl=>?_⟩⟩
  have s1:=bA (o:=.oO 0 j) hp;have s2:=bA (o:=.lst (((List.range j.toNat).map fun i:Nat=>(i:Int)).map V.int)) hl
  refine q _ _ _ _ Hm [l] h.2 (s1.trans s2) (af.refl _) (s.trans (s1.trans s2)) (fun _ _=>.inl rfl) (.ow aq (Hz _)) fun a ha=>?_
  rw [O8.mp ha];have:H l=none:=s1.free hl;exact ⟨this,iK s this⟩
 ·exact h.elim
def D8 {p1 p2 pos pos2:Pos}{a:Expr}{as:List Arg}(hc:X.calm=true)(g1:Gl X "list")(m1:X.mg "list"=none)(g2:Gl X "range")(m2:X.mg "range"=none)(ns:noStar a=true)(S:aL X Ex π [a] as) :
  SE X Ex π (.Call (.Name "list" p1) [.Call (.Name "range" p2) [a] [] pos2] [] pos) (aa iQ as) :=
 eL (r:=C7) S (fun σ H Q h=>WE.of (iN (Aq hc) g1 m1 PyProof.Rows.boot_list (cJ (iN xX g2 m2 PyProof.Rows.boot_range (dF (es:=[a]) (by rw [OH,ns];rfl)) (by decide) (by decide) (aS ns) (by rfl)) eS)) (by
  refine fun pins s I=>aF (h pins s I) fun v s1 ⟨x,H1,I1,r1,j,e,q⟩=>⟨x,H1,I1,r1,?_⟩
  cases e;refine ⟨j,rfl,fun p hp=>?_⟩
  obtain ⟨q1,q2,q3⟩:=q p hp;exact ⟨p,j,rfl,aq,q1,q2,q3⟩)) BW
end
inductive Ag (K:Frag)(H Hm:Hp):List Bool->List V->List PyData->List Addr->Prop
 | nil:Ag K H Hm [] [] [] []
 | sh {ms:List Bool}{vs:List V}{ds:List PyData}{as:List Addr}{v:V}{d:PyData}:Rp K Hm v d->Ag K H Hm ms vs ds as->Ag K H Hm (false::ms) (v::vs) (d::ds) as
 | mu {ms:List Bool}{vs:List V}{ds:List PyData}{as:List Addr}{a:Addr}{xs:List V}{es:List PyData}:H a=some (.lst xs)->au K Hm xs es->Hm a=none->a∉as->Ag K H Hm ms vs ds as->Ag K H Hm (true::ms) (.ref a::vs) (.list es::ds) (a::as)
inductive Bk (K:Frag)(H Hm:Hp):List Addr->List PyData->Prop
 | nil:Bk K H Hm [] []
 | cons {a:Addr}{xs:List V}{es:List PyData}{as:List Addr}{us:List PyData}:H a=some (.lst xs)->au K Hm xs es->Hm a=none->Bk K H Hm as us->Bk K H Hm (a::as) (.list es::us)
def aN (mg:Str->Option Value)(K:Frag)(ms:List Bool)(sp:bC):Sp:=fun vs H Q Ex=>∃ (ds:List PyData)(as:List Addr)(Hm:Hp)(P:List PyData->Kd->PyData->Prop)(x:XC),af Hm H/\Ag K H Hm ms vs ds as/\sp ds P x /\
 (∀ us k r u H' Hm' fp,P us k r->af Hm Hm'->af Hm' H'->(∀ p o,p∉as->H p=some o->H' p=some o)->(∀ a,a∉as->H a≠none->OE (Hm' a) (Hm a))->Bk K H' Hm' as us->Own K H' Hm' k u r fp->(∀ a∈fp,H a=none/\Hm' a=none)->Q u H') /\
 (∀ c d C a H',mg c=some (.ref C)->x c d->(∀ p o,p∉as->H p=some o->H' p=some o)->H' a=some (.ext (mS a C none))->H a=none->Ex (.ref C) (some a) H')
section
variable {K:Frag}{g:Gh}{σ:St}
theorem ug {E:En}{H Hm Hm1:Hp}{F:Nat->List Addr}(R:Rl K g E σ H Hm F)(s:af Hm Hm1):∀ {ms:List Bool}{as:List Arg}{os:List (Option PyData)}{vs:List V}{ds:List PyData},Got K σ Hm as os vs->fill as E os=some ds->shape ms as=true->(lent ms as).Nodup ->
  (∀ i∈lent ms as,∃ p es,E[i]?=some (some (.ow p,.list es)))->(∀ i∈kept ms as,∀ a∈F i,Hm1 a=H a)->(∀ i∈lent ms as,∀ a∈F i,Hm1 a=none) ->
  ∃ ix:List (Nat×Addr),ix.map (·.1)=lent ms as/\Ag K H Hm1 ms vs ds (ix.map (·.2))/\∀ q∈ix,σ[q.1]?=some (some (.ref q.2))/\F q.1=[q.2]
 | [],_,_,_,_,.nil,h,_,_,_,_,_=>by cases h;exact ⟨[],rfl,.nil,fun _ z=>by cases z⟩
 | false::ms,_,_,_,_,.pk (i:=i) (as:=as) (os:=os) hv G,h,sh,nd,hl,hk,hn=>by
  rw [fill] at h;split at h
  ·rename_i k d e
   by_cases hr:k.rd=true
   ·rw [if_pos hr] at h;cases hf:fill as E os with
    | none=>rw [hf] at h;cases h
    | some es =>
     rw [hf] at h;cases h;obtain ⟨v',h1,h2⟩:=R.slot i k d e;rw [hv] at h1;cases h1;obtain ⟨ix,e1,e2,e3⟩:=ug R s (ms:=ms) G hf sh nd hl (fun j hj=>hk j (O6 _ hj)) hn
     exact ⟨ix,e1,.sh (h2.rp hr s (hk i N9)) e2,e3⟩
   ·rw [if_neg hr] at h;cases h
  ·cases h
 | true::ms,_,_,_,_,.pk (i:=i) (as:=as) (os:=os) hv G,h,sh,nd,hl,hk,hn=>by
  rw [fill] at h;obtain ⟨p,es0,e0⟩:=hl i N9;rw [e0] at h;have h:(if (Kd.ow p).rd=true then (fill as E os).map (PyData.list es0::·) else none)=some _:=h
  rw [if_pos (show (Kd.ow p).rd=true from rfl)] at h
  cases hf:fill as E os with
  | none=>rw [hf] at h;cases h
  | some es =>
   rw [hf] at h;cases h;obtain ⟨v',h1,h2⟩:=R.slot i _ _ e0;rw [hv] at h1;cases h1;have nd':=List.nodup_cons.mp (show (i::lent ms as).Nodup from nd)
   obtain ⟨ix,e1,e2,e3⟩:=ug R s (ms:=ms) G hf sh nd'.2 (fun j hj=>hl j (O6 _ hj)) hk (fun j hj=>hn j (O6 _ hj))
   have hFi:=hn i N9;generalize hF:F i=fi at h2 hFi;cases h2 with
   | @ow _ a xs _ ha hr =>
    refine ⟨(i,a)::ix,?_,.mu ha (hr.mono s) (hFi a N9) ?_ e2,?_⟩
    ·show i::ix.map (·.1)=i::lent ms as;rw [e1]
    ·intro m;obtain ⟨q,hq,rfl⟩:=OI.mp m;have:=R.aD i q.1 q.2 (by rw [hF];exact N9) (by rw [(e3 q hq).2];exact N9)
     exact nd'.1 (e1 ▸ (this ▸ OI.mpr ⟨q,hq,rfl⟩))
    ·intro q hq;rcases O9.mp hq with rfl | hq
     ·exact ⟨hv,hF⟩
     ·exact e3 q hq
 | false::ms,_,_,_,_,.ev (as:=as) (os:=os) r G,h,sh,nd,hl,hk,hn=>by
  rw [fill] at h;cases hf:fill as E os with
  | none=>rw [hf] at h;cases h
  | some es =>
   rw [hf] at h;cases h;obtain ⟨ix,e1,e2,e3⟩:=ug R s (ms:=ms) G hf sh nd hl hk hn;exact ⟨ix,e1,.sh (r.mono s) e2,e3⟩
 | true::ms,_,_,_,_,.ev _ _,_,sh,_,_,_,_=>by cases sh
 | true::_,[],[],[],_,.nil,_,sh,_,_,_,_=>by cases sh
 | false::_,[],[],[],_,.nil,_,sh,_,_,_,_=>by cases sh
 | [],_,_,_,_,.pk _ _,_,sh,_,_,_,_=>by cases sh
 | [],_,_,_,_,.ev _ _,_,sh,_,_,_,_=>by cases sh
theorem mz:∀ {ms:List Bool}{as:List Arg}{us:List PyData}{E E2:En},gg ms as us E=some E2->(lent ms as).Nodup->E2.length=E.length/\(∀ j,j∉lent ms as->E2[j]?=E[j]?)/\(lent ms as).length=us.length /\
  ∀ (n i:Nat)(u:PyData),(lent ms as)[n]?=some i->us[n]?=some u->∃ p es es',u=.list es'/\E[i]?=some (some (.ow p,.list es))/\E2[i]?=some (some (.ow p,.list es'))
 | [],[],[],E,E2,h,_=>by cases h;exact ⟨rfl,fun _ _=>rfl,rfl,fun _ _ _ z=>by cases z⟩
 | [],[],_::_,E,E2,h,_=>by cases h
 | [],_::_,_,E,E2,h,_=>by cases h
 | false::ms,.pk j::r,us,E,E2,h,nd=>mz (ms:=ms) (as:=r) (us:=us) h nd
 | false::ms,.ev _::r,us,E,E2,h,nd=>mz (ms:=ms) (as:=r) (us:=us) h nd
 | false::ms,[],us,E,E2,h,_=>by cases h
 | true::ms,[],us,E,E2,h,_=>by cases h
 | true::ms,.ev _::r,us,E,E2,h,_=>by cases h
 | true::ms,.pk i::r,[],E,E2,h,_=>by cases h
 | true::ms,.pk i::r,u::us,E,E2,h,nd=>by
  rw [gg] at h;obtain ⟨n1,n2⟩:=List.nodup_cons.mp (show (i::lent ms r).Nodup from nd)
  split at h
  ·rename_i p es e
   by_cases hu:Bq u=true
   ·rw [if_pos hu] at h;cases u with
    | list es' =>
     have li:i < E.length:=by
      rcases Nat.lt_or_ge i E.length with h | h
      ·exact h
      ·rw [List.getElem?_eq_none h] at e;cases e
     obtain ⟨l1,g1,l2,g2⟩:=mz (ms:=ms) (as:=r) (us:=us) h n2;rw [List.length_set] at l1;refine ⟨l1,fun j hj=>?_,congrArg (· + 1) l2,fun n j v h1 h2=>?_⟩
     ·have hj':j∉lent ms r:=fun z=>hj (O6 _ z)
      have hne:i≠j:=fun z=>hj (z ▸ N9)
      rw [g1 j hj',aj hne]
     ·cases n with
      | zero =>
       cases h1;cases h2;exact ⟨p,es,es',rfl,e,by rw [g1 i n1,ay li]⟩
      | succ n =>
       have h1:(lent ms r)[n]?=some j:=h1;have h2:us[n]?=some v:=h2;obtain ⟨p',fs,fs',e1,e2,e3⟩:=g2 n j v h1 h2;have hne:i≠j:=fun z=>n1 (z ▸ OO h1)
       rw [aj hne] at e2;exact ⟨p',fs,fs',e1,e2,e3⟩
    | _=>cases hu
   ·rw [if_neg hu] at h;cases h
  ·cases h
theorem Bk.get {H Hm:Hp}:∀ {as:List Addr}{us:List PyData}{n:Nat}{a:Addr},Bk K H Hm as us->as[n]?=some a->∃ xs es,us[n]?=some (.list es)/\H a=some (.lst xs)/\au K Hm xs es/\Hm a=none
 | _,_,_,_,.nil,h=>by simp at h
 | _,_,0,_,.cons h1 h2 h3 _,h=>by simp at h;subst h;exact ⟨_,_,rfl,h1,h2,h3⟩
 | _,_,n + 1,_,.cons _ _ _ t,h=>t.get (n:=n) (by simpa using h)
def AN {E E2 E3:En}{H H' Hm Hm2:Hp}{F:Nat->List Addr}{is:List Nat}{ix:List (Nat×Addr)}{us:List PyData}{k:Kd}{u:V}{v:PyData}{fp:List Addr}(R:Rl K g E σ H Hm F)
  (hix:∀ q∈ix,σ[q.1]?=some (some (.ref q.2))/\F q.1=[q.2])(hik:∀ q∈ix,q.1∉is)(l2:E2.length=E.length)(hs:∀ j,j∉ix.map (·.1)->E2[j]?=E[j]?)
  (hu:∀ q∈ix,∃ p es xs' es',PyData.list es'∈us/\E[q.1]?=some (some (.ow p,.list es))/\E2[q.1]?=some (some (.ow p,.list es'))/\H' q.2=some (.lst xs')/\au K Hm2 xs' es'/\Hm2 q.2=none)
  (hE:(if (flat k v && us.all (flat (.ow false)))=true then some E2 else cG is E2)=some E3)(s1:af (lend Hm H (is.flatMap F)) Hm2)(s2:af Hm2 H')(sH:∀ p o,p∉ix.map (·.2)->H p=some o->H' p=some o)
  (old:∀ a,a∉ix.map (·.2)->H a≠none->OE (Hm2 a) (lend Hm H (is.flatMap F) a))(o:Own K H' Hm2 k u v fp)(fr:∀ a∈fp,H a=none/\Hm2 a=none) :
  ∃ Hm' F',Rl K g E3 σ H' Hm' F'/\af Hm Hm'/\Tm K g F' H' Hm' k u v fp:=by
 have mem:∀ {a i},a∈F i->i∈is->a∈is.flatMap F:=fun ha hi=>List.mem_flatMap.mpr ⟨_,hi,ha⟩
 have off:∀ a∈is.flatMap F,Hm a=none:=fun a ha=>by
  obtain ⟨i,_,h⟩:=List.mem_flatMap.mp ha;exact R.off i a h
 have up:af Hm (lend Hm H (is.flatMap F)):=gi off;have bx:∀ {i a},a∈F i->H a≠none:=fun ha z=>by
  obtain ⟨u,hu,_⟩:=R.bx _ _ ha;rw [z] at hu;cases hu
 have own:∀ q∈ix,q.2∈F q.1:=fun q hq=>by rw [(hix q hq).2];exact N9
 have lentF:∀ {i a},a∈F i->a∈ix.map (·.2)->i∈ix.map (·.1):=fun {i a} ha m=>by
  obtain ⟨q,hq,rfl⟩:=OI.mp m;exact OI.mpr ⟨q,hq,(R.aD i q.1 q.2 ha (own q hq)).symm⟩
 have lis:∀ a,a∈ix.map (·.2)->a∉is.flatMap F:=fun a m z=>by
  obtain ⟨q,hq,rfl⟩:=OI.mp m;obtain ⟨i,hi,h⟩:=List.mem_flatMap.mp z;exact hik q hq (R.aD i q.1 q.2 h (own q hq) ▸ hi)
 have nfp:∀ a∈fp,∀ i,a∉F i:=fun a ha i=>R.fresh (fr a ha).1
 have m2:∀ {a},H a≠none->a∉is.flatMap F->(a∉ix.map (·.2)/\OE (Hm2 a) (Hm a))\/(a∈ix.map (·.2)/\Hm2 a=none):=fun {a} h c=>by
  by_cases z:a∈ix.map (·.2)
  ·obtain ⟨q,hq,rfl⟩:=OI.mp z;obtain ⟨_,_,_,_,_,_,_,_,_,e⟩:=hu q hq;exact .inr ⟨z,e⟩
  ·refine .inl ⟨z,?_⟩;have h':=old a z h;rw [cz c] at h';exact h'
 have offI:∀ {i a},a∈F i->a∉is.flatMap F->Hm2 a=none:=fun {i a} ha c=>by
  rcases m2 (bx ha) c with ⟨z,e⟩ | ⟨_,e⟩
  ·obtain ⟨w,hw,nt⟩:=R.bx i a ha;exact e.off (R.off i a ha) s2 (sH a w z hw) nt
  ·exact e
 have od:∀ {a},g.H0 a≠none->a∉is.flatMap F->OE (Hm2 a) (g.cY a):=fun {a} h c=>by
  rcases m2 (R.qW h) c with ⟨_,e⟩ | ⟨z,e⟩
  ·exact e.trans (R.old a h)
  ·obtain ⟨q,hq,rfl⟩:=OI.mp z;have h':=R.old _ h;rw [R.off q.1 q.2 (own q hq)] at h';rw [e];exact h'
 have hliv:∀ {i a},a∈F i->∃ w,H' a=some w/\oX w:=fun {i a} ha=>by
  by_cases z:a∈ix.map (·.2)
  ·obtain ⟨q,hq,rfl⟩:=OI.mp z;obtain ⟨_,_,_,_,_,_,_,e,_,_⟩:=hu q hq;exact ⟨_,e,jY⟩
  ·obtain ⟨w,hw,nt⟩:=R.bx i a ha;exact ⟨w,sH a w z hw,nt⟩
 have keepH:∀ {j a},j∉ix.map (·.1)->a∈F j->H' a=H a:=fun {j a} hj ha=>by
  obtain ⟨w,hw,_⟩:=R.bx j a ha;rw [hw];exact sH a w (fun z=>hj (lentF ha z)) hw
 have frm:∀ p o,p∉g.M->g.H0 p=some o->H' p=some o:=fun p o hp ho=>by
  refine sH p o (fun z=>?_) (R.fr p o hp ho)
  obtain ⟨q,hq,rfl⟩:=OI.mp z;rcases R.new q.1 q.2 (own q hq) with y | y
  ·exact hp y
  ·rw [y] at ho;cases ho
 have pinn:∀ {E4:En},(∀ j,j∉is->E4[j]?=E2[j]?)->(∀ j∈is,E4[j]?=E2[j]?\/∃ k d,E2[j]?=some (some (k,d))/\k.fz=true)->∀ q∈g.pins,σ[q.1]?=some (some (.ref q.2))/\∃ ds,E4[q.1]?=some (some (.ow true,.list ds)):=fun {E4} h4 h5 q hq=>by
  obtain ⟨h1,ds',h2⟩:=R.pin q hq;refine ⟨h1,?_⟩;have e2:∃ ds,E2[q.1]?=some (some (.ow true,.list ds)):=by
   by_cases z:q.1∈ix.map (·.1)
   ·obtain ⟨q',hq',e⟩:=OI.mp z;obtain ⟨p,es,xs',es',_,g1,g2,_⟩:=hu q' hq';rw [e,h2] at g1;cases g1;exact ⟨es',e ▸ g2⟩
   ·exact ⟨ds',by rw [hs _ z];exact h2⟩
  obtain ⟨ds,e2⟩:=e2
  by_cases z:q.1∈is
  ·rcases h5 _ z with y | ⟨k0,d0,y,yk⟩
   ·exact ⟨ds,y.trans e2⟩
   ·rw [e2] at y;cases y;cases yk
  ·exact ⟨ds,(h4 _ z).trans e2⟩
 by_cases hf:(flat k v && us.all (flat (.ow false)))=true
 ·rw [if_pos hf] at hE;cases hE;rw [OA,OC] at hf;have st:kj Hm2 (back Hm2 (is.flatMap F)):=fun a xs h=>by
   have c:a∉is.flatMap F:=fun z=>by
    obtain ⟨i,_,hi⟩:=List.mem_flatMap.mp z;obtain ⟨w,hw,nt⟩:=R.bx i a hi;have e2:Hm2 a=some w:=s1 _ _ (by rw [dD z];exact hw)
    rw [e2] at h;cases h;exact nt xs rfl
   rw [cQ c];exact h
  have upB:af Hm (back Hm2 (is.flatMap F)):=fun b o e=>by
   rw [cQ fun z=>by rw [off b z] at e;cases e]
   exact s1 _ _ (up _ _ e)
  have R':Rl K g E2 σ H' (back Hm2 (is.flatMap F)) F:={
   len:=l2.trans R.len
   sub:=uy s2
   slot:=fun j k' d' e'=>by
    by_cases z:j∈ix.map (·.1)
    ·obtain ⟨q,hq,rfl⟩:=OI.mp z;obtain ⟨p,es,xs',es',mu,g1,g2,g3,g4,_⟩:=hu q hq;rw [g2] at e';cases e';obtain ⟨h1,h2⟩:=hix q hq;exact ⟨_,h1,by rw [h2];exact .ow g3 (g4.uE st (hf.2 _ mu))⟩
    ·rw [hs j z] at e';obtain ⟨v',h1,h2⟩:=R.slot j k' d' e';exact ⟨v',h1,h2.step upB fun a ha=>keepH z ha⟩
   off:=fun i a ha=>by
    by_cases c:a∈is.flatMap F
    ·exact iy c
    ·rw [cQ c];exact offI ha c
   bx:=fun i a ha=>hliv ha
   aD:=R.aD
   fr:=frm
   new:=R.new
   pin:=pinn (fun j _=>rfl) fun j _=>.inl rfl
   old:=fun a ha=>by
    by_cases c:a∈is.flatMap F
    ·have h':=R.old a ha;rw [off a c] at h';rw [iy c];exact h'
    ·rw [cQ c];exact od ha c }
  refine ⟨_,F,R',upB,⟨o.flat st hf.1,fun a ha=>?_,nfp,fun a ha=>R.dW (fr a ha).1⟩⟩
  by_cases c:a∈is.flatMap F
  ·exact iy c
  ·rw [cQ c];exact (fr a ha).2
 ·rw [if_neg hf] at hE;obtain ⟨l3,g3⟩:=lU hE;have R':Rl K g E3 σ H' Hm2 (fun j=>if j∈is then [] else F j):={
   len:=l3.trans (l2.trans R.len)
   sub:=s2
   slot:=fun j k' d' e'=>by
    by_cases c:j∈is
    ·obtain ⟨k0,d0,e0,hk0,e1⟩:=(g3 j).2 c;rw [e1] at e';cases e';have z:j∉ix.map (·.1):=fun z=>by
      obtain ⟨q,hq,rfl⟩:=OI.mp z;exact hik q hq c
     rw [hs j z] at e0;obtain ⟨v',h1,h2⟩:=R.slot j k0 _ e0;refine ⟨v',h1,?_⟩;rw [if_pos c];exact .sh ((h2.rp (by cases k0 <;> first | rfl | cases hk0) up fun a ha=>dD (mem ha c)).mono s1)
    ·rw [(g3 j).1 c] at e';rw [if_neg c]
     by_cases z:j∈ix.map (·.1)
     ·obtain ⟨q,hq,rfl⟩:=OI.mp z;obtain ⟨p,es,xs',es',mu,g1,g2,g4,g5,_⟩:=hu q hq;rw [g2] at e';cases e';obtain ⟨h1,h2⟩:=hix q hq;exact ⟨_,h1,by rw [h2];exact .ow g4 g5⟩
     ·rw [hs j z] at e';obtain ⟨v',h1,h2⟩:=R.slot j k' d' e';exact ⟨v',h1,h2.step (up.trans s1) fun a ha=>keepH z ha⟩
   off:=fun j a ha=>by
    by_cases c:j∈is
    ·rw [if_pos c] at ha;cases ha
    ·rw [if_neg c] at ha;exact offI ha fun z=>by
      obtain ⟨i,hi,h⟩:=List.mem_flatMap.mp z;exact c (R.aD i j a h ha ▸ hi)
   bx:=fun j a ha=>by
    by_cases c:j∈is
    ·rw [if_pos c] at ha;cases ha
    ·rw [if_neg c] at ha;exact hliv ha
   aD:=fun j l a h1 h2=>by
    by_cases c:j∈is
    ·rw [if_pos c] at h1;cases h1
    ·rw [if_neg c] at h1
     by_cases c':l∈is
     ·rw [if_pos c'] at h2;cases h2
     ·rw [if_neg c'] at h2;exact R.aD j l a h1 h2
   fr:=frm
   new:=fun j a ha=>by
    by_cases c:j∈is
    ·rw [if_pos c] at ha;cases ha
    ·rw [if_neg c] at ha;exact R.new j a ha
   pin:=pinn (fun j hj=>(g3 j).1 hj) fun j hj=>by
    obtain ⟨k0,d0,e0,hk0,_⟩:=(g3 j).2 hj;exact .inr ⟨k0,d0,e0,hk0⟩
   old:=fun a ha=>by
    refine od ha fun z=>?_
    obtain ⟨i,hi,h⟩:=List.mem_flatMap.mp z;obtain ⟨k0,d0,e0,hk0,_⟩:=(g3 i).2 hi;have zi:i∉ix.map (·.1):=fun z=>by
     obtain ⟨q,hq,rfl⟩:=OI.mp z;exact hik q hq hi
    rw [hs i zi] at e0;exact ha (R.notM e0 (by cases k0 <;> first | rfl | (rename_i p;cases p <;> first | rfl | cases hk0) | cases hk0) h) }
  refine ⟨Hm2,_,R',up.trans s1,⟨o,fun a ha=>(fr a ha).2,fun a ha i=>?_,fun a ha=>R.dW (fr a ha).1⟩⟩
  by_cases c:i∈is
  ·rw [if_pos c];simp
  ·rw [if_neg c];exact nfp a ha i
end
section
variable {X:Cx}{Ex:XK}{π:List Nat}
def IC {x:Str}{k:Nat}{ps:List Str}{ms:List Bool}{sp:bC}{p pos:Pos}{e:Expr}{es:List Expr}{as:List Arg}(F:bZ X.prog X.w X.K X.mg X.base k x ps (aN X.mg X.K ms sp))(hp:Passes (bF X.prog X.w) X Ex)(hr:dJ k X.A)(hg:Gl X x)(hd:(x == ("__debug__":Str))=false)
  (ns:(e::es).all noStar=true)(S:aL X Ex π (e::es) as):SE X Ex π (.Call (.Name x p) (e::es) [] pos) (aH sp ms as):=by
 intro g xc E σ H Hm Fo P Q hx R h q;obtain ⟨f,fd,h1,h2,h3,h4⟩:=F;refine WE.of (Ik (E:=Ex) h4 hr hg h1 h2 h3 .nil hp (dF ns) hd (aS (by rw [OH,OA] at ns;exact ns.1)) (fX (by rw [OH,OA] at ns;exact ns.2))) ?_
 refine jL hx S R h fun E1 os vs H1 Hm1 F1 p R1 s1 G=>?_
 obtain ⟨ds,hf,hl,hsp⟩:=p;unfold nV at hl;rw [OA,OA,decide_eq_true_eq,OC] at hl;obtain ⟨⟨l1,l2⟩,l3⟩:=hl;have hlent:∀ i∈lent ms as,i∉kept ms as/\∃ p es,E1[i]?=some (some (.ow p,.list es)):=fun i hi=>by
  have:=l3 i hi;rw [OA] at this;refine ⟨fun z=>?_,?_⟩
  ·have y:=this.1;rw [Bool.not_eq_true',List.contains_eq_mem] at y;simp [z] at y
  ·have y:=this.2;split at y
   ·rename_i p es e;exact ⟨p,es,e⟩
   ·cases y
 have off:∀ a∈(kept ms as).flatMap F1,Hm1 a=none:=fun a ha=>by
  obtain ⟨i,_,h⟩:=List.mem_flatMap.mp ha;exact R1.off i a h
 have up:=gi (Hm:=Hm1) (H:=H1) off;obtain ⟨ix,e1,e2,e3⟩:=ug R1 up (ms:=ms) G hf l1 l2 (fun i hi=>(hlent i hi).2) (fun i hi a ha=>dD (List.mem_flatMap.mpr ⟨i,hi,ha⟩)) fun i hi a ha=>by
  rw [cz fun z=>by
   obtain ⟨j,hj,h⟩:=List.mem_flatMap.mp z;exact (hlent i hi).1 (R1.aD j i a h ha ▸ hj)]
  exact R1.off i a ha
 show aN X.mg X.K ms sp (vs++[]) H1 Q Ex;rw [List.append_nil];refine ⟨ds,ix.map (·.2),lend Hm1 H1 ((kept ms as).flatMap F1),_,xc,ir R1.sub,e2,hsp,fun us k r u H' Hm' fp p sM sS fr old bk o new=>?_,fun c d C a H' hC hxc fr ha hn=>?_⟩
 ·obtain ⟨E2,E3,hu,ha,p⟩:=p;obtain ⟨u1,u2,u3,u4⟩:=mz hu l2;have hu':∀ q∈ix,∃ p es xs' es',PyData.list es'∈us/\E1[q.1]?=some (some (.ow p,.list es))/\E2[q.1]?=some (some (.ow p,.list es'))/\H' q.2=some (.lst xs')/\au X.K Hm' xs' es'/\Hm' q.2=none:=fun q hq=>by
   obtain ⟨n,hn⟩:=List.getElem?_of_mem hq;have hn1:(lent ms as)[n]?=some q.1:=by rw [<- e1,OG,hn];rfl
   have hn2:(ix.map (·.2))[n]?=some q.2:=by rw [OG,hn];rfl
   obtain ⟨xs',es',g1,g2,g3,g4⟩:=bk.get hn2;obtain ⟨p',es,es'',g5,g6,g7⟩:=u4 n q.1 _ hn1 g1;cases g5;exact ⟨p',es,xs',es',OO g1,g6,g7,g2,g3,g4⟩
  obtain ⟨Hm'',F'',R'',s'',T⟩:=AN R1 (is:=kept ms as) (ix:=ix) (us:=us) e3 (fun q hq=>(hlent q.1 (e1 ▸ OI.mpr ⟨q,hq,rfl⟩)).1) u1 (fun j hj=>u2 j (e1 ▸ hj)) hu' (vh ha) sM sS fr old o new
  exact q _ _ _ _ _ _ _ _ p R'' (s1.trans s'') T
 ·refine hx c d C a H' hC hxc (fun p o hp ho=>?_) ha (R1.dW hn)
  refine fr p o (fun z=>?_) (R1.fr p o hp ho)
  obtain ⟨q,hq,rfl⟩:=OI.mp z;rcases R1.new q.1 q.2 (by rw [(e3 q hq).2];exact N9) with y | y
  ·exact hp y
  ·rw [y] at ho;cases ho
end
def WS (X:Cx)(st:Stmt):TS:=fun D σ H=>∀ (pins:List (Addr×Obj))(s:Shared),Inv X pins σ H s->wpAny (model X.prog X.w) X.A (exec st X.env) (SP X pins D) X.xe s
def oZ (X:Cx)(st:List Stmt):TS:=fun D σ H=>∀ (pins:List (Addr×Obj))(s:Shared),Inv X pins σ H s->wpAny (model X.prog X.w) X.A (execs st X.env) (SP X pins D) X.xe s
def AJ {X:Cx}{st:Stmt}:PS X st (WS X st):=fun pins s _ _ _ I h=>h pins s I
def iB {X:Cx}{st:List Stmt}:mT X st (oZ X st):=fun pins s _ _ _ I h=>h pins s I
def WS.of {X:Cx}{st:Stmt}{t:TS}{D:Ends}{σ:St}{H:Hp}(h:PS X st t)(q:t D σ H):WS X st D σ H:=fun pins s I=>h pins s σ H D I q
def oZ.of {X:Cx}{st:List Stmt}{t:TS}{D:Ends}{σ:St}{H:Hp}(h:mT X st t)(q:t D σ H):oZ X st D σ H:=fun pins s I=>h pins s σ H D I q
def bJ {α:Type}{l:List α}{i:Nat}{a:α}(h:l[i]?=some a):i < l.length:=by
 rcases Nat.lt_or_ge i l.length with z | z
 ·exact z
 ·rw [List.getElem?_eq_none z] at h;cases h
def lE {π:List Nat}{σ:St}{j i:Nat}{v:Option V}(nd:π.Nodup)(h:π[j]?=some i)(hi:i < σ.length):(sel π σ).set j v=sel π (σ.set i v):=by
 have lj:j < π.length:=bJ h;refine List.ext_getElem? fun k=>?_
 by_cases c:k=j
 ·subst c;rw [ay (by unfold sel;rw [O7];exact lj)]
  unfold sel;rw [OG,h];show some v=some ((σ.set i v)[i]?).join;rw [ay hi];rfl
 ·rw [aj (Ne.symm c)];unfold sel;rw [OG,OG];cases e:π[k]? with
  | none=>rfl
  | some m =>
   have ne:i≠m:=fun z=>c (by
    have h1:=List.getElem?_eq_some_iff.mp e;have h2:=List.getElem?_eq_some_iff.mp h;obtain ⟨l1,e1⟩:=h1;obtain ⟨l2,e2⟩:=h2;exact (List.getElem_inj nd).mp (e1.trans (z.symm.trans e2.symm)))
   show some (σ[m]?).join=some ((σ.set i v)[m]?).join;rw [aj ne]
abbrev aR (X:Cx):List Nat:=List.range X.N.length
def MY (X:Cx)(Ex:XK)(w:TS)(d:DS):Prop :=
 ∀ (g:Gh)(D':bO)(E:En)(σ:St)(H Hm:Hp)(F:Nat->List Addr)(D:Ends),XL X Ex D'.xc g->Rl X.K g E σ H Hm F->d D' E ->
  (∀ E' σ' H' Hm' F',D'.nx E'->Rl X.K g E' σ' H' Hm' F'->af Hm Hm'->D.nx (sel (aR X) σ') H') ->
  (∀ E' k v u σ' H' Hm' F' fp,D'.rt E' k v->Rl X.K g E' σ' H' Hm' F'->Tm X.K g F' H' Hm' k u v fp->D.rt u H')->w D (sel (aR X) σ) H
abbrev S1 (X:Cx)(Ex:XK)(st:Stmt)(d:DS):Prop:=MY X Ex (WS X st) d
abbrev SS (X:Cx)(Ex:XK)(st:List Stmt)(d:DS):Prop:=MY X Ex (oZ X st) d
section
variable {X:Cx}{Ex:XK}
def cU:SS X Ex [] eO:=fun g D' E σ H Hm F D hx R h nx rt=>oZ.of HF (nx _ _ _ _ _ h R (af.refl _))
def ah {st:Stmt}{rest:List Stmt}{a b:DS}(h1:S1 X Ex st a)(h2:SS X Ex rest b):SS X Ex (st::rest) (av a b):=by
 intro g D' E σ H Hm F D hx R h nx rt;refine oZ.of (ux AJ iB) (h1 g { D' with nx:=b D' } E σ H Hm F _ hx R h (fun E1 σ1 H1 Hm1 F1 p1 R1 s1=>?_) rt)
 exact h2 g D' E1 σ1 H1 Hm1 F1 D hx R1 p1 (fun E2 σ2 H2 Hm2 F2 p2 R2 s2=>nx _ _ _ _ _ p2 R2 (s1.trans s2)) rt
def Ca {st:Stmt}{rest:List Stmt}{a b:DS}(h1:S1 X Ex st a)(h2:SS X Ex rest b):SS X Ex (st::rest) (AL a b):=by
 intro g D' E σ H Hm F D hx R h nx rt;obtain ⟨J,h,hJ⟩:=h;refine oZ.of (ux AJ iB) (h1 g { D' with nx:=J } E σ H Hm F _ hx R h (fun E1 σ1 H1 Hm1 F1 p1 R1 s1=>?_) rt)
 exact h2 g D' E1 σ1 H1 Hm1 F1 D hx R1 (hJ E1 p1) (fun E2 σ2 H2 Hm2 F2 p2 R2 s2=>nx _ _ _ _ _ p2 R2 (s1.trans s2)) rt
def ak {st:Stmt}{a:DS}(h1:S1 X Ex st a):SS X Ex [st] a:=fun g D' E σ H Hm F D hx R h nx rt=>oZ.of (Hy AJ) (h1 g D' E σ H Hm F D hx R h nx rt)
def Ny {c:Expr}{a b2:List Stmt}{pos:Pos}{t:DT}{d e:DS}(hc:ST X Ex (aR X) c t)(ha:SS X Ex a d)(hb:SS X Ex b2 e):S1 X Ex (.If c a b2 pos) (dQ t d e):=by
 intro g D' E σ H Hm F D hx R h nx rt;refine WS.of (L8 jm iB iB) (hc g D'.xc E σ H Hm F _ (fun b H1=>if b=true then oZ X a D _ H1 else oZ X b2 D _ H1) hx R h fun E1 b H1 Hm1 F1 p1 R1 s1=>?_)
 cases b with
 | true=>exact rZ (ha g D' E1 σ H1 Hm1 F1 D hx R1 (by simpa using p1) (fun E2 σ2 H2 Hm2 F2 p2 R2 s2=>nx _ _ _ _ _ p2 R2 (s1.trans s2)) rt)
 | false=>exact rW (hb g D' E1 σ H1 Hm1 F1 D hx R1 (by simpa using p1) (fun E2 σ2 H2 Hm2 F2 p2 R2 s2=>nx _ _ _ _ _ p2 R2 (s1.trans s2)) rt)
def MC {e:Expr}{pos:Pos}{d:DE}(h:SE X Ex (aR X) e d):S1 X Ex (.Return (some e) pos) (bR d):=fun g D' E σ H Hm F D hx R p nx rt=>WS.of (BL bE) (h g D'.xc E σ H Hm F _ _ hx R p fun E' k v u H' Hm' F' fp p' R' s' T=>rt _ _ _ _ _ _ _ _ _ p' R' T)
def KD {e:Expr}{pos:Pos}{d:DE}(h:SE X Ex (aR X) e d)(hs:swapsWith e none pos.line X.env=pure false):S1 X Ex (.Expr e pos) (d9 d):=fun g D' E σ H Hm F D hx R p nx rt=>WS.of (HG bE hs) (h g D'.xc E σ H Hm F _ _ hx R p fun E' k v u H' Hm' F' fp p' R' s' T=>nx _ _ _ _ _ p' R' s')
def Rl.move {K:Frag}{g:Gh}{E:En}{σ:St}{H Hm:Hp}{F:Nat->List Addr}(R:Rl K g E σ H Hm F){i:Nat}{k:Kd}{d:PyData}(e:E[i]?=some (some (k,d)))(hk:k.pin=false):∃ v F',σ[i]?=some (some v)/\Rl K g (E.set i none) σ H Hm F'/\Tm K g F' H Hm k v d (F i):=by
 obtain ⟨v,h1,h2⟩:=R.slot i k d e;have li:=bJ e;refine ⟨v,fun j=>if j=i then [] else F j,h1,?_,⟨h2,R.off i,fun a ha j=>?_,fun a ha=>R.notM e hk ha⟩⟩
 ·exact {
   len:=by rw [List.length_set];exact R.len
   sub:=R.sub
   slot:=fun j k' d' e'=>by
    by_cases c:j=i
    ·subst c;rw [ay li] at e';cases e'
    ·rw [aj (Ne.symm c)] at e';obtain ⟨u,g1,g2⟩:=R.slot j k' d' e';exact ⟨u,g1,by rw [if_neg c];exact g2⟩
   off:=fun j a ha=>by
    by_cases c:j=i
    ·rw [if_pos c] at ha;cases ha
    ·rw [if_neg c] at ha;exact R.off j a ha
   bx:=fun j a ha=>by
    by_cases c:j=i
    ·rw [if_pos c] at ha;cases ha
    ·rw [if_neg c] at ha;exact R.bx j a ha
   aD:=fun j l a g1 g2=>by
    by_cases c:j=i
    ·rw [if_pos c] at g1;cases g1
    ·rw [if_neg c] at g1
     by_cases c':l=i
     ·rw [if_pos c'] at g2;cases g2
     ·rw [if_neg c'] at g2;exact R.aD j l a g1 g2
   fr:=R.fr
   new:=fun j a ha=>by
    by_cases c:j=i
    ·rw [if_pos c] at ha;cases ha
    ·rw [if_neg c] at ha;exact R.new j a ha
   pin:=fun q hq=>by
    obtain ⟨g1,ds',g2⟩:=R.pin q hq;have c:i≠q.1:=fun z=>by
     rw [<- z,e] at g2;cases g2;cases hk
    exact ⟨g1,ds',by rw [aj c];exact g2⟩
   old:=R.old }
 ·by_cases c:j=i
  ·rw [if_pos c];simp
  ·rw [if_neg c];exact fun z=>c (R.aD j i a z ha)
def lD {n i:Nat}(h:i < n):(List.range n)[i]?=some i:=List.getElem?_range h
def K4 {e:Expr}{pos:Pos}{i:Nat}(h:PE X e (gh i))(hi:i < X.N.length):S1 X Ex (.Return (some e) pos) (iJ i):=by
 intro g D' E σ H Hm F D hx R p nx rt;obtain ⟨k,d,e1,hk,p⟩:=p;obtain ⟨v,F',h1,R',T⟩:=R.move e1 hk;exact WS.of (BL h) ⟨v,cI (lD hi) h1,rt _ _ _ _ _ _ _ _ _ p R' T⟩
def iA {E:En}{i:Nat}(h:bP E i=true):i < E.length:=by
 rcases Nat.lt_or_ge i E.length with z | z
 ·exact z
 ·unfold bP at h;rw [List.getElem?_eq_none z] at h;cases h
def MA {i:Nat}{x:Str}{e:Expr}{pos pos':Pos}{d:DE}(hN:X.N.Nodup)(hi:X.N[i]?=some x)(hl:Loc X.env.scope x)(hs:swapsWith e (some (.Name x pos')) pos.line X.env=pure false)(hf:X.fn x=true\/X.env.scope.names.lookup x=some .local)(h:SE X Ex (aR X) e d):S1 X Ex (.Assign [.Name x pos'] e pos) (aJ i d):=by
 intro g D' E σ H Hm F D hx R p nx rt;refine WS.of (J1 hN hi hl bE hs hf) (h g D'.xc E σ H Hm F _ _ hx R p fun E' k v u H' Hm' F' fp p' R' s' T=>?_)
 show D.nx ((sel (aR X) σ).set i (some u)) H';rw [lE List.nodup_range (lD (bJ hi)) (R'.len ▸ iA p'.1)];exact nx _ _ _ _ _ p'.2 (R'.put T p'.1) s'
inductive jO (X:Cx)(π:List Nat):List Expr->List Nat->Prop
 | nil:jO X π [] []
 | cons {x:Str}{p:Pos}{j i:Nat}{ts:List Expr}{is:List Nat}:X.N[j]?=some x->π[j]?=some i->Loc X.env.scope x->(X.fn x=true\/X.env.scope.names.lookup x=some .local)->jO X π ts is->jO X π (.Name x p::ts) (i::is)
inductive eW (X:Cx)(π:List Nat):Expr->Tg->Prop
 | nm {x:Str}{p:Pos}{j i:Nat}:X.N[j]?=some x->π[j]?=some i->Loc X.env.scope x->(X.fn x=true\/X.env.scope.names.lookup x=some .local)->eW X π (.Name x p) (.nm i)
 | tp {ts:List Expr}{k:Nat}{p:Pos}{is:List Nat}:jO X π ts is->eW X π (.Tuple ts k p) (.tp is)
def NQ (X:Cx)(π:List Nat)(tg:Tg)(G:TG):Prop:=∀ {g:Gh}{d:PyData}{v:V}{E E2:En}{σ:St}{H Hm:Hp}{F:Nat->List Addr}{Q:St->Hp->Prop},b7 tg d E=some E2->Rp X.K Hm v d->Rl X.K g E σ H Hm F->(∀ σ' F',Rl X.K g E2 σ' H Hm F'->(∀ j,j∉tg.slots->σ'[j]?=σ[j]?)->Q (sel π σ') H)->G v (sel π σ) H Q
def DX {π:List Nat}(hN:X.N.Nodup)(nd:π.Nodup){ts:List Expr}{is:List Nat}(h:jO X π ts is):∃ G:pH,Dj X ts G/\(assignEach ts X.env).length=is.length/\(assignEach ts X.env).findIdx? (·.1)=none /\
  ∀ {g:Gh}{ds:List PyData}{vs:List V}{E E2:En}{σ:St}{H Hm:Hp}{F:Nat->List Addr}{Q:St->Hp->Prop},bQ is ds E=some E2->au X.K Hm vs ds->Rl X.K g E σ H Hm F->(∀ σ' F',Rl X.K g E2 σ' H Hm F'->(∀ j,j∉is->σ'[j]?=σ[j]?)->Q (sel π σ') H)->vs.length=is.length/\G vs (sel π σ) H Q:=by
 induction h with
 | nil =>
  refine ⟨Kp,Ip,rfl,rfl,fun {g ds vs E E2 σ H Hm F Q} h r R q=>?_⟩
  cases ds with
  | nil =>
   cases h;cases r;exact ⟨rfl,rfl,q _ _ R fun _ _=>rfl⟩
  | cons _ _=>cases h
 | @cons x p j i ts is h1 h2 h3 h4 _ ih =>
  obtain ⟨G,g1,g2,g3,g4⟩:=ih;refine ⟨Ge (oi j) G,ES (yF hN h1 h3 h4) g1,?_,?_,fun {g ds vs E E2 σ H Hm F Q} h r R q=>?_⟩
  ·show (assignEach ts X.env).length + 1=_;rw [g2];rfl
  ·show List.findIdx? (·.1) ((false,assign (.Name x p) X.env)::assignEach ts X.env)=none;rw [List.findIdx?_cons,g3];rfl
  ·cases ds with
   | nil=>cases h
   | cons d ds =>
    rw [bQ] at h
    by_cases o:bP E i=true
    ·rw [if_pos o] at h;cases r with
     | cons r1 r2 =>
      obtain ⟨l,k⟩:=g4 h r2 (R.put (Tm.sh r1) o) fun σ' F' R' a=>q σ' F' R' fun j' hj=>by
       have ne:i≠j':=fun z=>hj (z ▸ N9)
       exact (a j' fun z=>hj (O6 _ z)).trans (aj ne)
      refine ⟨congrArg (· + 1) l,_,_,rfl,?_⟩;show G _ ((sel π σ).set j (some _)) H Q;rw [lE nd h2 (R.len ▸ iA o)];exact k
    ·rw [if_neg o] at h;cases h
def q8 {π:List Nat}{e:Expr}{tg:Tg}(hc:X.calm=true)(hN:X.N.Nodup)(nd:π.Nodup)(h:eW X π e tg):∃ G,PG X e G/\NQ X π tg G:=by
 cases h with
 | @nm x p j i h1 h2 h3 h4 =>
  refine ⟨oi j,yF hN h1 h3 h4,fun {g d v E E2 σ H Hm F Q} h r R q=>?_⟩
  have h:bQ [i] [d] E=some E2:=h;rw [bQ] at h
  by_cases o:bP E i=true
  ·rw [if_pos o] at h;cases h;show Q ((sel π σ).set j (some v)) H;rw [lE nd h2 (R.len ▸ iA o)];exact q _ _ (R.put (Tm.sh r) o) fun j' hj=>aj (show i≠j' from fun z=>hj (z ▸ N9))
  ·rw [if_neg o] at h;cases h
 | @tp ts k p is h =>
  obtain ⟨G,g1,g2,g3,g4⟩:=DX hN nd h;refine ⟨_,JA hc g1 g2 g3,fun {g d v E E2 σ H Hm F Q} h r R q=>?_⟩
  cases d with
  | tuple ds =>
   have h:bQ is ds E=some E2:=h;cases r with
   | tup a r =>
    obtain ⟨l,k⟩:=g4 h r R q;exact ⟨_,_,rfl,bW.of (R.sub _ _ a),l,k⟩
  | _=>cases h
def MH {ts:List Expr}{is:List Nat}{k:Nat}{p pos:Pos}{e:Expr}{d:DE}(hc:X.calm=true)(hN:X.N.Nodup)(ht:jO X (aR X) ts is)(hs:swapsWithSole [.Tuple ts k p] e pos.line X.env=pure false)(hw:swappedStores [.Tuple ts k p] e X.env=pure none)(h:SE X Ex (aR X) e d):S1 X Ex (.Assign [.Tuple ts k p] e pos) (m6 is d):=by
 intro g D' E σ H Hm F D hx R pp nx rt;obtain ⟨G,g1,g2⟩:=q8 hc hN List.nodup_range (eW.tp (k:=k) (p:=p) ht);refine WS.of (CZ bE g1 hs hw) (h g D'.xc E σ H Hm F _ _ hx R pp fun E' k v u H' Hm' F' fp p' R' s' T=>?_)
 obtain ⟨E2,hk,e2,p'⟩:=p';obtain ⟨Hm2,s2,R2,r2⟩:=T.bY R' hk;exact g2 e2 r2 R2 fun σ' F' R3 _=>nx _ _ _ _ _ p' R3 (s'.trans s2)
def HY {c:Expr}{b:List Stmt}{pos:Pos}{t:DT}{d:DS}(hp:PassesOwn (model X.prog X.w) X.A X.env X.xe)(hc:ST X Ex (aR X) c t)(hb:SS X Ex b d):S1 X Ex (.While c b [] pos) (nO t d):=by
 intro g D' E σ H Hm F D hx R h nx rt;obtain ⟨W,⟨m0,w0⟩,step⟩:=h;refine WS.of (D4 hp jm iB) ⟨fun m τ H'=>∃ E' σ' Hm' F',W m E'/\Rl X.K g E' σ' H' Hm' F'/\af Hm Hm'/\τ=sel (aR X) σ',⟨m0,E,σ,Hm,F,w0,R,af.refl _,rfl⟩,?_⟩
 rintro m τ H1 ⟨E1,σ1,Hm1,F1,w1,R1,s1,rfl⟩;refine hc g D'.xc E1 σ1 H1 Hm1 F1 _ _ hx R1 (step m E1 w1) fun E2 b2 H2 Hm2 F2 p2 R2 s2=>?_
 cases b2 with
 | true =>
  refine rZ ⟨fun τ H'=>∃ m',m' < m/\∃ E' σ' Hm' F',W m' E'/\Rl X.K g E' σ' H' Hm' F'/\af Hm Hm'/\τ=sel (aR X) σ',fun _ _ z=>z,?_⟩
  exact hb g { D' with nx:=fun E'=>∃ m',m' < m/\W m' E' } E2 σ1 H2 Hm2 F2 _ hx R2 (by simpa using p2) (fun E3 σ3 H3 Hm3 F3 p3 R3 s3=>by
   obtain ⟨m',hm,w3⟩:=p3;exact ⟨m',hm,E3,σ3,Hm3,F3,w3,R3,s1.trans (s2.trans s3),rfl⟩) rt
 | false=>exact rW (nx _ _ _ _ _ (by simpa using p2) R2 (s1.trans s2))
def sI (K:Frag)(J:It)(xs:List PyData)(cY:Hp):Prop:=∀ (i:Nat)(H Hm:Hp),af cY Hm->af Hm H ->
 (∀ d,xs[i]?=some d->J.go i H/\∀ x H',J.oN i H x H'->∃ Hm',af Hm Hm'/\af Hm' H'/\af H H'/\(∀ a,H a≠none->OE (Hm' a) (Hm a))/\Rp K Hm' x d)/\(xs.length<=i->J.stop i H)
def SI (X:Cx)(Ex:XK)(π:List Nat)(tg e:Expr)(d:DI):Prop:=∃ wi:TI,PI X tg e wi /\
 ∀ (g:Gh)(x:XC)(E:En)(σ:St)(H Hm:Hp)(F:Nat->List Addr)(P:En->List PyData->Prop)(R:It->Hp->Prop),XL X Ex x g->Rl X.K g E σ H Hm F->d x E P ->
  (∀ E' xs J H' Hm' F',P E' xs->Rl X.K g E' σ H' Hm' F'->af Hm Hm'->sI X.K J xs Hm'->R J H')->wi (sel π σ) H R
def Rl.turn {K:Frag}{g:Gh}{E:En}{σ:St}{H H' Hm Hm':Hp}{F:Nat->List Addr}(R:Rl K g E σ H Hm F)(s1:af Hm Hm')(s2:af Hm' H')(s3:af H H')(old:∀ a,H a≠none->OE (Hm' a) (Hm a)):Rl K g E σ H' Hm' F :=
 R.grow s3 s1 s2 (fun i a ha=>by
  obtain ⟨u,hu,nt⟩:=R.bx i a ha;exact (old a (by rw [hu];simp)).off (R.off i a ha) s2 (s3 _ _ hu) nt) fun a ha=>old a (R.qW ha)
def MN {tg it:Expr}{b:List Stmt}{pos:Pos}{di:DI}{t:Tg}{d:DS}(hp:PassesOwn (model X.prog X.w) X.A X.env X.xe)(hc:X.calm=true)(hN:X.N.Nodup)(hi:SI X Ex (aR X) tg it di)(ht:eW X (aR X) tg t)(hb:SS X Ex b d)
  (hs:∀ x,foldedSetIterable it X.env x=pure x):S1 X Ex (.For tg it b [] pos) (eY di t d):=by
 intro g D' E σ H Hm F D hx R h nx rt;obtain ⟨wi,hpi,hw⟩:=hi;obtain ⟨G,g1,g2⟩:=q8 hc hN List.nodup_range ht;refine WS.of (JC hp hc hpi g1 iB hs) (hw g D'.xc E σ H Hm F _ _ hx R h fun E1 xs J H1 Hm1 F1 p1 R1 s1 it1=>?_)
 obtain ⟨I,i0,step,fin⟩:=p1;refine ⟨fun i m τ H'=>m=xs.length - i/\i<=xs.length/\∃ E' σ' Hm' F',I i E'/\Rl X.K g E' σ' H' Hm' F'/\af Hm1 Hm'/\τ=sel (aR X) σ',⟨xs.length,by simp,Nat.zero_le _,E1,σ,Hm1,F1,i0,R1,af.refl _,rfl⟩,?_⟩
 rintro i m τ H2 ⟨rfl,hi,E2,σ2,Hm2,F2,i2,R2,s2,rfl⟩;obtain ⟨go,stop⟩:=it1 i H2 Hm2 s2 R2.sub
 by_cases c:i < xs.length
 ·obtain ⟨go,oN⟩:=go xs[i] (OQ c);refine .inr ⟨go,fun τ H'=>i + 1<=xs.length/\∃ E' σ' Hm' F',I (i + 1) E'/\Rl X.K g E' σ' H' Hm' F'/\af Hm1 Hm'/\τ=sel (aR X) σ',fun τ H' z=>⟨xs.length - (i + 1),by omega,rfl,z⟩,fun x H3 y=>?_⟩
  obtain ⟨Hm3,t1,t2,t3,old,r⟩:=oN x H3 y;have R3:=R2.turn t1 t2 t3 old;obtain ⟨E4,e4,p4⟩:=step i xs[i] E2 (OQ c) i2;refine g2 e4 r R3 fun σ4 F4 R4 _=>?_
  exact hb g { D' with nx:=I (i + 1) } E4 σ4 H3 Hm3 F4 _ hx R4 p4 (fun E5 σ5 H5 Hm5 F5 p5 R5 s5=>⟨c,E5,σ5,Hm5,F5,p5,R5,s2.trans (t1.trans s5),rfl⟩) rt
 ·have e:i=xs.length:=by omega
  subst e;exact .inl ⟨stop (O5 _),nx _ _ _ _ _ (fin E2 i2) R2 (s1.trans s2)⟩
end
end Dv
namespace L2
open PySem PySem.Spec PyProof.Rows
def iz (elt:Expr)(gens:List Comprehension)(scope:Scope)(pos:Pos) (k:Nat)(acc:Value)(env:Env)(fin:Sem Fin):Sem Fin:=match gens[k]? with
 | some g'=>do
  let x <- eval g'.iter env
  standAt g'.iter.pos
  let x <- foldedSetIterable g'.iter env x
  let y <- holding [x] (pyIter x)
  let _ <- runOwn (.compStart (.ListComp elt gens scope pos) k y acc env) env
  fin
 | none=>do
  (do let _ <- call (.builtin "list.append") [acc,<- eval elt env])
  fin
def compTurn_gen {elt:Expr}{gens:List Comprehension}{scope:Scope}{pos:Pos}{k:Nat}{tg iter:Expr}{ifs:List Expr}(hk:gens[k]?=some ⟨tg,iter,ifs,0⟩)(ha:∀ g∈gens,g.is_async=0)(it acc:Value)(env:Env) :
  compTurn (.ListComp elt gens scope pos) k it acc env=(do
   standAt iter.pos
   match <- pyNext it with
   | none=>pure (.done .next)
   | some v =>
    letOwnedTupleGo tg it v
    assign tg env v
    let mut ok:=true
    for c in ifs do
     if ok then ok <- isTrue c env (eval c env)
    if ok then iz elt gens scope pos (k + 1) acc env (again (.compLoop (.ListComp elt gens scope pos) k it acc env))
    else again (.compLoop (.ListComp elt gens scope pos) k it acc env)):=by
 unfold compTurn iz;simp only [hk];cases h:gens[k + 1]? with
 | none=>rfl
 | some g' =>
  have e:=ha g' (OO h);obtain ⟨t,i,f,a⟩:=g';dsimp only at e;subst e;rfl
section
variable {prog:Program}{w:World}{A:Around}{R:Result->Shared->Prop}{s:Shared}{elt tg iter:Expr}{gens:List Comprehension}{ifs:List Expr}{scope:Scope}{pos:Pos}{k:Nat}
def rA (hk:gens[k]?=some ⟨tg,iter,ifs,0⟩)(ha:∀ g∈gens,g.is_async=0){it acc:Value}{env:Env}(I:Nat->Shared->Prop)
  (turn:∀ n s,I n s->wpAny (model prog w) A (pyNext it) (fun r s1=>match r with
   | none=>R (.ok .next) s1
   | some v=>wpAny (model prog w) A (letOwnedTupleGo tg it v) (fun _ s0=>wpAny (model prog w) A (assign tg env v) (fun _ s2=>wpAny (model prog w) A (forIn ifs true fun c r=>if r=true then do let ok <- isTrue c env (eval c env);pure (ForInStep.yield ok) else pure (ForInStep.yield r)) (fun ok s3 =>
      if ok=true then ∀ (fin:Sem Fin)(Qf:Fin->Shared->Prop),(∀ s5,(∃ m,m < n/\I m s5)->wpAny (model prog w) A fin Qf (mK prog w A env R) s5)->wpAny (model prog w) A (iz elt gens scope pos (k + 1) acc env fin) Qf (mK prog w A env R) s3
      else ∃ m,m < n/\I m s3) (mK prog w A env R) s2) (mK prog w A env R) s0) (mK prog w A env R) s1) (mK prog w A env R) s)
  (n:Nat)(h:I n s):codeAny (model prog w) A (.compLoop (.ListComp elt gens scope pos) k it acc env) R s:=by
 refine codeAny_loop rfl I (fun n s hI=>?_) n h
 refine (wpAny_noted (?_:_):wpAny _ A ((compTurn (.ListComp elt gens scope pos) k it acc env).onRaise (fun x=>do noteFrame x env;theTreesLotGoes x)) _ _ s)
 rw [compTurn_gen hk ha];refine N8 (wpAny_standAt (N8 (wpAny_mono (turn n s hI) (fun r s1 h1=>?_) fun _ _ z=>z)))
 cases r with
 | none=>exact O0 h1
 | some v =>
  refine N8 (wpAny_mono h1 (fun _ s0 h0=>N8 (wpAny_mono h0 (fun _ s2 h2=>N8 (wpAny_mono h2 (fun ok s3 h3=>?_) fun _ _ z=>z)) fun _ _ z=>z)) fun _ _ z=>z)
  cases ok with
  | false=>exact O0 ⟨rfl,h3⟩
  | true=>exact h3 _ _ fun s5 h5=>O0 ⟨rfl,h5⟩
end
def k9 (N:List Str)(fs scope:Scope)(vs NB:List Str)(ix:List Nat):Bool :=
 decide (scope.kind=.function) && scope.names.all (fun y=>decide (y.2≠.cell)) && scope.names.all (fun y=>decide (y.2≠.local) || decide (scope.names.lookup y.1=some .local)) &&
 scope.names.all (fun y=>decide (y.2≠.free) || (decide (fs.names.lookup y.1=some .cell) || decide (fs.names.lookup y.1=some .free))) &&
 decide (NB=vs++ix.map fun i=>N.getD i "") && decide NB.Nodup && ix.all fun i=>match N[i]? with | some y=>decide (scope.names.lookup y=some .free) | none=>false
structure cB (X:Cx)(scope:Scope)(vs NB:List Str)(ix:List Nat):Prop where
 kind:scope.kind=.function
 cell:∀ y∈scope.names,y.2≠.cell
 names:∀ y∈scope.names,y.2=.local->scope.names.lookup y.1=some .local
 free:∀ y,(y,NameKind.free)∈scope.names->(X.env.kindOf y=some .cell\/X.env.kindOf y=some .free)
 nb:NB=vs++ix.map fun i=>X.N.getD i ""
 nd:NB.Nodup
 cap:∀ i∈ix,∃ y,X.N[i]?=some y/\scope.names.lookup y=some .free
def cB.of {X:Cx}{N:List Str}{fs scope:Scope}{vs NB:List Str}{ix:List Nat}(h:k9 N fs scope vs NB ix=true)(hN:X.N=N:=by rfl)(hf:X.env.scope=fs:=by rfl):cB X scope vs NB ix:=by
 subst hN hf;unfold k9 at h;simp only [OA] at h;obtain ⟨⟨⟨⟨⟨⟨h1,h2⟩,h3⟩,h4⟩,h6⟩,h7⟩,h8⟩:=h;refine ⟨OS h1,fun y hy=>OS (OC.mp h2 y hy),fun y hy e=>?_,fun y hy=>?_,OS h6,OS h7,fun i hi=>?_⟩
 ·have z:=OC.mp h3 y hy;rw [Bool.or_eq_true] at z;rcases z with z | z
  ·exact absurd e (OS z)
  ·exact OS z
 ·have z:=OC.mp h4 _ hy;rw [Bool.or_eq_true,Bool.or_eq_true] at z;rcases z with z | z | z
  ·exact absurd rfl (OS z)
  ·exact .inl (OS z)
  ·exact .inr (OS z)
 ·have z:=OC.mp h8 i hi;cases e:X.N[i]? with
  | none=>rw [e] at z;cases z
  | some y=>rw [e] at z;exact ⟨y,rfl,OS z⟩
section
variable {X:Cx}{scope:Scope}{vs:List Str}{NB:List Str}{ix:List Nat}{pins:List (Addr×Obj)}{σ:St}{H2:Hp}{s2:Shared}{fp:List Addr}
def cB.clos (B:cB X scope vs NB ix)(I2:Inv X pins σ H2 s2):closureFor scope X.env=pure (bM X.env.cells scope.names []) :=
 kq fun n hn=>I2.ok.has n (B.free n hn)
def cB.look (B:cB X scope vs NB ix)(I2:Inv X pins σ H2 s2){y:Str}{c:Addr}(h:(bM X.env.cells scope.names []).lookup y=some c):X.env.cells.lookup y=some c:=by
 rcases kJ _ _ h with ⟨m,e⟩ | e
 ·obtain ⟨c',hc⟩:=I2.ok.has y (B.free y m);rw [hc] at e ⊢;exact congrArg some e
 ·cases e
def Bu (B:cB X scope vs NB ix)(I2:Inv X pins σ H2 s2){C:Addr}(hC:s2.heap.objs.size<=C)(f2:∀ b∈fp,dS X pins H2 b)(ft:∀ b∈fp,b < s2.heap.objs.size):(X.block scope C NB s2 H2 fp).Ok where
 mod:=I2.ok.mod
 kind:=B.kind
 glob:=I2.ok.glob
 blt:=I2.ok.blt
 above:=hC
 inj:=fun a b c h1 h2=>I2.ok.inj a b c (B.look I2 h1) (B.look I2 h2)
 has:=fun y hy=>by
  have key:∀ k,(relabel scope X.env).names.lookup y=some k->(k=.cell\/k=.free)->∃ c,(bM X.env.cells scope.names []).lookup y=some c:=fun k hk kk=>by
   rcases pX (names:=scope.names) hk with e | ⟨e,_⟩
   ·rcases kk with rfl | rfl
    ·exact absurd rfl (B.cell _ (cO e))
    ·exact eN _ _ (.inl (cO e))
   ·exact eN _ _ (.inl (cO e))
  rcases hy with e | e
  ·exact key _ e (.inl rfl)
  ·exact key _ e (.inr rfl)
 Bv:=fun _ _ z=>by cases z
 hd:=I2.ok.hd
 frames:=I2.ok.frames
 stk:=.inl rfl
 MT:=fun b hb=>⟨OD (OL (ft b hb) hC),fun y c e=>(f2 b hb).2.2.2.2.1 y c (B.look I2 e)⟩
 bs:=I2.bs
 sO:=Nat.le_trans I2.ok.sO I2.sz
 rS:=fun b o e hb=>by
  rcases (f2 b hb).2.2.2.1 with z | z
  ·exact I2.ok.rS b o e z
  ·exact absurd (OL (OB (I2.ok.bs b o e).1) z) (Nat.lt_irrefl _)
 zZ:=fun b hb z=>by
  rcases O9.mp (I2.iL b z) with e | e
  ·exact (f2 b hb).2.1 e
  ·exact (f2 b hb).2.2.1 e
 jC:=I2.stack
 zA:=I2.nW
def zX (B:cB X scope vs NB ix)(I2:Inv X pins σ H2 s2){C D:Addr}{h1:Heap}{tk:Nat}{m:Str->Option Value}{oD:Obj}(hC:s2.heap.objs.size<=C)(hD:s2.heap.objs.size<=D)(hDC:D≠C)(f2:∀ b∈fp,dS X pins H2 b)(ft:∀ b∈fp,b < s2.heap.objs.size)
  (old:∀ b o,s2.heap.get? b=some o->h1.get? b=some o)(hn:h1.Ns C m)(ho:h1.get? D=some oD)(hcl:∀ v,oD.data≠.cell v) :
  Inv (X.block scope C NB s2 H2 fp) [(D,oD)] (List.replicate vs.length none++caps ix σ) H2 { s2 with heap:=h1,toks:=tk } where
 ok:=Bu B I2 hC f2 ft
 os:=rfl
 bare:=I2.bare
 base:=Un.kept old
 loc:=by
  refine ⟨m,hn,fun i y v e1 e2 _=>?_⟩
  have e1:NB[i]?=some y:=e1
  by_cases li:i < vs.length
  ·rw [List.getElem?_append_left (by rw [List.length_replicate];exact li),List.getElem?_replicate,if_pos li] at e2
   cases e2
  ·obtain ⟨j,rfl⟩:∃ j,i=vs.length + j:=⟨i - vs.length,by omega⟩
   have e2:(caps ix σ)[j]?=some (some v):=by
    rw [List.getElem?_append_right (by rw [List.length_replicate];omega),List.length_replicate,Nat.add_sub_cancel_left] at e2
    exact e2
   rw [B.nb] at e1;have e1:(ix.map fun i=>X.N.getD i "")[j]?=some y:=by
    rw [List.getElem?_append_right (by omega),Nat.add_sub_cancel_left] at e1
    exact e1
   rw [OG] at e1;unfold caps at e2;rw [OG] at e2;cases q:ix[j]? with
   | none=>rw [q] at e1;cases e1
   | some i =>
    rw [q] at e1 e2;obtain ⟨z,hz,fz⟩:=B.cap i (OO q);have ey:y=z:=by
     have w:X.N.getD i ""=y:=Option.some.inj e1;rw [<- w,List.getD_eq_getElem?_getD,hz];rfl
    subst ey;have e2:(σ[i]?).join=some v:=Option.some.inj e2;have es:σ[i]?=some (some v):=by
     cases w:σ[i]? with
     | none=>rw [w] at e2;cases e2
     | some o=>rw [w] at e2;exact congrArg some e2
    have fk:=B.free y (cO fz);have vis:gZ X.env.scope y:=.inr fk;obtain ⟨mm,_,hl⟩:=I2.loc;obtain ⟨u,ru,lk⟩:=hl i y v hz es vis;refine ⟨u,ru,.inr ⟨?_,?_⟩⟩
    ·rcases mG (env:=X.env) (names:=scope.names) fz with e | ⟨_,e⟩
     ·exact .inr e
     ·exact .inl e
    ·rcases lk with ⟨lk,_⟩ | ⟨_,c,hc,hcell⟩
     ·rcases fk with fk | fk
      ·rw [lk] at fk;cases fk
      ·rw [lk] at fk;cases fk
     ·obtain ⟨c',hc'⟩:=eN (cells:=X.env.cells) scope.names [] (.inl (cO fz));have e3:=B.look I2 hc';rw [hc] at e3;cases e3;obtain ⟨oc,g1,g2⟩:=hcell;exact ⟨c,hc',oc,old _ _ g1,g2⟩
 cell:=fun y c e=>by
  obtain ⟨v,o,g1,g2⟩:=I2.cell y c (B.look I2 e);exact ⟨v,o,old _ _ g1,g2⟩
 free:=I2.hok.fresh hC
 gQ:=fun y c e=>I2.gQ y c (B.look I2 e)
 pin:=fun p hp=>by
  have e:p=(D,oD):=by simpa [Cx.block] using hp
  subst e;refine ⟨ho,I2.hok.fresh hD,hDC,fun z=>?_,hcl⟩
  rcases O9.mp (I2.iL D z) with e | e
  ·have e:D=X.env.locals:=e;exact absurd (OL I2.lt (e ▸ hD)) (Nat.lt_irrefl _)
  ·exact I2.Ef hD e
 hok:=I2.hok.kept old
 len:=by
  show (List.replicate vs.length none++caps ix σ).length=NB.length;rw [B.nb,OR,OR,vV,O7,List.length_replicate]
end
abbrev TL:=List V->St->Hp->(List V->St->Hp->Prop)->Prop
def PL (X:Cx)(D:Addr)(elt:Expr)(gens:List Comprehension)(scope:Scope)(pos:Pos) (k:Nat)(t:TL):Prop :=
 X.s₀.heap.objs.size<=D->(∀ y c,X.env.cells.lookup y=some c->c≠D)->(∀ e s',X.xe e s'->False) ->
 ∀ (pins:List (Addr×Obj))(s:Shared)(σ:St)(H:Hp)(ys:List V)(its:List Value) (nn:Nat)(Q:List V->St->Hp->Prop)(fin:Sem Fin)(Qf:Fin->Shared->Prop)(E:Value->Shared->Prop),
  (∀ p∈X.pn++pins,p.1≠D)->Inv X ((D,dO its nn)::pins) σ H s->Vals ys its->ys.length<=sizeLine->t ys σ H Q ->
  (∀ s' ys' its' nn' σ' H',Inv X ((D,dO its' nn')::pins) σ' H' s'->Vals ys' its'->ys'.length<=sizeLine->Q ys' σ' H'->wpAny (model X.prog X.w) X.A fin Qf E s') ->
  wpAny (model X.prog X.w) X.A (iz elt gens scope pos k (.ref D) X.env fin) Qf E s
def GN (te:TE):TL:=fun ys σ H Q=>te σ H fun v H1=>ys.length < sizeLine/\Q (ys++[v]) σ H1
def z6 (J:It)(g:TG)(tt:TT)(tr:TL)(ys0:List V)(σ0:St)(H1:Hp)(Q:List V->St->Hp->Prop):Prop :=
 ∃ W:Nat->Nat->List V->St->Hp->Prop,(∃ m,W 0 m ys0 σ0 H1)/\∀ i m ys σ H,W i m ys σ H ->
  (J.stop i H/\Q ys σ H)\/(J.go i H/\∃ N:List V->St->Hp->Prop,(∀ ys' σ' H',N ys' σ' H'->∃ m',m' < m/\W (i + 1) m' ys' σ' H') /\
   ∀ x H',J.oN i H x H'->g x σ H' fun σ2 H2=>tt σ2 H2 fun b H3=>if b=true then tr ys σ2 H3 N else N ys σ2 H3)
section
variable {X:Cx}{D:Addr}{elt tg iter:Expr}{gens:List Comprehension}{ifs:List Expr}{scope:Scope}{pos:Pos}{k:Nat}
def yQ {te:TE}(he:PE X elt te)(hk:gens[k]?=none:=by rfl):PL X D elt gens scope pos k (GN te):=by
 intro hD hc hx pins s σ H ys its nn Q fin Qf E hp I rv hz h hf;unfold iz;rw [hk];refine N8 (N8 (wpAny_mono (he _ s σ H _ I h) (fun y s8 ⟨yv,H8,I8,r8,hlt,n8⟩=>N8 ?_) fun e s' z=>(hx e s' z).elim))
 have pD:=I8.pin (D,dO its nn) (List.mem_append_right _ N9);refine append_at (hsz:=by rw [OJ,<- rv.length];exact hz) pD.1 fun h9 hs9 hD9=>O0 ?_
 have I8n:Inv X pins σ H8 s8:=I8.jr fun p hp'=>I8.pin p (List.mem_append_right _ (O6 _ hp'))
 have I9:=I8n.turned (h':=h9) (t':=s8.toks) (it:=D) (fun b o hb e=>hs9.extBut b o hb e) pD.2.1 pD.2.2.1 (.inr hD) hc hp
 have e9:dO (its++[y]) (nn + 1)={ cls:=.type "list",data:=.seq (its.toArray.push y) (nn + 1) }:=by
  show ({ cls:=.type "list",data:=.seq (its++[y]).toArray (nn + 1) }:Obj)=_;rw [List.push_toArray]
 have I10:Inv X ((D,dO (its++[y]) (nn + 1))::pins) σ H8 { s8 with heap:=h9 }:=by
  refine I9.jr fun p hp'=>?_
  rcases O9.mp hp' with rfl | hp'
  ·exact ⟨hD9.trans (congrArg some e9.symm),pD.2.1,pD.2.2.1,pD.2.2.2.1,fun v q=>by cases q⟩
  ·exact I9.pin p (List.mem_append_right _ hp')
 exact hf _ (ys++[yv]) (its++[y]) (nn + 1) σ H8 I10 (Vals.append rv (.cons r8 .nil)) (by rw [OR];exact hlt) n8
end
section
variable {X:Cx}{scope:Scope}{vs:List Str}{NB:List Str}{ix:List Nat}
def lH (wi:TI) (n:Nat)(ix:List Nat)(g:TG)(tt:TT)(tr:TL):TE:=fun σ H Q=>wi σ H fun J H1=>z6 J g tt tr [] (List.replicate n none++caps ix σ) H1 fun ys _ H'=>∀ p,H' p=none->Q (.ref p) (upd H' p (.lst ys))
def qN {elt tg iter:Expr}{ifs:List Expr}{rest:List Comprehension}{pos:Pos}{g:TG}{tt:TT}{tr:TL}{J:It}{it:Addr}{tn:Nat->Heap->Prop}{fp:List Addr}{pins:List (Addr×Obj)}{σ:St}{H2:Hp}{s2:Shared}{E:Value->Shared->Prop}{RR:Value->Addr->Result->Shared->Prop}{Qr:VK}(B:cB X scope vs NB ix)(hc:X.calm=true)
  (hg:∀ (C:Addr)(s:Shared)(H:Hp)(fp:List Addr),PG (X.block scope C NB s H fp) tg g)(ht:∀ (C:Addr)(s:Shared)(H:Hp)(fp:List Addr),ng (X.block scope C NB s H fp) ifs tt)
  (hr:∀ (C:Addr)(s:Shared)(H:Hp)(fp:List Addr)(D:Addr),PL (X.block scope C NB s H fp) D elt (⟨tg,iter,ifs,0⟩:: rest) scope pos 1 tr)
  (ha:∀ g∈rest,g.is_async=0)(I2:Inv X pins σ H2 s2)(T:Turn X.prog X.w X.K tg J fp it tn)(st2:tn 0 s2.heap)(f2:∀ b∈fp,dS X pins H2 b)(h:z6 J g tt tr [] (List.replicate vs.length none++caps ix σ) H2 fun ys _ H'=>∀ p,H' p=none->Qr (.ref p) (upd H' p (.lst ys)))
  (hRR:∀ (D C:Addr)(Hf:Hp)(s':Shared)(m':Str->Option Value),Inv X pins σ Hf s'->s'.heap.Ns C m'->dS X pins Hf C->Qr (.ref D) Hf->RR (.ref D) C (.ok .next) s') :
  wpAny (model X.prog X.w) X.A (newList []) (fun acc s3=>wpAny (model X.prog X.w) X.A (newFunctionEnv scope X.env.globals (bM X.env.cells scope.names []) [] X.env.qual none .none (some X.env)) (fun cenv s4 =>
   codeAny (model X.prog X.w) X.A (.compStart (.ListComp elt (⟨tg,iter,ifs,0⟩:: rest) scope pos) 0 (.ref it) acc { cenv with scope:=relabel scope X.env }) (RR acc cenv.locals) s4) E s3) E s2:=by
 obtain ⟨W,⟨m0,w0⟩,turn⟩:=h;have ha':∀ g∈(⟨tg,iter,ifs,0⟩:Comprehension)::rest,g.is_async=0:=fun g hg=>by
  rcases O9.mp hg with rfl | hg
  ·rfl
  ·exact ha g hg
 refine wpAny_newObj_type (wpAny_newFunctionEnv B.cell (by intro y hy;simp at hy) (fun h1 hns hsb=>?_) B.kind)
 dsimp only at hns hsb ⊢;generalize eG:s2.heap.push { cls:=.type "list",dict:=none,data:=.seq ([]:List Value).toArray }=G at hns hsb ⊢;have hC:G.objs.size=s2.heap.objs.size + 1:=by rw [<- eG,Heap.size_push]
 have hDC:s2.heap.objs.size≠G.objs.size:=by rw [hC];exact OD (Nat.lt_succ_self _)
 have hCle:s2.heap.objs.size<=G.objs.size:=by rw [hC];exact Nat.le_succ _
 have old:∀ b o,s2.heap.get? b=some o->h1.get? b=some o:=fun b o e=>by
  have lt:=OB e;exact hsb.extBut b o (OD (OL lt hCle)) (OF _ (eG ▸ OF _ e))
 have hacc:h1.get? s2.heap.objs.size=some (dO [] 0):=hsb.extBut _ _ hDC (OF _ (eG ▸ Of _ rfl));have ft:∀ b∈fp,b < s2.heap.objs.size:=fun b hb=>by
  obtain ⟨o,e,_⟩:=T.obj _ _ st2 b hb;exact OB e
 have cD:∀ y c,(X.block scope G.objs.size NB s2 H2 fp).env.cells.lookup y=some c->c≠s2.heap.objs.size:=fun y c e z=>by
  obtain ⟨w,q⟩:=I2.cell y c (B.look I2 e);exact Nat.lt_irrefl _ (z ▸ q.lt)
 have loop:∀ s3:Shared,s3={ s2 with heap:=h1,toks:=s2.toks + ([]:List (Str×Value)).length } ->
   codeAny (model X.prog X.w) X.A (.compLoop (.ListComp elt (⟨tg,iter,ifs,0⟩:: rest) scope pos) 0 (.ref it) (.ref s2.heap.objs.size) (compEnvC scope (bM X.env.cells scope.names []) G.objs.size X.env))
    (RR (.ref s2.heap.objs.size) G.objs.size) s3:=by
  rintro s3 rfl;have I3:=zX (tk:=s2.toks + ([]:List (Str×Value)).length) B I2 hCle (O5 _) hDC f2 ft old hns hacc (fun v q=>by cases q)
  have st3:tn 0 h1:=T.keep _ _ _ st2 fun b _ o e=>old b o e
  have fy:∀ {H':Hp}{oD:Obj},(∀ b∈fp,H' b=none)->∀ b∈fp,dS (X.block scope G.objs.size NB s2 H2 fp) [(s2.heap.objs.size,oD)] H' b:=fun {H' oD} hn b hb=>by
   refine ⟨hn b hb,OD (OL (ft b hb) hCle),fun z=>?_,.inl hb,fun y c e=>(f2 b hb).2.2.2.2.1 y c (B.look I2 e),fun p hp=>?_⟩
   ·rcases O9.mp (I2.iL b z) with e | e
    ·exact (f2 b hb).2.1 e
    ·exact (f2 b hb).2.2.1 e
   ·have e:p=(s2.heap.objs.size,oD):=by simpa [Cx.block] using hp
    subst e;exact Ne.symm (OD (ft b hb))
  refine rA (k:=0) rfl ha' (fun n s'=>∃ i ys its nn σ' H',W i n ys σ' H'/\Inv (X.block scope G.objs.size NB s2 H2 fp) [(s2.heap.objs.size,dO its nn)] σ' H' s'/\tn i s'.heap/\(∀ b∈fp,H' b=none)/\Vals ys its/\ys.length<=sizeLine)
   ?_ m0 ⟨0,[],[],0,_,H2,w0,I3,st3,fun b hb=>(f2 b hb).1,.nil,Nat.zero_le _⟩
  rintro n s' ⟨i,ys,its,nn,σ',H',w',I',st',fr',rv,hz⟩;rcases turn i n ys σ' H' w' with ⟨stop,q⟩ | ⟨go,Nx,hNx,step⟩
  ·refine wpAny_mono (T.done (X.block scope G.objs.size NB s2 H2 fp) rfl rfl rfl hc i _ s' _ H' (fun _ _=>False) I' (fy fr') st' stop) (fun r s4 ⟨hr',I4⟩=>?_) fun _ _ z=>z.elim
   subst hr';have I5:=BS I2 f2 (O5 _) I4 rv hz;obtain ⟨m4,hn4,_⟩:=I4.loc;have hfree:H' s2.heap.objs.size=none:=(I4.pin (s2.heap.objs.size,dO its nn) (by show _∈[]++[(s2.heap.objs.size,dO its nn)];simp)).2.1
   have fC:dS X pins (upd H' s2.heap.objs.size (.lst ys)) G.objs.size:=I2.nL hCle (by
    rw [ai (Ne.symm hDC)];exact I4.free)
   exact hRR _ _ _ s4 m4 I5 hn4 fC (q _ hfree)
  ·refine wpAny_mono (T.item (X.block scope G.objs.size NB s2 H2 fp) rfl rfl rfl hc i _ s' _ H' (fun _ _=>False) I' (fy fr') st' go) (fun r s4 ⟨u,hr',h4⟩=>?_) fun _ _ z=>z.elim
   subst hr';refine wpAny_mono h4 (fun _ s4 ⟨v,H5,I5,r5,y5,st5,fr5⟩=>?_) fun _ _ z=>z.elim
   have pIt:∀ b∈fp,∃ o,s4.heap.get? b=some o/\∀ v,o.data≠.cell v:=T.obj _ _ st5;have I5':=I5.pinned (fy fr5) pIt;refine wpAny_mono (hg _ _ _ _ _ s4 σ' H5 v u _ I5' r5 (step v H5 y5)) (fun _ s6 ⟨σ6,H6,I6,q6⟩=>?_) fun _ _ z=>z.elim
   refine wpAny_mono (ht _ _ _ _ _ s6 σ6 H6 _ I6 q6) (fun b s7 ⟨H7,I7,q7⟩=>?_) fun _ _ z=>z.elim
   have stays:∀ {s9:Shared}{H9:Hp}{σ9:St}{oD:Obj},Inv (X.block scope G.objs.size NB s2 H2 fp) ((s2.heap.objs.size,oD)::fS fp s4.heap) σ9 H9 s9->tn (i + 1) s9.heap/\(∀ b∈fp,H9 b=none)/\Inv (X.block scope G.objs.size NB s2 H2 fp) [(s2.heap.objs.size,oD)] σ9 H9 s9:=fun {s9 H9 σ9 oD} I9=>by
    refine ⟨T.keep _ _ _ st5 fun b hb o e=>(I9.pin (b,o) (List.mem_append_right _ (O6 _ (fB hb e)))).1,fun b hb=>?_,I9.jr fun p hp'=>I9.pin p (List.mem_append_right _ ?_)⟩
    ·obtain ⟨o,e,d⟩:=pIt b hb;exact (I9.pin (b,o) (List.mem_append_right _ (O6 _ (fB hb e)))).2.1
    ·rw [O8.mp hp'];exact N9
   cases b with
   | false =>
    rw [if_neg ON] at q7 ⊢;obtain ⟨m',hm,w7⟩:=hNx _ _ _ q7;obtain ⟨g1,g2,g3⟩:=stays I7;exact ⟨m',hm,i + 1,ys,its,nn,σ6,H7,w7,g3,g1,g2,rv,hz⟩
   | true =>
    rw [if_pos rfl] at q7 ⊢;intro fin' Qf' hf';refine hr _ _ _ _ s2.heap.objs.size (O5 _) cD (fun _ _ z=>z) (fS fp s4.heap) s7 σ6 H7 ys its nn Nx fin' Qf' _ (fun p hp'=>?_) I7 rv hz q7 fun s8 ys8 its8 nn8 σ8 H8 I8 rv8 hz8 n8=>?_
    ·have hp'':p∈fS fp s4.heap:=hp';exact OD (ft _ (nP hp'').1)
    ·obtain ⟨m',hm,w8⟩:=hNx _ _ _ n8;obtain ⟨g1,g2,g3⟩:=stays I8;exact hf' s8 ⟨m',hm,i + 1,ys8,its8,nn8,σ8,H8,w8,g3,g1,g2,rv8,hz8⟩
 exact codeAny_compStart_list (loop _ rfl) (T.self _ 0 _ _ _ (T.keep _ _ _ st2 fun b _ o e=>old b o e) (loop _ rfl))
def Et {elt tg iter:Expr}{ifs:List Expr}{rest:List Comprehension}{pos:Pos}{wi:TI}{g:TG}{tt:TT}{tr:TL}(B:cB X scope vs NB ix)(hc:X.calm=true)(hi:PI X tg iter wi)
  (hg:∀ (C:Addr)(s:Shared)(H:Hp)(fp:List Addr),PG (X.block scope C NB s H fp) tg g)(ht:∀ (C:Addr)(s:Shared)(H:Hp)(fp:List Addr),ng (X.block scope C NB s H fp) ifs tt)
  (hr:∀ (C:Addr)(s:Shared)(H:Hp)(fp:List Addr)(D:Addr),PL (X.block scope C NB s H fp) D elt (⟨tg,iter,ifs,0⟩:: rest) scope pos 1 tr)
  (ha:∀ g∈rest,g.is_async=0:=by decide)(hs:∀ v,foldedSetIterable iter X.env v=pure v:=by intro _;rfl):PE X (.ListComp elt (⟨tg,iter,ifs,0⟩:: rest) scope pos) (lH wi vs.length ix g tt tr):=by
 intro pins s σ H Q I h;rw [eval_ListComp];refine wpAny_comprehension_free (use:=none) rfl hs (B.clos I) B.kind B.names (aF (hi pins s σ H _ I h) fun v s1 h1=>aF h1 fun itv s2 h2=>?_)
 obtain ⟨it,fp,tn,J,H2,e,I2,T,st2,f2,w⟩:=h2;subst e;refine qN (Qr:=Q) (RR:=fun acc C=>compPost (model X.prog X.w) X.A X.xe none (EP X pins σ Q) acc C) B hc hg ht hr ha I2 T st2 f2 w fun D C Hf s' m' I' hn' fC q=>?_
 refine ⟨m',hn',fun h'' hs''=>⟨.ref D,Hf,?_,rfl,q⟩⟩
 obtain ⟨c0,c1,c2,c3,c4,c5⟩:=fC;exact I'.turned (it:=C) (t':=s'.toks) (fun b o hb e=>hs''.extBut b o hb e) c0 c1 c3 c4 c5
def uT {elt tg iter:Expr}{ifs:List Expr}{rest:List Comprehension}{pos py spos:Pos}{wi:TI}{g:TG}{tt:TT}{tr:TL}{j:Nat}{y:Str}(hN:X.N.Nodup)(hj:X.N[j]?=some y)(hy:X.env.scope.names.lookup y=some .local)(B:cB X scope vs NB ix)(hc:X.calm=true)(hi:PI X tg iter wi)
  (hg:∀ (C:Addr)(s:Shared)(H:Hp)(fp:List Addr),PG (X.block scope C NB s H fp) tg g)(ht:∀ (C:Addr)(s:Shared)(H:Hp)(fp:List Addr),ng (X.block scope C NB s H fp) ifs tt)
  (hr:∀ (C:Addr)(s:Shared)(H:Hp)(fp:List Addr)(D:Addr),PL (X.block scope C NB s H fp) D elt (⟨tg,iter,ifs,0⟩:: rest) scope pos 1 tr)
  (hsw:swapsWith (.ListComp elt (⟨tg,iter,ifs,0⟩:: rest) scope pos) (some (.Name y py)) spos.line X.env=pure true)
  (ha:∀ g∈rest,g.is_async=0:=by decide)(hs:∀ v,foldedSetIterable iter X.env v=pure v:=by intro _;rfl):PS X (.Assign [.Name y py] (.ListComp elt (⟨tg,iter,ifs,0⟩:: rest) scope pos) spos) (EL (lH wi vs.length ix g tt tr) (oi j)):=by
 intro pins s σ H Dn I h;rw [exec_Assign_Name_used _ _ _ _ hsw];refine N8 (wpAny_standAt (N8 ?_));show wpAny (model X.prog X.w) X.A (comprehension (.ListComp elt (⟨tg,iter,ifs,0⟩:: rest) scope pos) scope X.env _ (newList []) false (eval iter X.env) (some (assign (.Name y py) X.env)) >>= fun _=>pure ()) _ _ s
 refine N8 (aF (wpAny_comprehension_free (use:=some (assign (.Name y py) X.env)) (Q:=fun _ s'=>SP X pins Dn .next s') rfl hs (B.clos I) B.kind B.names (aF (hi pins s σ H _ I h) fun v s1 h1=>aF h1 fun itv s2 h2=>?_)) fun _ s' q=>O0 (O0 q))
 obtain ⟨it,fp,tn,J,H2,e,I2,T,st2,f2,w⟩:=h2;subst e;refine qN (Qr:=fun x H1=>oi j x σ H1 Dn.nx) (RR:=fun acc C=>compPost (model X.prog X.w) X.A X.xe (some (assign (.Name y py) X.env)) (fun _ s'=>SP X pins Dn .next s') acc C) B hc hg ht hr ha I2 T st2 f2 w fun D C Hf s' m' I' hn' fC q=>?_
 obtain ⟨c0,c1,c2,c3,c4,c5⟩:=fC;show wpAny (model X.prog X.w) X.A (assign (.Name y py) X.env (.ref D)) _ _ s';refine wpAny_assign_Name (tO I' hN hj (.inl hy) (v:=.ref D) rfl (fun s'' I'' ⟨a,sb,ha⟩=>?_) (.inr hy))
 have hCa:C≠a:=by
  rcases ha with e | e
  ·rw [e];exact c1
  ·exact fun z=>c4 y a e z.symm
 refine ⟨m',hn'.sameBut sb hCa,fun h3 hs3=>⟨_,Hf,?_,q⟩⟩
 exact I''.turned (it:=C) (t':=s''.toks) (fun b o hb e=>hs3.extBut b o hb e) c0 c1 c3 c4 c5
end
end L2
namespace Dv
open PySem L2 PySem.W
section
variable {X:Cx}{Ex:XK}{π:List Nat}{tg:Expr}
def DF {K:Frag}{a:Addr}{xs:List V}{ds:List PyData}{cY:Hp}(h:b9 K cY a xs)(r:au K cY xs ds):sI K (FH K a) ds cY:=by
 intro i H Hm s1 s2;have q:bI K H a xs:=(b9.mono (s1.trans s2) h).sq;refine ⟨fun d e=>?_,fun l=>⟨xs,q,by rw [r.len];exact l⟩⟩
 obtain ⟨v,e1,r1⟩:=r.get e;refine ⟨⟨xs,v,q,e1⟩,fun x H' y=>?_⟩
 obtain ⟨rfl,y⟩:=y;have:=y xs q;rw [e1] at this;cases this;exact ⟨Hm,af.refl _,s2,af.refl _,fun _ _=>.inl rfl,r1.mono s1⟩
def Il {K:Frag}{a:Addr}{xs:List V}{ds:List PyData}{cY:Hp}(h:cY a=some (.tup xs))(r:au K cY xs ds):sI K (GI K a) ds cY:=by
 intro i H Hm s1 s2;have q:bW K H a xs:=bW.of (s2 _ _ (s1 _ _ h));refine ⟨fun d e=>?_,fun l=>⟨xs,q,by rw [r.len];exact l⟩⟩
 obtain ⟨v,e1,r1⟩:=r.get e;refine ⟨⟨xs,v,q,e1⟩,fun x H' y=>?_⟩
 obtain ⟨rfl,y⟩:=y;have:=y xs q;rw [e1] at this;cases this;exact ⟨Hm,af.refl _,s2,af.refl _,fun _ _=>.inl rfl,r1.mono s1⟩
def GR {lo:Int}{n i:Nat}{d:PyData}(h:(ji lo n)[i]?=some d):i < n/\d=.int (lo + i):=by
 unfold ji at h;rw [OG] at h
 by_cases c:i < n
 ·rw [List.getElem?_range c] at h;cases h;exact ⟨c,rfl⟩
 ·rw [List.getElem?_eq_none (by rw [OP];omega)] at h
  cases h
def zg {K:Frag}{lo:Int}{n:Nat}{cY:Hp}:sI K (CS lo n) (ji lo n) cY:=by
 intro i H Hm s1 s2;refine ⟨fun d e=>?_,fun l=>?_⟩
 ·obtain ⟨l,rfl⟩:=GR e;refine ⟨l,fun x H' y=>?_⟩
  obtain ⟨rfl,rfl⟩:=y;exact ⟨Hm,af.refl _,s2,af.refl _,fun _ _=>.inl rfl,.int _⟩
 ·unfold ji at l;rw [O7,OP] at l;exact l
def xE {K:Frag}{H Hm:Hp}{T:Addr}{x y:V}{a b:PyData}(s:af Hm H)(hT:H T=none)(r1:Rp K Hm x a)(r2:Rp K Hm y b):∃ Hm',af Hm Hm'/\af Hm' (upd H T (.tup [x,y]))/\af H (upd H T (.tup [x,y]))/\(∀ a,H a≠none->OE (Hm' a) (Hm a))/\Rp K Hm' (.ref T) (.tuple [a,b]):=by
 have n:=iK s hT;have s2:=bA (o:=.tup [x,y]) n;refine ⟨upd Hm T (.tup [x,y]),s2,fun b o e=>?_,bA hT,fun a ha=>.inl (ai fun z=>ha (z ▸ hT)),.tup aq (.cons (r1.mono s2) (.cons (r2.mono s2) .nil))⟩
 by_cases c:b=T
 ·rw [c,aq] at e ⊢;exact e
 ·rw [ai c] at e ⊢;exact s _ _ e
def C8 {ds:List PyData}{i:Nat}{d:PyData}(h:(iG ds)[i]?=some d):∃ e,ds[i]?=some e/\d=.tuple [.int i,e]:=by
 unfold iG at h;rw [OG,List.getElem?_zipIdx] at h;cases e:ds[i]? with
 | none=>rw [e] at h;cases h
 | some a =>
  rw [e] at h;simp at h;exact ⟨a,rfl,h.symm⟩
def Bl (ds:List PyData):(iG ds).length=ds.length:=by unfold iG;rw [O7,List.length_zipIdx]
def Em {K:Frag}{a:Addr}{xs:List V}{ds:List PyData}{cY:Hp}(h:b9 K cY a xs)(r:au K cY xs ds):sI K (Jw K a) (iG ds) cY:=by
 intro i H Hm s1 s2;have q:bI K H a xs:=(b9.mono (s1.trans s2) h).sq;refine ⟨fun d e=>?_,fun l=>⟨xs,q,by rw [r.len,<- Bl];exact l⟩⟩
 obtain ⟨d0,e0,rfl⟩:=C8 e;obtain ⟨v,e1,r1⟩:=r.get e0;refine ⟨⟨xs,v,q,e1⟩,fun x H' y=>?_⟩
 obtain ⟨T,hT,rfl,y⟩:=y;obtain ⟨x',e2,rfl⟩:=y xs q;rw [e1] at e2;cases e2;exact xE s2 hT (.int _) (r1.mono s1)
open PyProof.Rows in
def GO {pins:List (Addr×Obj)}{σ:L2.St}{H:Hp}{s:Shared}{R:It->Hp->Prop}{E:Value->Shared->Prop}{a:Addr}{xs:List V}(I:Inv X pins σ H s)(hq:bI X.K H a xs)(q:R (FH X.K a) H):wpAny (model X.prog X.w) X.A (pyIter (.ref a)) (Gg X pins σ tg R) E s:=by
 obtain ⟨its,rv,p,hz⟩:=I.list hq;refine wpAny_pyIter_list p.isList ?_;refine ⟨s.heap.objs.size,[s.heap.objs.size],_,_,H,rfl,I.kept (t':=s.toks) fun b o e=>OF _ e,Ci a _,⟨_,Of _ rfl,rfl,rfl⟩,fun b hb=>?_,q⟩
 have e:b=s.heap.objs.size:=by simpa using hb
 subst e;exact I.nL (O5 _) (I.hok.fresh (O5 _))
open PyProof.Rows in
def Jc {pins:List (Addr×Obj)}{σ:L2.St}{H:Hp}{s:Shared}{R:It->Hp->Prop}{E:Value->Shared->Prop}{a:Addr}{xs:List V}(I:Inv X pins σ H s)(hq:bW X.K H a xs)(q:R (GI X.K a) H):wpAny (model X.prog X.w) X.A (pyIter (.ref a)) (Gg X pins σ tg R) E s:=by
 obtain ⟨its,rv,p,hz⟩:=I.tuple hq;refine wpAny_pyIter_tuple (show s.heap.IsTuple a its.toArray from p) ?_
 refine ⟨s.heap.objs.size,[s.heap.objs.size],_,_,H,rfl,I.kept (t':=s.toks) fun b o e=>OF _ e,An a _,⟨_,Of _ rfl,rfl,rfl⟩,fun b hb=>?_,q⟩
 have e:b=s.heap.objs.size:=by simpa using hb
 subst e;exact I.nL (O5 _) (I.hok.fresh (O5 _))
def dM {e:Expr}{d:DE}(h:SE X Ex π e d):SI X Ex π tg e (iE d):=by
 refine ⟨fun σ H R=>WE X e σ H fun x H1=>(∃ a,x=.ref a/\(∃ xs,bI X.K H1 a xs)/\R (FH X.K a) H1)\/∃ a,x=.ref a/\(∃ xs,bW X.K H1 a xs)/\R (GI X.K a) H1,?_,?_⟩
 ·intro pins s σ H R I h;refine aF (h pins s I) fun v s1 ⟨x,H1,I1,r1,q1⟩=>?_
  rcases q1 with ⟨a,rfl,⟨xs,hq⟩,q⟩ | ⟨a,rfl,⟨xs,hq⟩,q⟩
  ·cases r1;exact GO I1 hq q
  ·cases r1;exact Jc I1 hq q
 ·intro g x E σ H Hm F P R hx Rl p q;refine h g x E σ H Hm F _ _ hx Rl p fun E' k v u H' Hm' F' fp p' R' s' T=>?_
  obtain ⟨hk,ds,e1,p'⟩:=p';obtain ⟨Hm2,s2,R2,r2⟩:=T.bY R' hk;cases r2 with
  | lst a r =>
   cases e1;exact .inl ⟨_,rfl,⟨_,(b9.mono R2.sub a).sq⟩,q _ _ _ _ _ _ p' R2 (s'.trans s2) (DF a r)⟩
  | tup a r =>
   cases e1;exact .inr ⟨_,rfl,⟨_,bW.of (R2.sub _ _ a)⟩,q _ _ _ _ _ _ p' R2 (s'.trans s2) (Il a r)⟩
  | _=>cases e1
def pC:List PyData->Option (List PyData)
 | [.int j]=>if -(2 ^ 62)<=j/\j < 2 ^ 62 then some (ji 0 j.toNat) else none
 | _=>none
def Bw:List PyData->Option (List PyData)
 | [.int i,.int j]=>if -(2 ^ 62)<=i/\i < 2 ^ 62/\-(2 ^ 62)<=j/\j < 2 ^ 62 then some (ji i (j - i).toNat) else none
 | _=>none
def uX {g:Gh}{σ:St}{E:En}{H Hm:Hp}{F:Nat->List Addr}{as:List Arg}{os:List (Option PyData)}{vs:List V}{ds:List PyData}{K:Frag}(R:Rl K g E σ H Hm F)(G:Got K σ Hm as os vs)(h:fill as E os=some ds):au K H vs ds:=jt R R.sub G h fun _ _ _ _=>rfl
def MM {a:Expr}{p pos:Pos}{as:List Arg}(hg:Gl X "range")(hm:X.mg "range"=none)(ns:noStar a=true)(S:aL X Ex π [a] as):SI X Ex π tg (.Call (.Name "range" p) [a] [] pos) (ku pC as):=by
 refine ⟨_,Cq hg hm (dF (es:=[a]) (by rw [OH,ns];rfl)) (aS ns),fun g x E σ H Hm F P R hx Rl p q=>?_⟩
 refine jL hx S Rl p fun E1 os vs H1 Hm1 F1 p1 R1 s1 G=>?_
 obtain ⟨ds,xs,hf,hg',p1⟩:=p1;have r:=uX R1 G hf;unfold pC at hg';split at hg'
 ·rename_i j;obtain ⟨v,rfl,r1⟩:=c7 r;cases r1;split at hg'
  ·rename_i c;cases hg';exact ⟨j,rfl,c.1,c.2,q _ _ _ _ _ _ p1 R1 s1 zg⟩
  ·cases hg'
 ·cases hg'
def MJ {a b:Expr}{p pos:Pos}{as:List Arg}(hg:Gl X "range")(hm:X.mg "range"=none)(ns:noStar a=true)(ns2:noStar b=true)(S:aL X Ex π [a,b] as):SI X Ex π tg (.Call (.Name "range" p) [a,b] [] pos) (ku Bw as):=by
 refine ⟨_,CF hg hm (dF (es:=[a,b]) (by rw [OH,OH,ns,ns2];rfl)) ((aS ns).trans (by rw [aS ns2];rfl)) (aS ns2),fun g x E σ H Hm F P R hx Rl p q=>?_⟩
 refine jL hx S Rl p fun E1 os vs H1 Hm1 F1 p1 R1 s1 G=>?_
 obtain ⟨ds,xs,hf,hg',p1⟩:=p1;have r:=uX R1 G hf;unfold Bw at hg';split at hg'
 ·rename_i i j;obtain ⟨v,w,rfl,r1,r2⟩:=cP r;cases r1;cases r2;split at hg'
  ·rename_i c;cases hg';exact ⟨i,j,rfl,c,q _ _ _ _ _ _ p1 R1 s1 zg⟩
  ·cases hg'
 ·cases hg'
def Mf {elts:List Expr}{x1:Nat}{tp p pos:Pos}{e:Expr}{d:DE}(hg:Gl X "enumerate")(hm:X.mg "enumerate"=none)(ns:noStar e=true)(h:SE X Ex π e d):SI X Ex π (.Tuple elts x1 tp) (.Call (.Name "enumerate" p) [e] [] pos) (yL d):=by
 refine ⟨_,Ii hg hm (dF (es:=[e]) (by rw [OH,ns];rfl)) (aS ns),fun g x E σ H Hm F P R hx Rl p q=>?_⟩
 refine h g x E σ H Hm F _ _ hx Rl p fun E' k v u H' Hm' F' fp p' R' s' T=>?_
 obtain ⟨hk,ds,rfl,p'⟩:=p';obtain ⟨Hm2,s2,R2,r2⟩:=T.bY R' hk;obtain ⟨a,xs,rfl,ha,r⟩:=ie r2;exact ⟨a,rfl,⟨xs,(b9.mono R2.sub ha).sq⟩,q _ _ _ _ _ _ p' R2 (s'.trans s2) (Em ha r)⟩
def Ep {ds es:List PyData}{i:Nat}{d:PyData}(h:((ds.zip es).map fun p=>PyData.tuple [p.1,p.2])[i]?=some d):∃ a b,ds[i]?=some a/\es[i]?=some b/\d=.tuple [a,b]:=by
 rw [OG] at h;cases e:(ds.zip es)[i]? with
 | none=>rw [e] at h;cases h
 | some p =>
  rw [e] at h;cases h;obtain ⟨h1,h2⟩:=List.getElem?_zip_eq_some.mp e;exact ⟨_,_,h1,h2,rfl⟩
def HR {K:Frag}{a b:Addr}{xs ys:List V}{ds es:List PyData}{cY:Hp}(h:b9 K cY a xs)(h2:b9 K cY b ys)(r:au K cY xs ds)(r2:au K cY ys es):sI K (JO K a b) ((ds.zip es).map fun p=>.tuple [p.1,p.2]) cY:=by
 intro i H Hm s1 s2;have q:bI K H a xs:=(b9.mono (s1.trans s2) h).sq;have q2:bI K H b ys:=(b9.mono (s1.trans s2) h2).sq;refine ⟨fun d e=>?_,fun l=>⟨xs,ys,q,q2,?_⟩⟩
 ·obtain ⟨d1,d2,e1,e2,rfl⟩:=Ep e;obtain ⟨v1,f1,g1⟩:=r.get e1;obtain ⟨v2,f2,g2⟩:=r2.get e2;refine ⟨⟨xs,ys,v1,v2,q,q2,f1,f2⟩,fun x H' y=>?_⟩
  obtain ⟨T,hT,rfl,y⟩:=y;obtain ⟨x1,z1,hx,hz2,rfl⟩:=y xs ys q q2;rw [f1] at hx;cases hx;rw [f2] at hz2;cases hz2;exact xE s2 hT (g1.mono s1) (g2.mono s1)
 ·rw [O7,List.length_zip] at l;have:=r.len;have:=r2.len;omega
def Mr {elts:List Expr}{x1:Nat}{tp p pos:Pos}{e1 e2:Expr}{d1 d2:DE}(hg:Gl X "zip")(hm:X.mg "zip"=none)(ns:noStar e1=true)(ns2:noStar e2=true)(h1:SE X Ex π e1 d1)(h2:SE X Ex π e2 d2):SI X Ex π (.Tuple elts x1 tp) (.Call (.Name "zip" p) [e1,e2] [] pos) (yz d1 d2):=by
 refine ⟨_,KC hg hm (dF (es:=[e1,e2]) (by rw [OH,OH,ns,ns2];rfl)) ((aS ns).trans (by rw [aS ns2];rfl)) (aS ns2),fun g x E σ H Hm F P R hx Rl p q=>?_⟩
 refine h1 g x E σ H Hm F _ _ hx Rl p fun E1 k v u H1 Hm1 F1 fp p1 R1 s1 T=>?_
 obtain ⟨hk,p1⟩:=p1;obtain ⟨Hm2,s2,R2,r2⟩:=T.bY R1 hk;refine h2 g x E1 σ H1 Hm2 F1 _ _ hx R2 p1 fun E3 k3 v3 u3 H3 Hm3 F3 fp3 p3 R3 s3 T3=>?_
 obtain ⟨hk3,ds,es,rfl,rfl,p3⟩:=p3;obtain ⟨Hm4,s4,R4,r4⟩:=T3.bY R3 hk3;have r2':=r2.mono (s3.trans s4);obtain ⟨a,xs,rfl,ha,ra⟩:=ie r2';obtain ⟨b,ys,rfl,hb,rb⟩:=ie r4;exact ⟨a,b,rfl,⟨xs,(b9.mono R4.sub ha).sq⟩,⟨ys,(b9.mono R4.sub hb).sq⟩,q _ _ _ _ _ _ p3 R4 (s1.trans (s2.trans (s3.trans s4))) (HR ha hb ra rb)⟩
end
def WG (X:Cx)(tg:Expr):TG:=fun v σ H Q=>∀ (pins:List (Addr×Obj))(s:Shared)(u:Value),Inv X pins σ H s->RelV v u->wpAny (model X.prog X.w) X.A (assign tg X.env u) (fun _ s'=>∃ σ' H',Inv X pins σ' H' s'/\Q σ' H') X.xe s
def WG.of {X:Cx}{tg:Expr}{t:TG}{v:V}{σ:St}{H:Hp}{Q:St->Hp->Prop}(h:PG X tg t)(q:t v σ H Q):WG X tg v σ H Q:=fun pins s u I r=>h pins s σ H v u Q I r q
def tE (X:Cx)(ifs:List Expr):TT:=fun σ H Q=>∀ (pins:List (Addr×Obj))(s:Shared),Inv X pins σ H s->wpAny (model X.prog X.w) X.A (forIn ifs true fun c r=>if r=true then do let ok <- isTrue c X.env (eval c X.env);pure (ForInStep.yield ok) else pure (ForInStep.yield r)) (TP X pins σ Q) X.xe s
def tE.of {X:Cx}{ifs:List Expr}{t:TT}{σ:St}{H:Hp}{Q:Bool->Hp->Prop}(h:ng X ifs t)(q:t σ H Q):tE X ifs σ H Q:=fun pins s I=>h pins s σ H Q I q
def WL (X:Cx)(D:Addr)(elt:Expr)(gens:List Comprehension)(scope:Scope)(pos:Pos) (k:Nat):TL:=fun ys σ H Q =>
 X.s₀.heap.objs.size<=D->(∀ y c,X.env.cells.lookup y=some c->c≠D)->(∀ e s',X.xe e s'->False) ->
 ∀ (pins:List (Addr×Obj))(s:Shared)(its:List Value) (nn:Nat)(fin:Sem Fin)(Qf:Fin->Shared->Prop)(E:Value->Shared->Prop),
  (∀ p∈X.pn++pins,p.1≠D)->Inv X ((D,dO its nn)::pins) σ H s->Vals ys its->ys.length<=sizeLine ->
  (∀ s' ys' its' nn' σ' H',Inv X ((D,dO its' nn')::pins) σ' H' s'->Vals ys' its'->ys'.length<=sizeLine->Q ys' σ' H'->wpAny (model X.prog X.w) X.A fin Qf E s') ->
  wpAny (model X.prog X.w) X.A (iz elt gens scope pos k (.ref D) X.env fin) Qf E s
def WL.of {X:Cx}{D:Addr}{elt:Expr}{gens:List Comprehension}{scope:Scope}{pos:Pos}{k:Nat}{t:TL}{ys:List V}{σ:St}{H:Hp}{Q:List V->St->Hp->Prop}(h:PL X D elt gens scope pos k t)(q:t ys σ H Q):WL X D elt gens scope pos k ys σ H Q:=fun h1 h2 h3 pins s its nn fin Qf E hp I rv hz hf=>h h1 h2 h3 pins s σ H ys its nn Q fin Qf E hp I rv hz q hf
def Agree (cs:List Nat)(σ σ':St):Prop:=σ.length=σ'.length/\∀ j,j∉cs->σ'[j]?=σ[j]?
def Agree.refl (cs:List Nat)(σ:St):Agree cs σ σ:=⟨rfl,fun _ _=>rfl⟩
theorem Agree.trans {cs:List Nat}{a b c:St}(h:Agree cs a b)(k:Agree cs b c):Agree cs a c:=⟨h.1.trans k.1,fun j hj=>(k.2 j hj).trans (h.2 j hj)⟩
theorem Agree.symm {cs:List Nat}{a b:St}(h:Agree cs a b):Agree cs b a:=⟨h.1.symm,fun j hj=>(h.2 j hj).symm⟩
section
variable {K:Frag}{g:Gh}{E E0:En}{σ σ':St}{H Hm:Hp}{F:Nat->List Addr}
def Rl.LJ (R:Rl K g E σ H Hm F){i:Nat}(o:bP E i=true)(v:Option V):Rl K g (E.set i none) (σ.set i v) H Hm (fun j=>if j=i then [] else F j) where
 len:=by rw [List.length_set,List.length_set];exact R.len
 sub:=R.sub
 slot:=fun j k' d' e'=>by
  by_cases c:j=i
  ·subst c;rw [ay (iA o)] at e';cases e'
  ·rw [aj (Ne.symm c)] at e';obtain ⟨u,g1,g2⟩:=R.slot j k' d' e';exact ⟨u,by rw [aj (Ne.symm c)];exact g1,by rw [if_neg c];exact g2⟩
 off:=fun j a ha=>by
  by_cases c:j=i
  ·rw [if_pos c] at ha;cases ha
  ·rw [if_neg c] at ha;exact R.off j a ha
 bx:=fun j a ha=>by
  by_cases c:j=i
  ·rw [if_pos c] at ha;cases ha
  ·rw [if_neg c] at ha;exact R.bx j a ha
 aD:=fun j l a g1 g2=>by
  by_cases c:j=i
  ·rw [if_pos c] at g1;cases g1
  ·rw [if_neg c] at g1
   by_cases c':l=i
   ·rw [if_pos c'] at g2;cases g2
   ·rw [if_neg c'] at g2;exact R.aD j l a g1 g2
 fr:=R.fr
 new:=fun j a ha=>by
  by_cases c:j=i
  ·rw [if_pos c] at ha;cases ha
  ·rw [if_neg c] at ha;exact R.new j a ha
 pin:=fun q hq=>by
  obtain ⟨g1,ds',g2⟩:=R.pin q hq;have c:i≠q.1:=fun z=>by
   unfold bP at o;rw [z,g2] at o;cases o
  exact ⟨by rw [aj c];exact g1,ds',by rw [aj c];exact g2⟩
 old:=R.old
theorem Rl.aU:∀ {cs:List Nat}{E E0:En}{σ:St}{F:Nat->List Addr},Rl K g E σ H Hm F->Dv.aU cs E=some E0->∃ σ' F',Rl K g E0 σ' H Hm F'/\Agree cs σ σ'/\(∀ c∈cs,σ'[c]?=some none/\E0[c]?=some none)
 | [],E,E0,σ,F,R,h=>by
  cases h;exact ⟨σ,F,R,Agree.refl _ _,fun _ z=>by cases z⟩
 | c::cs,E,E0,σ,F,R,h=>by
  rw [Dv.aU] at h
  by_cases o:bP E c=true
  ·rw [if_pos o] at h;have R1:=R.LJ o none;obtain ⟨σ',F',R',a,n⟩:=Rl.aU (cs:=cs) R1 h;have lc:=iA o;have keep:∀ {l:List Nat}{E E0:En},Dv.aU l E=some E0->∀ j,j∉l->E0[j]?=E[j]?:=by
    intro l
    induction l with
    | nil=>intro E E0 h j _;cases h;rfl
    | cons i l ih =>
     intro E E0 h j hj;rw [Dv.aU] at h
     by_cases o:bP E i=true
     ·rw [if_pos o] at h;have ne:i≠j:=fun z=>hj (z ▸ N9)
      exact (ih h j fun z=>hj (O6 _ z)).trans (aj ne)
     ·rw [if_neg o] at h;cases h
   refine ⟨σ',F',R',⟨by rw [<- a.1,List.length_set],fun j hj=>?_⟩,fun d hd=>?_⟩
   ·have ne:c≠j:=fun z=>hj (z ▸ N9)
    exact (a.2 j fun z=>hj (O6 _ z)).trans (aj ne)
   ·by_cases m:d∈cs
    ·exact n d m
    ·have e:d=c:=(O9.mp hd).resolve_right m;subst e;exact ⟨(a.2 d m).trans (ay (R.len ▸ lc)),(keep h d m).trans (ay lc)⟩
  ·rw [if_neg o] at h;cases h
def Rl.agree (R:Rl K g E σ H Hm F){cs:List Nat}(a:Agree cs σ σ')(n:∀ c∈cs,E[c]?=some none):Rl K g E σ' H Hm F where
 len:=R.len.trans a.1
 sub:=R.sub
 slot:=fun j k d e=>by
  obtain ⟨v,h1,h2⟩:=R.slot j k d e;refine ⟨v,?_,h2⟩;rw [a.2 j fun z=>by rw [n j z] at e;cases e]
  exact h1
 off:=R.off
 bx:=R.bx
 aD:=R.aD
 fr:=R.fr
 new:=R.new
 pin:=fun q hq=>by
  obtain ⟨g1,ds',g2⟩:=R.pin q hq;refine ⟨?_,ds',g2⟩;rw [a.2 q.1 fun z=>by rw [n q.1 z] at g2;cases g2]
  exact g1
 old:=R.old
end
inductive gG (X:Cx)(Ex:XK)(π:List Nat):List Expr->DT->Prop
 | nil:gG X Ex π [] eX
 | one {e:Expr}{t:DT}:ST X Ex π e t->gG X Ex π [e] t
def gG.ok {X:Cx}{Ex:XK}{π:List Nat}{ifs:List Expr}{t:DT}(h:gG X Ex π ifs t){g:Gh}{x:XC}{E:En}{σ:St}{H Hm:Hp}{F:Nat->List Addr}{P:En->Bool->Prop}{Q:Bool->Hp->Prop}(hx:XL X Ex x g)(R:Rl X.K g E σ H Hm F)(p:t x E P)
  (q:∀ E' b H' Hm' F',P E' b->Rl X.K g E' σ H' Hm' F'->af Hm Hm'->Q b H'):tE X ifs (sel π σ) H Q:=by
 cases h with
 | nil=>exact tE.of HC (q _ _ _ _ _ p R (af.refl _))
 | one h=>exact tE.of (G6 jm) (h g x E σ H Hm F P Q hx R p q)
def SL (X:Cx)(π cs:List Nat)(D:Addr)(elt:Expr)(gens:List Comprehension)(scope:Scope)(pos:Pos) (k:Nat)(dc:DC):Prop :=
 ∀ (g:Gh)(E:En)(σ:St)(H Hm:Hp)(F:Nat->List Addr)(ys:List V)(dys:List PyData)(P:List PyData->En->Prop)(Q:List V->St->Hp->Prop),Rl X.K g E σ H Hm F->au X.K Hm ys dys->dc xF dys E P ->
  (∀ E' dys' ys' σ' H' Hm' F',P dys' E'->Rl X.K g E' σ' H' Hm' F'->af Hm Hm'->au X.K Hm' ys' dys'->Agree cs σ σ'->Q ys' (sel π σ') H')->WL X D elt gens scope pos k ys (sel π σ) H Q
section
variable {X:Cx}{Ex:XK}{π cs:List Nat}{D:Addr}{elt tg iter:Expr}{ifs:List Expr}{gens:List Comprehension}{scope:Scope}{pos:Pos}{k:Nat}
def Ib {d:DE}(h:SE X Ex π elt d)(hk:gens[k]?=none):SL X π cs D elt gens scope pos k (cF sizeLine d):=by
 intro g E σ H Hm F ys dys P Q R r p q;refine WL.of (yQ bE hk) (h g xF E σ H Hm F _ _ XL.no R p fun E1 k1 v u H1 Hm1 F1 fp p1 R1 s1 T=>?_)
 obtain ⟨hk,hl,p1⟩:=p1;obtain ⟨Hm2,s2,R2,r2⟩:=T.bY R1 hk;exact ⟨by rw [r.len];exact hl,q _ _ _ _ _ _ _ p1 R2 (s1.trans s2) ((r.mono (s1.trans s2)).snoc r2) (Agree.refl _ _)⟩
def wH {J:It}{xs:List PyData}{g:Gh}{t:Tg}{c:DT}{r:DC}{G:TG}{tt:TT}{tr:TL}{I:Nat->List PyData->En->Prop}{E1:En}{σ:St}{H1 Hm1:Hp}{F1:Nat->List Addr}{ys:List V}{dys:List PyData}{Q:List V->St->Hp->Prop}{K:Frag}
  (hts:∀ i∈t.slots,i∈cs)(it1:sI K J xs Hm1)(R1:Rl K g E1 σ H1 Hm1 F1)(r0:au K Hm1 ys dys)(i0:I 0 dys E1)
  (hG:∀ {d:PyData}{v:V}{E E2:En}{σ:St}{H Hm:Hp}{F:Nat->List Addr}{Q:St->Hp->Prop},b7 t d E=some E2->Rp K Hm v d->Rl K g E σ H Hm F->(∀ σ' F',Rl K g E2 σ' H Hm F'->(∀ j,j∉t.slots->σ'[j]?=σ[j]?)->Q (sel π σ') H)->G v (sel π σ) H Q)
  (hT:∀ {E:En}{σ:St}{H Hm:Hp}{F:Nat->List Addr}{P:En->Bool->Prop}{Q:Bool->Hp->Prop},Rl K g E σ H Hm F->c xF E P->(∀ E' b H' Hm' F',P E' b->Rl K g E' σ H' Hm' F'->af Hm Hm'->Q b H')->tt (sel π σ) H Q)
  (hR:∀ {E:En}{σ:St}{H Hm:Hp}{F:Nat->List Addr}{ys:List V}{dys:List PyData}{P:List PyData->En->Prop}{Q:List V->St->Hp->Prop},Rl K g E σ H Hm F->au K Hm ys dys->r xF dys E P->(∀ E' dys' ys' σ' H' Hm' F',P dys' E'->Rl K g E' σ' H' Hm' F'->af Hm Hm'->au K Hm' ys' dys'->Agree cs σ σ'->Q ys' (sel π σ') H')->tr ys (sel π σ) H Q)
  (step:∀ i d ys E,xs[i]?=some d->I i ys E->∃ E2,b7 t d E=some E2/\c xF E2 fun E3 b=>if b=true then r xF ys E3 (I (i + 1)) else I (i + 1) ys E3)
  (fin:∀ E' dys' ys' σ' H' Hm' F',I xs.length dys' E'->Rl K g E' σ' H' Hm' F'->af Hm1 Hm'->au K Hm' ys' dys'->Agree cs σ σ'->Q ys' (sel π σ') H'):z6 J G tt tr ys (sel π σ) H1 Q:=by
 refine ⟨fun i m ys τ H'=>m=xs.length - i/\i<=xs.length/\∃ E' dys' σ' Hm' F',I i dys' E'/\Rl K g E' σ' H' Hm' F'/\af Hm1 Hm'/\au K Hm' ys dys'/\Agree cs σ σ'/\τ=sel π σ',⟨xs.length,by simp,Nat.zero_le _,E1,dys,σ,Hm1,F1,i0,R1,af.refl _,r0,Agree.refl _ _,rfl⟩,?_⟩
 rintro i m ys τ H2 ⟨rfl,hi,E2,dys2,σ2,Hm2,F2,i2,R2,s2,r2,a2,rfl⟩;obtain ⟨go,stop⟩:=it1 i H2 Hm2 s2 R2.sub
 by_cases c':i < xs.length
 ·obtain ⟨go,oN⟩:=go xs[i] (OQ c');refine .inr ⟨go,fun ys τ H'=>i + 1<=xs.length/\∃ E' dys' σ' Hm' F',I (i + 1) dys' E'/\Rl K g E' σ' H' Hm' F'/\af Hm1 Hm'/\au K Hm' ys dys'/\Agree cs σ σ'/\τ=sel π σ',fun ys τ H' z=>⟨xs.length - (i + 1),by omega,rfl,z⟩,fun x H3 y=>?_⟩
  obtain ⟨Hm3,t1,t2,t3,old,rx⟩:=oN x H3 y;have R3:=R2.turn t1 t2 t3 old;obtain ⟨E4,e4,p4⟩:=step i xs[i] dys2 E2 (OQ c') i2;refine hG e4 rx R3 fun σ4 F4 R4 ag=>?_
  have a4:Agree cs σ σ4:=a2.trans ⟨by rw [<- R3.len,<- R4.len];exact (show E2.length=E4.length from R3.len.trans (by
   have h1:=R3.len;have h2:=R4.len;have:E4.length=E2.length:=by
    have go:∀ {is:List Nat}{ds:List PyData}{E E':En},bQ is ds E=some E'->E'.length=E.length:=by
     intro is
     induction is with
     | nil=>intro ds E E' h;cases ds with | nil=>cases h;rfl | cons _ _=>cases h
     | cons j is ih =>
      intro ds E E' h;cases ds with
      | nil=>cases h
      | cons d ds =>
       rw [bQ] at h
       by_cases o:bP E j=true
       ·rw [if_pos o] at h;rw [ih h,List.length_set]
       ·rw [if_neg o] at h;cases h
    cases t with
    | nm j=>exact go (is:=[j]) e4
    | tp js =>
     cases hd:xs[i] with
     | tuple ds=>rw [hd] at e4;exact go (is:=js) e4
     | _=>rw [hd] at e4;cases e4
   omega)),fun j hj=>ag j fun z=>hj (hts j z)⟩
  refine hT R4 p4 fun E5 b H5 Hm5 F5 p5 R5 s5=>?_
  cases b with
  | true =>
   refine rZ (hR R5 (r2.mono (t1.trans s5)) (by simpa using p5) fun E6 dys6 ys6 σ6 H6 Hm6 F6 p6 R6 s6 r6 a6=>?_)
   exact ⟨c',E6,dys6,σ6,Hm6,F6,p6,R6,s2.trans (t1.trans (s5.trans s6)),r6,a4.trans a6,rfl⟩
  | false=>exact rW ⟨c',E5,dys2,σ4,Hm5,F5,by simpa using p5,R5,s2.trans (t1.trans s5),r2.mono (t1.trans s5),a4,rfl⟩
 ·have e:i=xs.length:=by omega
  subst e;exact .inl ⟨stop (O5 _),fin _ _ _ _ _ _ _ i2 R2 s2 r2 a2⟩
def DH {ix:List Nat}{σ:St}:caps ix (sel π σ)=ix.map fun i=>(((π[i]?).map fun m=>(σ[m]?).join)).join:=by
 unfold caps sel;refine List.map_congr_left fun i _=>?_
 rw [OG]
def br (π cs ix:List Nat):List Nat:=cs++ix.map fun i=>(π[i]?).getD 0
def sD {ix:List Nat}{σ σ0:St}(hix:∀ i∈ix,i < π.length)(aD:∀ c∈cs,c∉π)(a:Agree cs σ σ0)(n:∀ c∈cs,σ0[c]?=some none):List.replicate cs.length none++caps ix (sel π σ)=sel (br π cs ix) σ0:=by
 unfold br;rw [DH];unfold sel;rw [List.map_append,List.map_map];congr 1
 ·refine (List.eq_replicate_iff.mpr ⟨O7 ..,fun x hx=>?_⟩).symm
  obtain ⟨c,hc,rfl⟩:=OI.mp hx;rw [n c hc];rfl
 ·refine List.map_congr_left fun i hi=>?_
  have l:=hix i hi;show ((π[i]?).map fun m=>(σ[m]?).join).join=(σ0[(π[i]?).getD 0]?).join
  rw [OQ l];show (σ[π[i]]?).join=(σ0[π[i]]?).join;rw [a.2 π[i] fun z=>aD _ z (List.getElem_mem l)]
def zf {rest:List Comprehension}{vs NB:List Str}{ix:List Nat}{di:DI}{t:Tg}{c:DT}{r:DC}(B:cB X scope vs NB ix)(hc:X.calm=true)(hcs:cs.length=vs.length)(hix:∀ i∈ix,i < π.length)(aD:∀ c∈cs,c∉π)(nd:(br π cs ix).Nodup)
  (hi:SI X Ex π tg iter di)(ht:∀ (C:Addr)(s:Shared)(H:Hp)(fp:List Addr),eW (X.block scope C NB s H fp) (br π cs ix) tg t)(hts:∀ i∈t.slots,i∈cs)(hif:∀ (C:Addr)(s:Shared)(H:Hp)(fp:List Addr),gG (X.block scope C NB s H fp) E0 (br π cs ix) ifs c)
  (hr:∀ (C:Addr)(s:Shared)(H:Hp)(fp:List Addr)(D:Addr),SL (X.block scope C NB s H fp) (br π cs ix) cs D elt (⟨tg,iter,ifs,0⟩:: rest) scope pos 1 r)
  (ha:∀ g∈rest,g.is_async=0)(hs:∀ v,foldedSetIterable iter X.env v=pure v){w:(V->Hp->Prop)->St->Hp->Prop}
  (hw:∀ {wi:TI}{G:TG}{tt:TT}{tr:TL}{σ:St}{H:Hp}{Q:VK},PI X tg iter wi->(∀ (C:Addr)(s:Shared)(H:Hp)(fp:List Addr),PG (X.block scope C NB s H fp) tg G)->(∀ (C:Addr)(s:Shared)(H:Hp)(fp:List Addr),ng (X.block scope C NB s H fp) ifs tt) ->
   (∀ (C:Addr)(s:Shared)(H:Hp)(fp:List Addr)(D:Addr),PL (X.block scope C NB s H fp) D elt (⟨tg,iter,ifs,0⟩:: rest) scope pos 1 tr)->lH wi vs.length ix G tt tr σ H Q->w Q σ H)
  (g:Gh)(x:XC)(E:En)(σ:St)(H Hm:Hp)(F:Nat->List Addr)(P:En->Kd->PyData->Prop)(Q:VK)(hx:XL X Ex x g)(R:Rl X.K g E σ H Hm F)(p:cu cs di t c r x E P)
  (q:∀ E' k v u H' Hm' F' fp,P E' k v->Rl X.K g E' σ H' Hm' F'->af Hm Hm'->Tm X.K g F' H' Hm' k u v fp->Q u H'):w Q (sel π σ) H:=by
 obtain ⟨wi,hpi,hwi⟩:=hi;refine hw (wi:=wi) (G:=fun v σ H Q=>∀ (C:Addr)(s:Shared)(H2:Hp)(fp:List Addr),WG (X.block scope C NB s H2 fp) tg v σ H Q) (tt:=fun σ H Q=>∀ (C:Addr)(s:Shared)(H2:Hp)(fp:List Addr),tE (X.block scope C NB s H2 fp) ifs σ H Q)
  (tr:=fun ys σ H Q=>∀ (C:Addr)(s:Shared)(H2:Hp)(fp:List Addr)(D:Addr),WL (X.block scope C NB s H2 fp) D elt (⟨tg,iter,ifs,0⟩:: rest) scope pos 1 ys σ H Q) hpi (fun C s H2 fp pins s' σ H v u Q I r h=>h C s H2 fp pins s' u I r) (fun C s H2 fp pins s' σ H Q I h=>h C s H2 fp pins s' I)
  (fun C s H2 fp D h1 h2 h3 pins s' σ H ys its nn Q fin Qf E hp I rv hz h hf=>h C s H2 fp D h1 h2 h3 pins s' its nn fin Qf E hp I rv hz hf) ?_
 refine hwi g x E σ H Hm F _ _ hx R p fun E1 xs J H1 Hm1 F1 p1 R1 s1 it1=>?_
 obtain ⟨E0',I,hcl,i0,step,fin⟩:=p1;obtain ⟨σ0,F0,R0,a0,n0⟩:=R1.aU hcl;rw [<- hcs,sD hix aD a0 fun c hc=>(n0 c hc).1]
 refine wH (cs:=cs) (t:=t) (c:=c) (r:=r) hts it1 R0 .nil i0 (fun h1 h2 h3 h4 C s H2 fp=>?_) (fun h1 h2 h3 C s H2 fp=>(hif C s H2 fp).ok XL.no h1 h2 h3) (fun h1 h2 h3 h4 C s H2 fp D=>hr C s H2 fp D g _ _ _ _ _ _ _ _ _ h1 h2 h3 h4) step fun E' dys' ys' σ' H' Hm' F' i R' s' r' a' p hp=>?_
 ·obtain ⟨G,g1,g2⟩:=q8 (X:=X.block scope C NB s H2 fp) hc B.nd nd (ht C s H2 fp);exact WG.of g1 (g2 h1 h2 h3 h4)
 ·obtain ⟨E2,hcl2,p2⟩:=fin _ _ i;obtain ⟨σ2,F2,R2,a2,n2⟩:=R'.aU hcl2;have R3:=R2.agree (cs:=cs) ((a0.trans a').trans a2).symm fun c hc=>(n2 c hc).2
  have s2:=bA (o:=.lst ys') hp;have R4:=R3.grow (H':=upd H' p (.lst ys')) s2 (af.refl _) (R3.sub.trans s2) (fun i a ha=>R3.off i a ha) fun _ _=>.inl rfl
  refine q _ _ _ _ _ Hm' F2 [p] p2 R4 (s1.trans s') ⟨.ow aq r',fun a ha=>?_,fun a ha i=>?_,fun a ha=>?_⟩
  ·rw [O8.mp ha];exact R3.jK hp
  ·rw [O8.mp ha];exact R3.fresh hp
  ·rw [O8.mp ha];exact R3.dW hp
end
end Dv
namespace L2
open PySem PySem.Spec PyProof.Rows
structure cR (X:Cx)(scope:Scope) (x:Str)(vs NB:List Str)(ix:List Nat):Prop where
 kind:scope.kind=.function
 cell:∀ y∈scope.names,y.2=.cell->y.1=x
 names:∀ y∈scope.names,y.2=.local->scope.names.lookup y.1=some .local
 free:∀ y,(y,NameKind.free)∈scope.names->(X.env.kindOf y=some .cell\/X.env.kindOf y=some .free)
 ve:(x,NameKind.free)∉scope.names
 var:scope.names.lookup x=some .cell
 nb:NB=vs++ix.map fun i=>X.N.getD i ""
 nd:NB.Nodup
 cap:∀ i∈ix,∃ y,X.N[i]?=some y/\scope.names.lookup y=some .free
 cf:∀ (n:Nat)(acc:List (Str×Addr)),cellsFrom n scope.names acc=(x,n)::acc
 pc:∀ h:Heap,pushCells h scope.names=h.push n5
section
variable {M:Model}{A:Around}{E:Value->Shared->Prop}{s:Shared}{X:Cx}{scope:Scope}{x:Str}{vs NB:List Str}{ix:List Nat}
def Nh {cl:List (Str×Addr)}{g:Addr}{ql:Str}{env:Env}{Q:Env->Shared->Prop}(B:cR X scope x vs NB ix)
  (q:Q { scope:=scope,locals:=s.heap.objs.size,globals:=g,cells:=(x,s.heap.objs.size + 1)::cl,qual:=ql,func:=none,code:=env.code,frame:=env.frame,builtins:=env.builtins } { s with heap:=(s.heap.push { cls:=.type "dict",data:=.dict #[] }).push n5 }) :
  wpAny M A (newFunctionEnv scope g cl [] ql none .none (some env)) Q E s:=by
 simp only [newFunctionEnv,Option.isSome_some,if_true];refine N8 (wpAny_alloc (?_:_))
 refine N8 (wpAny_layCells _ (fun name kind cells=>by cases hkc:kind == NameKind.cell <;> simp [hkc]) _ _ _ _ (?_:_))
 rw [B.cf,B.pc];rw [show ({ s with heap:=s.heap.push { cls:=.type "dict",data:=.dict #[] } }:Shared).heap.objs.size=s.heap.objs.size + 1 from Heap.size_push ..]
 rw [List.forIn_nil];exact N8 (O0 (O0 q))
end
section
variable {X:Cx}{scope:Scope}{x:Str}{vs NB:List Str}{ix:List Nat}{pins:List (Addr×Obj)}{σ:St}{H2:Hp}{s2:Shared}{fp:List Addr}
def cR.clos (B:cR X scope x vs NB ix)(I2:Inv X pins σ H2 s2):closureFor scope X.env=pure (bM X.env.cells scope.names []) :=
 kq fun n hn=>I2.ok.has n (B.free n hn)
def cR.look (B:cR X scope x vs NB ix)(I2:Inv X pins σ H2 s2){y:Str}{c c':Addr}(h:((x,c)::bM X.env.cells scope.names []).lookup y=some c'):(y=x/\c'=c)\/X.env.cells.lookup y=some c':=by
 rw [List.lookup_cons] at h;cases q:(y == x) with
 | true =>
  rw [q] at h;exact .inl ⟨by simpa using q,(Option.some.inj h).symm⟩
 | false =>
  rw [q] at h;rcases kJ _ _ h with ⟨m,e⟩ | e
  ·obtain ⟨c2,hc⟩:=I2.ok.has y (B.free y m);rw [hc] at e ⊢;exact .inr (congrArg some e)
  ·cases e
def cR.apart (B:cR X scope x vs NB ix)(I2:Inv X pins σ H2 s2){y:Str}{c c' b:Addr}(hc:s2.heap.objs.size<=c)(h:((x,c)::bM X.env.cells scope.names []).lookup y=some c')(hb:b < s2.heap.objs.size)(nb:∀ z d,X.env.cells.lookup z=some d->d≠b):c'≠b:=by
 rcases B.look I2 h with ⟨_,rfl⟩ | e
 ·exact Nat.ne_of_gt (OL hb hc)
 ·exact nb y c' e
def Dq (B:cR X scope x vs NB ix)(I2:Inv X pins σ H2 s2){C c:Addr}(hC:s2.heap.objs.size<=C)(hc:s2.heap.objs.size<=c)(f2:∀ b∈fp,dS X pins H2 b)(ft:∀ b∈fp,b < s2.heap.objs.size):(X.aK scope x C c NB s2 H2 fp).Ok where
 mod:=I2.ok.mod
 kind:=B.kind
 glob:=I2.ok.glob
 blt:=I2.ok.blt
 above:=hC
 inj:=fun a b d h1 h2=>by
  rcases B.look I2 h1 with ⟨e1,e2⟩ | e1 <;> rcases B.look I2 h2 with ⟨e3,e4⟩ | e3
  ·rw [e1,e3]
  ·exact absurd (OL (pZ I2 e3) (e2 ▸ hc)) (Nat.lt_irrefl _)
  ·exact absurd (OL (pZ I2 e1) (e4 ▸ hc)) (Nat.lt_irrefl _)
  ·exact I2.ok.inj a b d e1 e3
 has:=fun y hy=>by
  show ∃ d,((x,c)::bM X.env.cells scope.names []).lookup y=some d;rw [List.lookup_cons];cases q:(y == x) with
  | true=>exact ⟨c,rfl⟩
  | false =>
   have nx:y≠x:=fun z=>by rw [z,beq_self_eq_true] at q;cases q
   have key:∀ k,(relabel scope X.env).names.lookup y=some k->(k=.cell\/k=.free)->∃ d,(bM X.env.cells scope.names []).lookup y=some d:=fun k hk kk=>by
    rcases pX (names:=scope.names) hk with e | ⟨e,_⟩
    ·rcases kk with rfl | rfl
     ·exact absurd (B.cell _ (cO e) rfl) nx
     ·exact eN _ _ (.inl (cO e))
    ·exact eN _ _ (.inl (cO e))
   rcases hy with e | e
   ·exact key _ e (.inl rfl)
   ·exact key _ e (.inr rfl)
 Bv:=fun y d z e=>by
  rcases B.look I2 e with ⟨_,rfl⟩ | e
  ·exact hc
  ·have z:(y == x)=true:=z;have yx:y=x:=by simpa using z
   have h:((x,c)::bM X.env.cells scope.names []).lookup y=some d:=‹_›;rw [List.lookup_cons,z] at h;cases h;exact hc
 hd:=I2.ok.hd
 frames:=I2.ok.frames
 stk:=.inl rfl
 MT:=fun b hb=>⟨OD (OL (ft b hb) hC),fun y d e=>B.apart I2 hc e (ft b hb) (f2 b hb).2.2.2.2.1⟩
 bs:=I2.bs
 sO:=Nat.le_trans I2.ok.sO I2.sz
 rS:=fun b o e hb=>by
  rcases (f2 b hb).2.2.2.1 with z | z
  ·exact I2.ok.rS b o e z
  ·exact absurd (OL (OB (I2.ok.bs b o e).1) z) (Nat.lt_irrefl _)
 zZ:=fun b hb z=>by
  rcases O9.mp (I2.iL b z) with e | e
  ·exact (f2 b hb).2.1 e
  ·exact (f2 b hb).2.2.1 e
 jC:=I2.stack
 zA:=I2.nW
def AG (B:cR X scope x vs NB ix)(I2:Inv X pins σ H2 s2){C c D:Addr}{h1:Heap}{tk:Nat}{m:Str->Option Value}{oD:Obj}(hC:s2.heap.objs.size<=C)(hD:s2.heap.objs.size<=D)(hDC:D≠C)(hc:s2.heap.objs.size<=c)(hcc:h1.IsCell c none)(f2:∀ b∈fp,dS X pins H2 b)(ft:∀ b∈fp,b < s2.heap.objs.size)
  (old:∀ b o,s2.heap.get? b=some o->h1.get? b=some o)(hn:h1.Ns C m)(ho:h1.get? D=some oD)(hcl:∀ v,oD.data≠.cell v) :
  Inv (X.aK scope x C c NB s2 H2 fp) [(D,oD)] (List.replicate vs.length none++caps ix σ) H2 { s2 with heap:=h1,toks:=tk } where
 ok:=Dq B I2 hC hc f2 ft
 os:=rfl
 bare:=I2.bare
 base:=Un.kept old
 loc:=by
  refine ⟨m,hn,fun i y v e1 e2 _=>?_⟩
  have e1:NB[i]?=some y:=e1
  by_cases li:i < vs.length
  ·rw [List.getElem?_append_left (by rw [List.length_replicate];exact li),List.getElem?_replicate,if_pos li] at e2
   cases e2
  ·obtain ⟨j,rfl⟩:∃ j,i=vs.length + j:=⟨i - vs.length,by omega⟩
   have e2:(caps ix σ)[j]?=some (some v):=by
    rw [List.getElem?_append_right (by rw [List.length_replicate];omega),List.length_replicate,Nat.add_sub_cancel_left] at e2
    exact e2
   rw [B.nb] at e1;have e1:(ix.map fun i=>X.N.getD i "")[j]?=some y:=by
    rw [List.getElem?_append_right (by omega),Nat.add_sub_cancel_left] at e1
    exact e1
   rw [OG] at e1;unfold caps at e2;rw [OG] at e2;cases q:ix[j]? with
   | none=>rw [q] at e1;cases e1
   | some i =>
    rw [q] at e1 e2;obtain ⟨z,hz,fz⟩:=B.cap i (OO q);have ey:y=z:=by
     have w:X.N.getD i ""=y:=Option.some.inj e1;rw [<- w,List.getD_eq_getElem?_getD,hz];rfl
    subst ey;have e2:(σ[i]?).join=some v:=Option.some.inj e2;have es:σ[i]?=some (some v):=by
     cases w:σ[i]? with
     | none=>rw [w] at e2;cases e2
     | some o=>rw [w] at e2;exact congrArg some e2
    have fk:=B.free y (cO fz);have vis:gZ X.env.scope y:=.inr fk;obtain ⟨mm,_,hl⟩:=I2.loc;obtain ⟨u,ru,lk⟩:=hl i y v hz es vis;refine ⟨u,ru,.inr ⟨?_,?_⟩⟩
    ·rcases mG (env:=X.env) (names:=scope.names) fz with e | ⟨_,e⟩
     ·exact .inr e
     ·exact .inl e
    ·rcases lk with ⟨lk,_⟩ | ⟨_,d,hd,hcell⟩
     ·rcases fk with fk | fk
      ·rw [lk] at fk;cases fk
      ·rw [lk] at fk;cases fk
     ·obtain ⟨c',hc'⟩:=eN (cells:=X.env.cells) scope.names [] (.inl (cO fz));have nx:(y == x)=false:=by
       cases q:(y == x) with
       | false=>rfl
       | true =>
        have e:y=x:=by simpa using q
        exact absurd (e ▸ cO fz) B.ve
      have hc2:((x,c)::bM X.env.cells scope.names []).lookup y=some c':=by
       rw [List.lookup_cons,nx];exact hc'
      have e3:X.env.cells.lookup y=some c':=by
       rcases B.look I2 hc2 with ⟨e,_⟩ | e
       ·rw [e,beq_self_eq_true] at nx;cases nx
       ·exact e
      rw [hd] at e3;cases e3;obtain ⟨oc,g1,g2⟩:=hcell;exact ⟨d,hc2,oc,old _ _ g1,g2⟩
 cell:=fun y d e=>by
  rcases B.look I2 e with ⟨_,rfl⟩ | e
  ·exact ⟨none,hcc⟩
  ·obtain ⟨v,o,g1,g2⟩:=I2.cell y d e;exact ⟨v,o,old _ _ g1,g2⟩
 free:=I2.hok.fresh hC
 gQ:=fun y d e=>by
  rcases B.look I2 e with ⟨_,rfl⟩ | e
  ·exact I2.hok.fresh hc
  ·exact I2.gQ y d e
 pin:=fun p hp=>by
  have e:p=(D,oD):=by simpa [Cx.aK] using hp
  subst e;refine ⟨ho,I2.hok.fresh hD,hDC,fun z=>?_,hcl⟩
  rcases O9.mp (I2.iL D z) with e | e
  ·have e:D=X.env.locals:=e;exact absurd (OL I2.lt (e ▸ hD)) (Nat.lt_irrefl _)
  ·exact I2.Ef hD e
 hok:=I2.hok.kept old
 len:=by
  show (List.replicate vs.length none++caps ix σ).length=NB.length;rw [B.nb,OR,OR,vV,O7,List.length_replicate]
end
section
variable {X:Cx}{scope:Scope}{x:Str}{vs:List Str}{NB:List Str}{ix:List Nat}
def Aj {elt tg iter:Expr}{ifs:List Expr}{rest:List Comprehension}{pos:Pos}{g:TG}{tt:TT}{tr:TL}{J:It}{it:Addr}{tn:Nat->Heap->Prop}{fp:List Addr}{pins:List (Addr×Obj)}{σ:St}{H2:Hp}{s2:Shared}{E:Value->Shared->Prop}{RR:Value->Addr->Result->Shared->Prop}{Qr:VK}(B:cR X scope x vs NB ix)(hc:X.calm=true)
  (hg:∀ (C c:Addr)(s:Shared)(H:Hp)(fp:List Addr),PG (X.aK scope x C c NB s H fp) tg g)(ht:∀ (C c:Addr)(s:Shared)(H:Hp)(fp:List Addr),ng (X.aK scope x C c NB s H fp) ifs tt)
  (hr:∀ (C c:Addr)(s:Shared)(H:Hp)(fp:List Addr)(D:Addr),PL (X.aK scope x C c NB s H fp) D elt (⟨tg,iter,ifs,0⟩:: rest) scope pos 1 tr)
  (ha:∀ g∈rest,g.is_async=0)(I2:Inv X pins σ H2 s2)(T:Turn X.prog X.w X.K tg J fp it tn)(st2:tn 0 s2.heap)(f2:∀ b∈fp,dS X pins H2 b)(h:z6 J g tt tr [] (List.replicate vs.length none++caps ix σ) H2 fun ys _ H'=>∀ p,H' p=none->Qr (.ref p) (upd H' p (.lst ys)))
  (hRR:∀ (D C:Addr)(Hf:Hp)(s':Shared)(m':Str->Option Value),Inv X pins σ Hf s'->s'.heap.Ns C m'->dS X pins Hf C->Qr (.ref D) Hf->RR (.ref D) C (.ok .next) s') :
  wpAny (model X.prog X.w) X.A (newList []) (fun acc s3=>wpAny (model X.prog X.w) X.A (newFunctionEnv scope X.env.globals (bM X.env.cells scope.names []) [] X.env.qual none .none (some X.env)) (fun cenv s4 =>
   codeAny (model X.prog X.w) X.A (.compStart (.ListComp elt (⟨tg,iter,ifs,0⟩:: rest) scope pos) 0 (.ref it) acc { cenv with scope:=relabel scope X.env }) (RR acc cenv.locals) s4) E s3) E s2:=by
 obtain ⟨W,⟨m0,w0⟩,turn⟩:=h;have ha':∀ g∈(⟨tg,iter,ifs,0⟩:Comprehension)::rest,g.is_async=0:=fun g hg=>by
  rcases O9.mp hg with rfl | hg
  ·rfl
  ·exact ha g hg
 refine wpAny_newObj_type (Nh B ?_);dsimp only;generalize eG:s2.heap.push { cls:=.type "list",dict:=none,data:=.seq ([]:List Value).toArray }=G;obtain ⟨h1,eh1⟩:∃ h1,h1=(G.push { cls:=.type "dict",data:=.dict #[] }).push { cls:=.type "cell",data:=.cell none }:=⟨_,rfl⟩;rw [<- eh1];have hC:G.objs.size=s2.heap.objs.size + 1:=by rw [<- eG,Heap.size_push]
 have hDC:s2.heap.objs.size≠G.objs.size:=by rw [hC];exact OD (Nat.lt_succ_self _)
 have hCle:s2.heap.objs.size<=G.objs.size:=by rw [hC];exact Nat.le_succ _
 have up:∀ b o,G.get? b=some o->h1.get? b=some o:=fun b o e=>by
  rw [eh1];exact OF _ (OF _ e)
 have old:∀ b o,s2.heap.get? b=some o->h1.get? b=some o:=fun b o e=>up b o (eG ▸ OF _ e)
 have hacc:h1.get? s2.heap.objs.size=some (dO [] 0):=up _ _ (eG ▸ Of _ rfl);have hns:h1.Ns G.objs.size (fun _=>none):=by
  rw [eh1];exact (Heap.Ns.new G (.type "dict")).keeps fun b o e=>OF _ e
 have hcc:h1.IsCell (G.objs.size + 1) none:=by
  rw [eh1];refine ⟨n5,?_,rfl⟩;have e:=Of (G.push { cls:=.type "dict",data:=.dict #[] }) (o:=n5) rfl;rw [Heap.size_push] at e;exact e
 have hcle:s2.heap.objs.size<=G.objs.size + 1:=Nat.le_succ_of_le hCle;have ft:∀ b∈fp,b < s2.heap.objs.size:=fun b hb=>by
  obtain ⟨o,e,_⟩:=T.obj _ _ st2 b hb;exact OB e
 have cD:∀ y c,(X.aK scope x G.objs.size (G.objs.size + 1) NB s2 H2 fp).env.cells.lookup y=some c->c≠s2.heap.objs.size:=fun y c e z=>by
  rcases B.look I2 e with ⟨_,e4⟩ | e4
  ·rw [e4,hC] at z;exact absurd z (Nat.ne_of_gt (Nat.lt_succ_of_lt (Nat.lt_succ_self _)))
  ·exact Nat.lt_irrefl _ (z ▸ pZ I2 e4)
 have loop:∀ s3:Shared,s3={ s2 with heap:=h1 } ->
   codeAny (model X.prog X.w) X.A (.compLoop (.ListComp elt (⟨tg,iter,ifs,0⟩:: rest) scope pos) 0 (.ref it) (.ref s2.heap.objs.size) (compEnvC scope ((x,G.objs.size + 1)::bM X.env.cells scope.names []) G.objs.size X.env))
    (RR (.ref s2.heap.objs.size) G.objs.size) s3:=by
  rintro s3 rfl;have I3:=AG (tk:=s2.toks) B I2 hCle (O5 _) hDC hcle hcc f2 ft old hns hacc (fun v q=>by cases q)
  have st3:tn 0 h1:=T.keep _ _ _ st2 fun b _ o e=>old b o e
  have fy:∀ {H':Hp}{oD:Obj},(∀ b∈fp,H' b=none)->∀ b∈fp,dS (X.aK scope x G.objs.size (G.objs.size + 1) NB s2 H2 fp) [(s2.heap.objs.size,oD)] H' b:=fun {H' oD} hn b hb=>by
   refine ⟨hn b hb,OD (OL (ft b hb) hCle),fun z=>?_,.inl hb,fun y c e=>B.apart I2 hcle e (ft b hb) (f2 b hb).2.2.2.2.1,fun p hp=>?_⟩
   ·rcases O9.mp (I2.iL b z) with e | e
    ·exact (f2 b hb).2.1 e
    ·exact (f2 b hb).2.2.1 e
   ·have e:p=(s2.heap.objs.size,oD):=by simpa [Cx.aK] using hp
    subst e;exact Ne.symm (OD (ft b hb))
  refine rA (k:=0) rfl ha' (fun n s'=>∃ i ys its nn σ' H',W i n ys σ' H'/\Inv (X.aK scope x G.objs.size (G.objs.size + 1) NB s2 H2 fp) [(s2.heap.objs.size,dO its nn)] σ' H' s'/\tn i s'.heap/\(∀ b∈fp,H' b=none)/\Vals ys its/\ys.length<=sizeLine)
   ?_ m0 ⟨0,[],[],0,_,H2,w0,I3,st3,fun b hb=>(f2 b hb).1,.nil,Nat.zero_le _⟩
  rintro n s' ⟨i,ys,its,nn,σ',H',w',I',st',fr',rv,hz⟩;rcases turn i n ys σ' H' w' with ⟨stop,q⟩ | ⟨go,Nx,hNx,step⟩
  ·refine wpAny_mono (T.done (X.aK scope x G.objs.size (G.objs.size + 1) NB s2 H2 fp) rfl rfl rfl hc i _ s' _ H' (fun _ _=>False) I' (fy fr') st' stop) (fun r s4 ⟨hr',I4⟩=>?_) fun _ _ z=>z.elim
   subst hr';have I5:=AF I2 f2 (O5 _) I4 rv hz;obtain ⟨m4,hn4,_⟩:=I4.loc;have hfree:H' s2.heap.objs.size=none:=(I4.pin (s2.heap.objs.size,dO its nn) (by show _∈[]++[(s2.heap.objs.size,dO its nn)];simp)).2.1
   have fC:dS X pins (upd H' s2.heap.objs.size (.lst ys)) G.objs.size:=I2.nL hCle (by
    rw [ai (Ne.symm hDC)];exact I4.free)
   exact hRR _ _ _ s4 m4 I5 hn4 fC (q _ hfree)
  ·refine wpAny_mono (T.item (X.aK scope x G.objs.size (G.objs.size + 1) NB s2 H2 fp) rfl rfl rfl hc i _ s' _ H' (fun _ _=>False) I' (fy fr') st' go) (fun r s4 ⟨u,hr',h4⟩=>?_) fun _ _ z=>z.elim
   subst hr';refine wpAny_mono h4 (fun _ s4 ⟨v,H5,I5,r5,y5,st5,fr5⟩=>?_) fun _ _ z=>z.elim
   have pIt:∀ b∈fp,∃ o,s4.heap.get? b=some o/\∀ v,o.data≠.cell v:=T.obj _ _ st5;have I5':=I5.pinned (fy fr5) pIt;refine wpAny_mono (hg _ _ _ _ _ _ s4 σ' H5 v u _ I5' r5 (step v H5 y5)) (fun _ s6 ⟨σ6,H6,I6,q6⟩=>?_) fun _ _ z=>z.elim
   refine wpAny_mono (ht _ _ _ _ _ _ s6 σ6 H6 _ I6 q6) (fun b s7 ⟨H7,I7,q7⟩=>?_) fun _ _ z=>z.elim
   have stays:∀ {s9:Shared}{H9:Hp}{σ9:St}{oD:Obj},Inv (X.aK scope x G.objs.size (G.objs.size + 1) NB s2 H2 fp) ((s2.heap.objs.size,oD)::fS fp s4.heap) σ9 H9 s9->tn (i + 1) s9.heap/\(∀ b∈fp,H9 b=none)/\Inv (X.aK scope x G.objs.size (G.objs.size + 1) NB s2 H2 fp) [(s2.heap.objs.size,oD)] σ9 H9 s9:=fun {s9 H9 σ9 oD} I9=>by
    refine ⟨T.keep _ _ _ st5 fun b hb o e=>(I9.pin (b,o) (List.mem_append_right _ (O6 _ (fB hb e)))).1,fun b hb=>?_,I9.jr fun p hp'=>I9.pin p (List.mem_append_right _ ?_)⟩
    ·obtain ⟨o,e,d⟩:=pIt b hb;exact (I9.pin (b,o) (List.mem_append_right _ (O6 _ (fB hb e)))).2.1
    ·rw [O8.mp hp'];exact N9
   cases b with
   | false =>
    rw [if_neg ON] at q7 ⊢;obtain ⟨m',hm,w7⟩:=hNx _ _ _ q7;obtain ⟨g1,g2,g3⟩:=stays I7;exact ⟨m',hm,i + 1,ys,its,nn,σ6,H7,w7,g3,g1,g2,rv,hz⟩
   | true =>
    rw [if_pos rfl] at q7 ⊢;intro fin' Qf' hf';refine hr _ _ _ _ _ s2.heap.objs.size (O5 _) cD (fun _ _ z=>z) (fS fp s4.heap) s7 σ6 H7 ys its nn Nx fin' Qf' _ (fun p hp'=>?_) I7 rv hz q7 fun s8 ys8 its8 nn8 σ8 H8 I8 rv8 hz8 n8=>?_
    ·have hp'':p∈fS fp s4.heap:=hp';exact OD (ft _ (nP hp'').1)
    ·obtain ⟨m',hm,w8⟩:=hNx _ _ _ n8;obtain ⟨g1,g2,g3⟩:=stays I8;exact hf' s8 ⟨m',hm,i + 1,ys8,its8,nn8,σ8,H8,w8,g3,g1,g2,rv8,hz8⟩
 exact codeAny_compStart_list (loop _ rfl) (T.self _ 0 _ _ _ (T.keep _ _ _ st2 fun b _ o e=>old b o e) (loop _ rfl))
def Fc {elt tg iter:Expr}{ifs:List Expr}{rest:List Comprehension}{pos:Pos}{wi:TI}{g:TG}{tt:TT}{tr:TL}(B:cR X scope x vs NB ix)(hc:X.calm=true)(hi:PI X tg iter wi)
  (hg:∀ (C c:Addr)(s:Shared)(H:Hp)(fp:List Addr),PG (X.aK scope x C c NB s H fp) tg g)(ht:∀ (C c:Addr)(s:Shared)(H:Hp)(fp:List Addr),ng (X.aK scope x C c NB s H fp) ifs tt)
  (hr:∀ (C c:Addr)(s:Shared)(H:Hp)(fp:List Addr)(D:Addr),PL (X.aK scope x C c NB s H fp) D elt (⟨tg,iter,ifs,0⟩:: rest) scope pos 1 tr)
  (ha:∀ g∈rest,g.is_async=0:=by decide)(hs:∀ v,foldedSetIterable iter X.env v=pure v:=by intro _;rfl):PE X (.ListComp elt (⟨tg,iter,ifs,0⟩:: rest) scope pos) (lH wi vs.length ix g tt tr):=by
 intro pins s σ H Q I h;rw [eval_ListComp];refine wpAny_comprehension_free (use:=none) rfl hs (B.clos I) B.kind B.names (aF (hi pins s σ H _ I h) fun v s1 h1=>aF h1 fun itv s2 h2=>?_)
 obtain ⟨it,fp,tn,J,H2,e,I2,T,st2,f2,w⟩:=h2;subst e;refine Aj (Qr:=Q) (RR:=fun acc C=>compPost (model X.prog X.w) X.A X.xe none (EP X pins σ Q) acc C) B hc hg ht hr ha I2 T st2 f2 w fun D C Hf s' m' I' hn' fC q=>?_
 refine ⟨m',hn',fun h'' hs''=>⟨.ref D,Hf,?_,rfl,q⟩⟩
 obtain ⟨c0,c1,c2,c3,c4,c5⟩:=fC;exact I'.turned (it:=C) (t':=s'.toks) (fun b o hb e=>hs''.extBut b o hb e) c0 c1 c3 c4 c5
end
end L2
namespace Dv
open PySem L2 PySem.W
section
variable {X:Cx}{Ex:XK}{π cs:List Nat}{elt tg iter:Expr}{ifs:List Expr}{scope:Scope}{pos:Pos}
def Eb {cx:Str}{rest:List Comprehension}{vs NB:List Str}{ix:List Nat}{di:DI}{t:Tg}{c:DT}{r:DC}(B:cR X scope cx vs NB ix)(hc:X.calm=true)(hcs:cs.length=vs.length)(hix:∀ i∈ix,i < π.length)(aD:∀ c∈cs,c∉π)(nd:(br π cs ix).Nodup)
  (hi:SI X Ex π tg iter di)(ht:∀ (C c':Addr)(s:Shared)(H:Hp)(fp:List Addr),eW (X.aK scope cx C c' NB s H fp) (br π cs ix) tg t)(hts:∀ i∈t.slots,i∈cs)(hif:∀ (C c':Addr)(s:Shared)(H:Hp)(fp:List Addr),gG (X.aK scope cx C c' NB s H fp) E0 (br π cs ix) ifs c)
  (hr:∀ (C c':Addr)(s:Shared)(H:Hp)(fp:List Addr)(D:Addr),SL (X.aK scope cx C c' NB s H fp) (br π cs ix) cs D elt (⟨tg,iter,ifs,0⟩:: rest) scope pos 1 r)
  (ha:∀ g∈rest,g.is_async=0)(hs:∀ v,foldedSetIterable iter X.env v=pure v){w:(V->Hp->Prop)->St->Hp->Prop}
  (hw:∀ {wi:TI}{G:TG}{tt:TT}{tr:TL}{σ:St}{H:Hp}{Q:VK},PI X tg iter wi->(∀ (C c':Addr)(s:Shared)(H:Hp)(fp:List Addr),PG (X.aK scope cx C c' NB s H fp) tg G)->(∀ (C c':Addr)(s:Shared)(H:Hp)(fp:List Addr),ng (X.aK scope cx C c' NB s H fp) ifs tt) ->
   (∀ (C c':Addr)(s:Shared)(H:Hp)(fp:List Addr)(D:Addr),PL (X.aK scope cx C c' NB s H fp) D elt (⟨tg,iter,ifs,0⟩:: rest) scope pos 1 tr)->lH wi vs.length ix G tt tr σ H Q->w Q σ H)
  (g:Gh)(x:XC)(E:En)(σ:St)(H Hm:Hp)(F:Nat->List Addr)(P:En->Kd->PyData->Prop)(Q:VK)(hx:XL X Ex x g)(R:Rl X.K g E σ H Hm F)(p:cu cs di t c r x E P)
  (q:∀ E' k v u H' Hm' F' fp,P E' k v->Rl X.K g E' σ H' Hm' F'->af Hm Hm'->Tm X.K g F' H' Hm' k u v fp->Q u H'):w Q (sel π σ) H:=by
 obtain ⟨wi,hpi,hwi⟩:=hi;refine hw (wi:=wi) (G:=fun v σ H Q=>∀ (C c':Addr)(s:Shared)(H2:Hp)(fp:List Addr),WG (X.aK scope cx C c' NB s H2 fp) tg v σ H Q) (tt:=fun σ H Q=>∀ (C c':Addr)(s:Shared)(H2:Hp)(fp:List Addr),tE (X.aK scope cx C c' NB s H2 fp) ifs σ H Q)
  (tr:=fun ys σ H Q=>∀ (C c':Addr)(s:Shared)(H2:Hp)(fp:List Addr)(D:Addr),WL (X.aK scope cx C c' NB s H2 fp) D elt (⟨tg,iter,ifs,0⟩:: rest) scope pos 1 ys σ H Q) hpi (fun C c' s H2 fp pins s' σ H v u Q I r h=>h C c' s H2 fp pins s' u I r) (fun C c' s H2 fp pins s' σ H Q I h=>h C c' s H2 fp pins s' I)
  (fun C c' s H2 fp D h1 h2 h3 pins s' σ H ys its nn Q fin Qf E hp I rv hz h hf=>h C c' s H2 fp D h1 h2 h3 pins s' its nn fin Qf E hp I rv hz hf) ?_
 refine hwi g x E σ H Hm F _ _ hx R p fun E1 xs J H1 Hm1 F1 p1 R1 s1 it1=>?_
 obtain ⟨E0',I,hcl,i0,step,fin⟩:=p1;obtain ⟨σ0,F0,R0,a0,n0⟩:=R1.aU hcl;rw [<- hcs,sD hix aD a0 fun c hc=>(n0 c hc).1]
 refine wH (cs:=cs) (t:=t) (c:=c) (r:=r) hts it1 R0 .nil i0 (fun h1 h2 h3 h4 C c' s H2 fp=>?_) (fun h1 h2 h3 C c' s H2 fp=>(hif C c' s H2 fp).ok XL.no h1 h2 h3) (fun h1 h2 h3 h4 C c' s H2 fp D=>hr C c' s H2 fp D g _ _ _ _ _ _ _ _ _ h1 h2 h3 h4) step fun E' dys' ys' σ' H' Hm' F' i R' s' r' a' p hp=>?_
 ·obtain ⟨G,g1,g2⟩:=q8 (X:=X.aK scope cx C c' NB s H2 fp) hc B.nd nd (ht C c' s H2 fp);exact WG.of g1 (g2 h1 h2 h3 h4)
 ·obtain ⟨E2,hcl2,p2⟩:=fin _ _ i;obtain ⟨σ2,F2,R2,a2,n2⟩:=R'.aU hcl2;have R3:=R2.agree (cs:=cs) ((a0.trans a').trans a2).symm fun c hc=>(n2 c hc).2
  have s2:=bA (o:=.lst ys') hp;have R4:=R3.grow (H':=upd H' p (.lst ys')) s2 (af.refl _) (R3.sub.trans s2) (fun i a ha=>R3.off i a ha) fun _ _=>.inl rfl
  refine q _ _ _ _ _ Hm' F2 [p] p2 R4 (s1.trans s') ⟨.ow aq r',fun a ha=>?_,fun a ha i=>?_,fun a ha=>?_⟩
  ·rw [O8.mp ha];exact R3.jK hp
  ·rw [O8.mp ha];exact R3.fresh hp
  ·rw [O8.mp ha];exact R3.dW hp
def Jp {rest:List Comprehension}{vs NB:List Str}{ix:List Nat}{di:DI}{t:Tg}{c:DT}{r:DC}(B:cB X scope vs NB ix)(hc:X.calm=true)(hcs:cs.length=vs.length)(hix:∀ i∈ix,i < π.length)(aD:∀ c∈cs,c∉π)(nd:(br π cs ix).Nodup)
  (hi:SI X Ex π tg iter di)(ht:∀ (C:Addr)(s:Shared)(H:Hp)(fp:List Addr),eW (X.block scope C NB s H fp) (br π cs ix) tg t)(hts:∀ i∈t.slots,i∈cs)(hif:∀ (C:Addr)(s:Shared)(H:Hp)(fp:List Addr),gG (X.block scope C NB s H fp) E0 (br π cs ix) ifs c)
  (hr:∀ (C:Addr)(s:Shared)(H:Hp)(fp:List Addr)(D:Addr),SL (X.block scope C NB s H fp) (br π cs ix) cs D elt (⟨tg,iter,ifs,0⟩:: rest) scope pos 1 r)(ha:∀ g∈rest,g.is_async=0)(hs:∀ v,foldedSetIterable iter X.env v=pure v):SE X Ex π (.ListComp elt (⟨tg,iter,ifs,0⟩:: rest) scope pos) (cu cs di t c r):=fun g x E σ H Hm F P Q hx R p q =>
 zf B hc hcs hix aD nd hi ht hts hif hr ha hs (w:=fun Q σ H=>WE X (.ListComp elt (⟨tg,iter,ifs,0⟩:: rest) scope pos) σ H Q) (fun h1 h2 h3 h4 h5=>WE.of (Et B hc h1 h2 h3 h4 ha hs) h5) g x E σ H Hm F P Q hx R p q
def MP {j:Nat}{y:Str}{py spos:Pos}(hN:X.N.Nodup)(hj:X.N[j]?=some y)(hy:X.env.scope.names.lookup y=some .local){rest:List Comprehension}{vs NB:List Str}{ix:List Nat}{di:DI}{t:Tg}{c:DT}{r:DC}(B:cB X scope vs NB ix)(hc:X.calm=true)(hcs:cs.length=vs.length)(hix:∀ i∈ix,i < (aR X).length)(aD:∀ c∈cs,c∉aR X)(nd:(br (aR X) cs ix).Nodup)
  (hi:SI X Ex (aR X) tg iter di)(ht:∀ (C:Addr)(s:Shared)(H:Hp)(fp:List Addr),eW (X.block scope C NB s H fp) (br (aR X) cs ix) tg t)(hts:∀ i∈t.slots,i∈cs)(hif:∀ (C:Addr)(s:Shared)(H:Hp)(fp:List Addr),gG (X.block scope C NB s H fp) E0 (br (aR X) cs ix) ifs c)
  (hr:∀ (C:Addr)(s:Shared)(H:Hp)(fp:List Addr)(D:Addr),SL (X.block scope C NB s H fp) (br (aR X) cs ix) cs D elt (⟨tg,iter,ifs,0⟩:: rest) scope pos 1 r)(ha:∀ g∈rest,g.is_async=0)(hs:∀ v,foldedSetIterable iter X.env v=pure v)
  (hsw:swapsWith (.ListComp elt (⟨tg,iter,ifs,0⟩:: rest) scope pos) (some (.Name y py)) spos.line X.env=pure true):S1 X Ex (.Assign [.Name y py] (.ListComp elt (⟨tg,iter,ifs,0⟩:: rest) scope pos) spos) (aJ j (cu cs di t c r)):=by
 intro g D' E σ H Hm F D hx R p nx rt;refine zf B hc hcs hix aD nd hi ht hts hif hr ha hs (w:=fun Q τ H=>(Q=fun u H1=>D.nx (τ.set j (some u)) H1)->WS X (.Assign [.Name y py] (.ListComp elt (⟨tg,iter,ifs,0⟩:: rest) scope pos) spos) D τ H)
  (fun h1 h2 h3 h4 h5 e=>by
   subst e;exact WS.of (uT hN hj hy B hc h1 h2 h3 h4 hsw ha hs) h5) g D'.xc E σ H Hm F _ _ hx R p (fun E' k v u H' Hm' F' fp p' R' s' T=>?_) rfl
 rw [lE List.nodup_range (lD (bJ hj)) (R'.len ▸ iA p'.1)];exact nx _ _ _ _ _ p'.2 (R'.put T p'.1) s'
def Lc {cx:Str}{rest:List Comprehension}{vs NB:List Str}{ix:List Nat}{di:DI}{t:Tg}{c:DT}{r:DC}(B:cR X scope cx vs NB ix)(hc:X.calm=true)(hcs:cs.length=vs.length)(hix:∀ i∈ix,i < π.length)(aD:∀ c∈cs,c∉π)(nd:(br π cs ix).Nodup)
  (hi:SI X Ex π tg iter di)(ht:∀ (C c':Addr)(s:Shared)(H:Hp)(fp:List Addr),eW (X.aK scope cx C c' NB s H fp) (br π cs ix) tg t)(hts:∀ i∈t.slots,i∈cs)(hif:∀ (C c':Addr)(s:Shared)(H:Hp)(fp:List Addr),gG (X.aK scope cx C c' NB s H fp) E0 (br π cs ix) ifs c)
  (hr:∀ (C c':Addr)(s:Shared)(H:Hp)(fp:List Addr)(D:Addr),SL (X.aK scope cx C c' NB s H fp) (br π cs ix) cs D elt (⟨tg,iter,ifs,0⟩:: rest) scope pos 1 r)(ha:∀ g∈rest,g.is_async=0)(hs:∀ v,foldedSetIterable iter X.env v=pure v):SE X Ex π (.ListComp elt (⟨tg,iter,ifs,0⟩:: rest) scope pos) (cu cs di t c r):=fun g x E σ H Hm F P Q hx R p q =>
 Eb B hc hcs hix aD nd hi ht hts hif hr ha hs (w:=fun Q σ H=>WE X (.ListComp elt (⟨tg,iter,ifs,0⟩:: rest) scope pos) σ H Q) (fun h1 h2 h3 h4 h5=>WE.of (Fc B hc h1 h2 h3 h4 ha hs) h5) g x E σ H Hm F P Q hx R p q
end
def zB (K:Frag)(f:DM)(r:V->List V->Hp->VK->Prop):Prop:=∀ (H Hm:Hp)(a:Addr)(xs:List V)(ds:List PyData)(vs:List V)(args:List PyData)(P:List PyData->PyData->Prop)(Q:VK),H a=some (.lst xs)->Hm a=none->af Hm H->au K Hm xs ds->au K Hm vs args->f ds args P ->
 (∀ ys new u v,P new v->au K Hm ys new->Rp K Hm u v->Q u (upd H a (.lst ys)))->r (.ref a) vs H Q
theorem CG {K:Frag}{σ:St}{Hm:Hp}{E:En}:∀ {es:List DE}{os:List (Option PyData)}{vs:List V}{ds:List PyData},Got K σ Hm (es.map .ev) os vs->fill (es.map .ev) E os=some ds->au K Hm vs ds
 | [],_,_,_,.nil,h=>by cases h;exact .nil
 | e::es,_,_,_,.ev (os:=os) r G,h=>by
  have h:(fill (es.map .ev) E os).map (_::·)=some _:=h;cases hf:fill (es.map .ev) E os with
  | none=>rw [hf] at h;cases h
  | some ds =>
   rw [hf] at h;cases h;exact .cons r (CG G hf)
inductive oV (X:Cx)(Ex:XK)(π:List Nat):List Expr->List DE->Prop
 | nil:oV X Ex π [] []
 | cons {e:Expr}{d:DE}{es:List Expr}{ds:List DE}:SE X Ex π e d->oV X Ex π es ds->oV X Ex π (e::es) (d::ds)
def oV.as {X:Cx}{Ex:XK}{π:List Nat}{es:List Expr}{ds:List DE}(h:oV X Ex π es ds):aL X Ex π es (ds.map .ev):=by
 induction h with
 | nil=>exact .nil
 | cons h _ ih=>exact .ev h ih
def C6 {cpos:Pos}{env:Env}{es:List Expr}(ns:es.all noStar=true)(l:es.length < 30):((backTo cpos (starEach es env)).all (fun x=>!x.1) && (backToKw cpos (keywordEach [] env)).all (fun x=>x.1.isSome) && decide (es.length + ([]:List Keyword).length + (if ([]:List Keyword).isEmpty then 0 else 1) < 30))=true:=by
 have h:=fX (pos:=cpos) (env:=env) ns;rw [List.any_eq_false] at h;rw [OA,OA,OC];refine ⟨⟨fun x hx=>by simpa using h x hx,rfl⟩,decide_eq_true ?_⟩
 show es.length + 0 + 0 < 30;omega
section
variable {X:Cx}{Ex:XK}{π:List Nat}
def EM {E:En}{i:Nat}(h:qk E i=true):∃ p ds,E[i]?=some (some (.ow p,.list ds)):=by
 unfold qk at h;split at h
 ·rename_i p ds e;exact ⟨p,ds,e⟩
 ·cases h
def L3 {x name:Str}{id:String}{p apos cpos:Pos}{es:List Expr}{ds:List DE}{f:DM}{r:V->List V->Hp->VK->Prop}{i j:Nat}(hm:qK X id r)(D:zB X.K f r)(slot:Slot "list" name id)(hty:typeOf (.builtin id)=pure (.type "method_descriptor"))
  (hv:PE X (.Name x p) (gh j))(hj:π[j]?=some i)(ns:es.all noStar=true)(l30:es.length < 30)(hline:(apos.endLine == cpos.line)=true)(S:oV X Ex π es ds):SE X Ex π (.Call (.Attribute (.Name x p) name apos) es [] cpos) (oY f i ds):=by
 intro g xc E σ H Hm F P Q hx R h q;obtain ⟨ho,h⟩:=h;obtain ⟨p0,ds0,e0⟩:=EM ho;obtain ⟨v,h1,h2⟩:=R.slot i _ _ e0;have hs1:=cI hj h1;have fin:∀ a xs0,v=.ref a->H a=some (.lst xs0)->qT X es (sel π σ) H fun vs H2=>r (.ref a) vs H2 Q:=fun a xs0 ev _=>by
  subst ev;refine jL hx S.as R h fun E1 os vs H1 Hm1 F1 p1 R1 s1 G=>?_
  obtain ⟨args,p1',ds1,hf,e1,p1⟩:=p1;have ra:=CG G hf;obtain ⟨v',g1,g2⟩:=R1.slot i _ _ e1;rw [h1] at g1;cases g1;generalize hfi:F1 i=fi at g2;cases g2 with
  | @ow _ _ xs1 _ ha1 hr1 =>
   refine D H1 Hm1 a xs1 ds1 vs args _ Q ha1 (R1.off i a (by rw [hfi];exact N9)) R1.sub hr1 ra p1 fun ys new u v p2 ry ru=>?_
   obtain ⟨a',xs',k1,k2,k3,k4,R2⟩:=R1.chg e1 ry;rw [h1] at k1;cases k1;exact q _ _ _ _ _ _ _ [] p2 R2 s1 (Tm.sh ru)
 generalize hfi:F i=fi at h2;cases h2 with
 | @ow _ a xs _ ha hr =>
  cases es with
  | nil=>exact WE.of (JH PySem.F.plainAttrs_list slot hty hm hv rfl hline) ⟨_,hs1,.inl ⟨rfl,_,bI.of ha⟩,fin a xs rfl ha⟩
  | cons e es =>
   have ns':=ns;rw [OH,OA] at ns';exact WE.of (rG PySem.F.plainAttrs_list slot hty hm hv (dF ns) rfl (C6 ns l30) hline (aS ns'.1) (fX ns'.2)) ⟨_,hs1,.inl ⟨rfl,_,bI.of ha⟩,fin a xs rfl ha⟩
def dB:DM:=fun ds args P=>match args with
 | [d]=>ds.length < sizeLine/\P (ds++[d]) .none
 | _=>False
def eK {K:Frag}:zB K dB yH:=by
 intro H Hm a xs ds vs args P Q ha _ s r ra h q;unfold dB at h;split at h
 ·obtain ⟨x,rfl,h1⟩:=c7 ra;exact ⟨a,xs,x,rfl,rfl,ha,by rw [r.len];exact h.1,q _ _ _ _ h.2 (r.snoc h1) .aY⟩
 ·exact h.elim
def Hg:DM:=fun ds args P=>match args with
 | [.list es]=>ds.length + es.length<=sizeLine/\P (ds++es) .none
 | _=>False
theorem au.dropLast {K:Frag}{H:Hp}{vs:List V}{ds:List PyData}(r:au K H vs ds):au K H vs.dropLast ds.dropLast:=by
 rw [List.dropLast_eq_take,List.dropLast_eq_take,r.len];exact r.take _
theorem au.erase {K:Frag}{H:Hp}:∀ {vs:List V}{ds:List PyData} (i:Nat),au K H vs ds->au K H (vs.eraseIdx i) (ds.eraseIdx i)
 | _,_,_,.nil=>.nil
 | _,_,0,.cons _ r=>r
 | _,_,i + 1,.cons h r=>.cons h (r.erase i)
def uu:DM:=fun ds args P=>match args with
 | []=>∃ d,ds[ds.length - 1]?=some d/\P ds.dropLast d
 | [.int i]=>(-(2 ^ 63)<=i/\i < 2 ^ 63)/\∃ n d,seqIndex? i ds.length=some n/\ds[n]?=some d/\P (ds.eraseIdx n) d
 | _=>False
def Iu:qK X "list.pop" fun x vs H Q=>E7 x vs H Q\/wV x vs H Q:=fun pins s σ H x xs v us Q I a b z=>z.elim (Lj pins s σ H x xs v us Q I a b) (Ey pins s σ H x xs v us Q I a b)
def IG {K:Frag}:zB K uu fun x vs H Q=>E7 x vs H Q\/wV x vs H Q:=by
 intro H Hm a xs ds vs args P Q ha _ s r ra h q;unfold uu at h;split at h
 ·cases ra;obtain ⟨d,e,h⟩:=h;obtain ⟨v,ev,rv⟩:=r.get e;refine .inl ⟨a,xs,v,rfl,rfl,ha,by rw [r.len];exact ev,q _ _ _ _ h r.dropLast rv⟩
 ·obtain ⟨x,rfl,h1⟩:=c7 ra;cases h1;obtain ⟨⟨b1,b2⟩,n,d,e1,e2,h⟩:=h;obtain ⟨v,ev,rv⟩:=r.get e2;exact .inr ⟨a,xs,_,n,v,rfl,rfl,ha,b1,b2,by rw [r.len];exact e1,ev,q _ _ _ _ h (r.erase n) rv⟩
 ·exact h.elim
end
def lQ {a b:Key}:aO a=aO b↔a=b:=by
 cases a <;> cases b <;> simp [aO]
theorem sV:∀ {a b:List Key},a.map aO=b.map aO↔a=b
 | [],[]=>by simp
 | [],_::_=>by simp
 | _::_,[]=>by simp
 | a::as,b::bs=>by simp [lQ,sV (a:=as) (b:=bs)]
def qb {a b:List Key}:PyData.tuple (a.map aO)=.tuple (b.map aO)↔a=b:=by
 rw [PyData.tuple.injEq];exact sV
def lG {w:PyData}(h:jk w=true):∃ k,w=aO k:=by
 cases w with
 | int i=>exact ⟨.inl i,rfl⟩
 | str x=>exact ⟨.inr x,rfl⟩
 | _=>cases h
theorem iR:∀ {ks:List PyData},ks.all jk=true->∃ k:List Key,ks=k.map aO
 | [],_=>⟨[],rfl⟩
 | w::ks,h=>by
  rw [OH,OA] at h;obtain ⟨k,rfl⟩:=lG h.1;obtain ⟨l,rfl⟩:=iR h.2;exact ⟨k::l,rfl⟩
section
variable {K:Frag}{H:Hp}
def nu {u:V}{k:Key}(r:Rp K H u (aO k)):u=kV k:=by
 cases k with
 | inl i =>
  have r:Rp K H u (.int i):=r;cases r;rfl
 | inr x =>
  have r:Rp K H u (.str x):=r;cases r;rfl
theorem p8:∀ {us:List V}{k:List Key},au K H us (k.map aO)->us=k.map kV
 | _,[],r=>by cases r;rfl
 | _,k::ks,r=>by
  cases r with
  | cons h t=>rw [nu h,p8 t];rfl
def sj {u:V}{k:List Key}(r:Rp K H u (.tuple (k.map aO))):∃ b,u=.ref b/\H b=some (.tup (k.map kV)):=by
 cases r with
 | tup a r=>exact ⟨_,rfl,by rw [<- p8 r];exact a⟩
theorem cW.len:∀ {kvs:List (Key×V)}{ds:List (PyData×PyData)},cW K H kvs ds->kvs.length=ds.length
 | _,_,.nil=>rfl
 | _,_,.cons _ r=>congrArg (· + 1) r.len
theorem dY.len:∀ {kvs:List (List Key×V)}{ds:List (PyData×PyData)},dY K H kvs ds->kvs.length=ds.length
 | _,_,.nil=>rfl
 | _,_,.cons _ r=>congrArg (· + 1) r.len
theorem cW.val {k:Key}:∀ {kvs:List (Key×V)}{ds:List (PyData×PyData)},cW K H kvs ds->(cE ds (aO k)=none/\bL kvs k=none)\/∃ v d,bL kvs k=some v/\cE ds (aO k)=some d/\Rp K H v d
 | _,_,.nil=>.inl ⟨rfl,rfl⟩
 | _,_,.cons (k:=k') (v:=v) (d:=d) (kvs:=kvs) (ds:=ds) h r=>by
  by_cases c:k'=k
  ·subst c;exact .inr ⟨v,d,by unfold bL;rw [List.find?_cons_of_pos (by simp)];rfl,by unfold cE;rw [List.find?_cons_of_pos (by simp)];rfl,h⟩
  ·have c':¬ aO k'=aO k:=fun z=>c (lQ.mp z)
   have e1:bL ((k',v)::kvs) k=bL kvs k:=by unfold bL;rw [List.find?_cons_of_neg (by simpa using c)]
   have e2:cE ((aO k',d)::ds) (aO k)=cE ds (aO k):=by unfold cE;rw [List.find?_cons_of_neg (by simpa using c')]
   rw [e1,e2];exact r.val
theorem dY.val {k:List Key}:∀ {kvs:List (List Key×V)}{ds:List (PyData×PyData)},dY K H kvs ds->(cE ds (.tuple (k.map aO))=none/\bL kvs k=none)\/∃ v d,bL kvs k=some v/\cE ds (.tuple (k.map aO))=some d/\Rp K H v d
 | _,_,.nil=>.inl ⟨rfl,rfl⟩
 | _,_,.cons (k:=k') (v:=v) (d:=d) (kvs:=kvs) (ds:=ds) h r=>by
  by_cases c:k'=k
  ·subst c;exact .inr ⟨v,d,by unfold bL;rw [List.find?_cons_of_pos (by simp)];rfl,by unfold cE;rw [List.find?_cons_of_pos (by simp)];rfl,h⟩
  ·have c':¬ PyData.tuple (k'.map aO)=.tuple (k.map aO):=fun z=>c (qb.mp z)
   have e1:bL ((k',v)::kvs) k=bL kvs k:=by unfold bL;rw [List.find?_cons_of_neg (by simpa using c)]
   have e2:cE ((.tuple (k'.map aO),d)::ds) (.tuple (k.map aO))=cE ds (.tuple (k.map aO)):=by unfold cE;rw [List.find?_cons_of_neg (by simpa using c')]
   rw [e1,e2];exact r.val
theorem cW.any {k:Key}:∀ {kvs:List (Key×V)}{ds:List (PyData×PyData)},cW K H kvs ds->(kvs.any fun kv=>decide (kv.1=k))=ds.any fun kv=>decide (kv.1=aO k)
 | _,_,.nil=>rfl
 | _,_,.cons (k:=k') h r=>by
  rw [List.any_cons,List.any_cons,r.any,decide_eq_decide.mpr (lQ (a:=k') (b:=k)).symm]
theorem dY.any {k:List Key}:∀ {kvs:List (List Key×V)}{ds:List (PyData×PyData)},dY K H kvs ds->(kvs.any fun kv=>decide (kv.1=k))=ds.any fun kv=>decide (kv.1=.tuple (k.map aO))
 | _,_,.nil=>rfl
 | _,_,.cons (k:=k') h r=>by
  rw [List.any_cons,List.any_cons,r.any,decide_eq_decide.mpr (qb (a:=k') (b:=k)).symm]
theorem cW.app {v:V}{d:PyData}(k:Key)(h:Rp K H v d):∀ {kvs:List (Key×V)}{ds:List (PyData×PyData)},cW K H kvs ds->cW K H (kvs++[(k,v)]) (ds++[(aO k,d)])
 | _,_,.nil=>.cons h .nil
 | _,_,.cons g r=>.cons g (r.app k h)
theorem dY.app {v:V}{d:PyData}(k:List Key)(h:Rp K H v d):∀ {kvs:List (List Key×V)}{ds:List (PyData×PyData)},dY K H kvs ds->dY K H (kvs++[(k,v)]) (ds++[(.tuple (k.map aO),d)])
 | _,_,.nil=>.cons h .nil
 | _,_,.cons g r=>.cons g (r.app k h)
def cW.put {v:V}{d:PyData}(k:Key)(h:Rp K H v d){kvs:List (Key×V)}{ds:List (PyData×PyData)}(r:cW K H kvs ds):cW K H (putK kvs k v) (putD ds (aO k) d):=by
 unfold putK putD;rw [r.any (k:=k)];split
 ·have go:∀ {kvs:List (Key×V)}{ds:List (PyData×PyData)},cW K H kvs ds->cW K H (kvs.map fun kv=>if kv.1=k then (kv.1,v) else kv) (ds.map fun kv=>if kv.1=aO k then (kv.1,d) else kv):=by
   intro kvs
   induction kvs with
   | nil=>intro ds r;cases r;exact .nil
   | cons p kvs ih =>
    intro ds r;cases r with
    | @cons k' v' d' _ ds g r =>
     rw [OM,OM]
     by_cases c:k'=k
     ·rw [if_pos c,if_pos (congrArg aO c)];exact .cons h (ih r)
     ·rw [if_neg c,if_neg fun z=>c (lQ.mp z)]
      exact .cons g (ih r)
  exact go r
 ·exact r.app k h
def dY.put {v:V}{d:PyData}(k:List Key)(h:Rp K H v d){kvs:List (List Key×V)}{ds:List (PyData×PyData)}(r:dY K H kvs ds):dY K H (putK kvs k v) (putD ds (.tuple (k.map aO)) d):=by
 unfold putK putD;rw [r.any (k:=k)];split
 ·have go:∀ {kvs:List (List Key×V)}{ds:List (PyData×PyData)},dY K H kvs ds->dY K H (kvs.map fun kv=>if kv.1=k then (kv.1,v) else kv) (ds.map fun kv=>if kv.1=.tuple (k.map aO) then (kv.1,d) else kv):=by
   intro kvs
   induction kvs with
   | nil=>intro ds r;cases r;exact .nil
   | cons p kvs ih =>
    intro ds r;cases r with
    | @cons k' v' d' _ ds g r =>
     rw [OM,OM]
     by_cases c:k'=k
     ·rw [if_pos c,if_pos (by rw [c])]
      exact .cons h (ih r)
     ·rw [if_neg c,if_neg fun z=>c (qb.mp z)]
      exact .cons g (ih r)
  exact go r
 ·exact r.app k h
end
section
variable {X:Cx}{Ex:XK}{π:List Nat}
inductive Fj (neg:Bool) (x:V) (y:V)(H:Hp)(Q:VK):Prop
 | mk:∀ a o,(y=.ref a)->(gR H a x o)->(Q (.bl (if neg then !o.isSome else o.isSome)) H)->Fj neg x y H Q
def EO (neg:Bool):R2:=fun x y H Q=>Fj neg x y H Q
def Kv (hu:X.A.units + 64 < cLine):bG X (compareOp .In) (EO false):=by
 intro pins s σ H x y v u Q I rx ry h;obtain ⟨a,o,rfl,g,q⟩:=h;cases ry;exact Nn (by omega) I g rx fun s3 I3=>⟨.bl o.isSome,H,I3,rfl,q⟩
def AV (hu:X.A.units + 64 < cLine):bG X (compareOp .NotIn) (EO true):=by
 intro pins s σ H x y v u Q I rx ry h;obtain ⟨a,o,rfl,g,q⟩:=h;cases ry;exact G5 (by omega) I g rx fun s3 I3=>⟨.bl (!o.isSome),H,I3,rfl,q⟩
noncomputable def gH (neg:Bool):DR:=fun ds P=>match ds with
 | [.tuple ks,.dict ((.none,.none)::kvs)]=>ks.all jk=true/\P .sh (.bool (if neg then !(cE kvs (.tuple ks)).isSome else (cE kvs (.tuple ks)).isSome))
 | [w,.dict kvs]=>(jk w=true/\iP kvs=true)/\P .sh (.bool (if neg then !(cE kvs w).isSome else (cE kvs w).isSome))
 | ds=>Bt neg ds P
def Dt (K:Frag)(neg:Bool):R2:=fun x y H Q=>Ar K neg x y H Q\/EO neg x y H Q
def Kg (hu:X.A.units + 64 < cLine):bG X (compareOp .In) (Dt X.K false):=bG.or (JI hu) (Kv hu)
def Cj (hu:X.A.units + 64 < cLine):bG X (compareOp .NotIn) (Dt X.K true):=bG.or (BG hu) (AV hu)
def p9 {K:Frag}{H:Hp}{u:V}{kvs:List (PyData×PyData)}(r:Rp K H u (.dict kvs))(h:iP kvs=true):∃ a es,u=.ref a/\H a=some (.dK es)/\cW K H es kvs:=by
 cases r with
 | dk a r=>exact ⟨_,_,rfl,a,r⟩
 | dt a r=>cases h
def BA {K:Frag}{H:Hp}{u:V}{kvs:List (PyData×PyData)}(r:Rp K H u (.dict ((.none,.none)::kvs))):∃ a es,u=.ref a/\H a=some (.dT es)/\dY K H es kvs:=by
 generalize e:((PyData.none,PyData.none)::kvs)=ds at r;cases r with
 | dk a r =>
  cases r with
  | nil=>cases e
  | @cons k _ _ _ _ _ _=>cases k <;> cases e
 | dt a r=>cases e;exact ⟨_,_,rfl,a,r⟩
def yE {K:Frag}(neg:Bool):cM K (gH neg) (r2 (Dt K neg)):=by
 intro H Hm vs ds P Q s r h q;unfold gH at h;split at h
 ·rename_i ks kvs;obtain ⟨x,y,rfl,h1,h2⟩:=cP r;obtain ⟨k,rfl⟩:=iR h.1;obtain ⟨b,rfl,hb⟩:=sj h1;obtain ⟨a,es,rfl,ha,rt⟩:=BA h2;refine .inr ⟨a,_,rfl,gR.t (s _ _ ha) (s _ _ hb),?_⟩;have e:(bL es k).isSome=(cE kvs (.tuple (k.map aO))).isSome:=by
   rcases rt.val (k:=k) with ⟨e1,e2⟩ | ⟨v,d,e1,e2,_⟩
   ·rw [e1,e2];rfl
   ·rw [e1,e2];rfl
  rw [e];exact bu.sc q s h.2 (.bl _)
 ·rename_i w kvs _;obtain ⟨x,y,rfl,h1,h2⟩:=cP r;obtain ⟨⟨hk,hp⟩,h⟩:=h;obtain ⟨k,rfl⟩:=lG hk;cases nu h1;obtain ⟨a,es,rfl,ha,rt⟩:=p9 h2 hp;refine .inr ⟨a,_,rfl,gR.k (s _ _ ha),?_⟩;have e:(bL es k).isSome=(cE kvs (aO k)).isSome:=by
   rcases rt.val (k:=k) with ⟨e1,e2⟩ | ⟨v,d,e1,e2,_⟩
   ·rw [e1,e2];rfl
   ·rw [e1,e2];rfl
  rw [e];exact bu.sc q s h (.bl _)
 ·rcases vs with _ | ⟨x,_ | ⟨y,_ | ⟨z,t⟩⟩⟩
  ·cases r;exact (show False from h).elim
  ·cases r with | cons _ r=>cases r;exact (by unfold Bt at h;simpa using h:False).elim
  ·exact .inl (Jk neg H Hm _ _ P Q s r h q)
  ·cases r with | cons _ r=>cases r with | cons _ r=>cases r;exact (by unfold Bt at h;simpa using h:False).elim
inductive FJ (x:V) (y:V)(H:Hp)(Q:VK):Prop
 | mk:∀ a v,(x=.ref a)->(gR H a y (some v))->(Q v H)->FJ x y H Q
def KG:R2:=fun x y H Q=>FJ x y H Q
def G3 (hu:X.A.units + 64 < cLine):mU X KG:=by
 intro value slice pins s σ H x y v u Q I rx ry h hs;obtain ⟨a,w,rfl,g,q⟩:=h;cases rx;exact PyProof.Rows.tail_any (yt I g) PySem.F.slot_dict_getitem.lookup (Ba (by omega) I g ry fun w' s3 I3 rw'=>⟨w,H,I3,rw',q⟩) hs
noncomputable def aA:DR:=fun ds P=>match ds with
 | [.dict ((.none,.none)::kvs),.tuple ks]=>ks.all jk=true/\∃ d,cE kvs (.tuple ks)=some d/\P .sh d
 | [.dict kvs,w]=>(jk w=true/\iP kvs=true)/\∃ d,cE kvs w=some d/\P .sh d
 | ds=>Cp ds P
def Lb (K:Frag):R2:=fun x y H Q=>Jb K x y H Q\/KG x y H Q
def M9 (hu:X.A.units + 64 < cLine):mU X (Lb X.K):=Cm.or (G3 hu)
def GS {K:Frag}:cM K aA (r2 (Lb K)):=by
 intro H Hm vs ds P Q s r h q;unfold aA at h;split at h
 ·rename_i kvs ks;obtain ⟨x,y,rfl,h2,h1⟩:=cP r;obtain ⟨hk,d,hv,h⟩:=h;obtain ⟨k,rfl⟩:=iR hk;obtain ⟨b,rfl,hb⟩:=sj h1;obtain ⟨a,es,rfl,ha,rt⟩:=BA h2;rcases rt.val (k:=k) with ⟨e1,e2⟩ | ⟨v,d',e1,e2,rv⟩
  ·rw [e1] at hv;cases hv
  ·rw [e2] at hv;cases hv;exact .inr ⟨a,v,rfl,by rw [<- e1];exact gR.t (s _ _ ha) (s _ _ hb),bu.sc q s h rv⟩
 ·rename_i kvs w _;obtain ⟨x,y,rfl,h2,h1⟩:=cP r;obtain ⟨⟨hk,hp⟩,d,hv,h⟩:=h;obtain ⟨k,rfl⟩:=lG hk;cases nu h1;obtain ⟨a,es,rfl,ha,rt⟩:=p9 h2 hp;rcases rt.val (k:=k) with ⟨e1,e2⟩ | ⟨v,d',e1,e2,rv⟩
  ·rw [e1] at hv;cases hv
  ·rw [e2] at hv;cases hv;exact .inr ⟨a,v,rfl,by rw [<- e1];exact gR.k (s _ _ ha),bu.sc q s h rv⟩
 ·rcases vs with _ | ⟨x,_ | ⟨y,_ | ⟨z,t⟩⟩⟩
  ·cases r;exact (show False from h).elim
  ·cases r with | cons _ r=>cases r;exact (by unfold Cp at h;simpa using h:False).elim
  ·exact .inl (J3 H Hm _ _ P Q s r h q)
  ·cases r with | cons _ r=>cases r with | cons _ r=>cases r;exact (by unfold Cp at h;simpa using h:False).elim
noncomputable def dH:DR:=fun ds P=>match ds with
 | [.dict kvs]=>iP kvs=true/\P .sh (.int kvs.length)
 | ds=>EB ds P
def Fd {K:Frag}:cM K dH fun xs H Q=>(∃ p ys,xs=[.ref p]/\(bI K H p ys\/bW K H p ys)/\Q (.int ys.length) H)\/∃ a kvs,xs=[V.ref a]/\H a=some (.dK kvs)/\Q (.int kvs.length) H:=by
 intro H Hm vs ds P Q s r h q;unfold dH at h;split at h
 ·obtain ⟨x,rfl,h1⟩:=c7 r;obtain ⟨a,es,rfl,ha,rt⟩:=p9 h1 h.1;exact .inr ⟨a,es,rfl,s _ _ ha,by rw [rt.len];exact bu.sc q s h.2 (.int _)⟩
 ·exact .inl (Hl H Hm _ _ P Q s r h q)
def Rl.EC {K:Frag}{g:Gh}{E:En}{σ:St}{H Hm:Hp}{F:Nat->List Addr}(R:Rl K g E σ H Hm F){i:Nat}{k:Kd}{d d':PyData}{a:Addr}{o:HO}(e:E[i]?=some (some (k,d)))(hF:F i=[a])(hv:σ[i]?=some (some (.ref a)))(new:Own K (upd H a o) Hm k (.ref a) d' [a])(nt:oX o)(hp:k=.ow true->∃ ds,d'=.list ds) :
  Rl K g (E.set i (some (k,d'))) σ (upd H a o) Hm F:=by
 have ma:a∈F i:=by rw [hF];exact N9
 have na:=R.off i a ma;have up:∀ b,b≠a->upd H a o b=H b:=fun b hb=>ai hb
 have li:=bJ e;exact {
  len:=by rw [List.length_set];exact R.len
  sub:=fun b u hb=>by
   have:b≠a:=fun z=>by rw [z,na] at hb;cases hb
   rw [up b this];exact R.sub b u hb
  slot:=fun j k' d'' e'=>by
   by_cases c:j=i
   ·subst c;rw [ay li] at e';cases e';exact ⟨_,hv,by rw [hF];exact new⟩
   ·rw [aj (Ne.symm c)] at e';obtain ⟨u,g1,g2⟩:=R.slot j k' d'' e';refine ⟨u,g1,g2.step (af.refl _) fun b hb=>up b fun z=>c (R.aD j i a (z ▸ hb) ma)⟩
  off:=R.off
  bx:=fun j b hb=>by
   by_cases c:b=a
   ·rw [c];exact ⟨_,aq,nt⟩
   ·rw [up b c];exact R.bx j b hb
  aD:=R.aD
  fr:=fun q u hq ho=>by
   have:q≠a:=fun z=>by
    rcases R.new i a ma with y | y
    ·exact hq (z ▸ y)
    ·rw [z,y] at ho;cases ho
   rw [up q this];exact R.fr q u hq ho
  new:=R.new
  pin:=fun q hq=>by
   obtain ⟨g1,ds',g2⟩:=R.pin q hq
   by_cases c:i=q.1
   ·rw [<- c] at g1 g2 ⊢;rw [e] at g2;cases g2;obtain ⟨ds,rfl⟩:=hp rfl;exact ⟨g1,ds,ay li⟩
   ·exact ⟨g1,ds',by rw [aj c];exact g2⟩
  old:=R.old }
def Fq:Aw:=fun o i v H Q=>Gx o i v H Q\/∃ a H',o=.ref a/\nQ H a i v H'/\Q H'
def LN (hu:X.A.units + 64 < cLine):Ek X Fq:=by
 intro pins s σ H o i v ov iv u Q I ro ri rv h;rcases h with h | ⟨a,H',rfl,g,q⟩
 ·exact set_list pins s σ H o i v ov iv u Q I ro ri rv h
 ·cases ro;exact A9 (by omega) I g ri rv fun s' I'=>⟨H',I',q⟩
def IB {g:Gh}{E:En}{σ:St}{H Hm:Hp}{F:Nat->List Addr}{K:Frag}{i:Nat}{w v:PyData}{o wv vv:V}{Qe:En->Prop}{Q:Hp->Prop}(R:Rl K g E σ H Hm F)(ho:σ[i]?=some (some o))(rw':Rp K Hm wv w)(rv:Rp K Hm vv v)(h:f7.setI E i w v Qe)
  (q:∀ E' H',Qe E'->Rl K g E' σ H' Hm F->Q H'):Fq o wv vv H Q:=by
 unfold f7.setI at h;split at h
 ·rename_i p ds a e;obtain ⟨n,hn,h⟩:=h;cases rw';obtain ⟨v',h1,h2⟩:=R.slot i _ _ e;rw [ho] at h1;cases h1;generalize hfi:F i=fi at h2;cases h2 with
  | @ow _ b xs _ ha hr =>
   refine .inl ⟨b,xs,a,n,rfl,rfl,ha,by rw [hr.len];exact hn,q _ _ h ?_⟩
   exact R.EC e hfi ho (.ow aq (hr.set rv n)) jY fun _=>⟨_,rfl⟩
 ·rename_i p kvs _ e;obtain ⟨⟨hk,hl⟩,h⟩:=h;obtain ⟨k,rfl⟩:=lG hk;cases nu rw';obtain ⟨v',h1,h2⟩:=R.slot i _ _ e;rw [ho] at h1;cases h1;generalize hfi:F i=fi at h2;cases h2 with
  | @dk _ b es _ ha hr =>
   refine .inr ⟨b,_,rfl,nQ.k ha (by rw [hr.len];exact hl),q _ _ h ?_⟩
   exact R.EC e hfi ho (.dk aq (hr.put k rv)) qv fun z=>by cases z
 ·rename_i p kv kvs ks e;obtain ⟨⟨hk,hl⟩,h⟩:=h;obtain ⟨k,rfl⟩:=iR hk;obtain ⟨c,rfl,hc⟩:=sj rw';obtain ⟨v',h1,h2⟩:=R.slot i _ _ e;rw [ho] at h1;cases h1;generalize hfi:F i=fi at h2;cases h2 with
  | @dt _ b es _ ha hr =>
   refine .inr ⟨b,_,rfl,nQ.t ha (R.sub _ _ hc) (by rw [hr.len];exact hl),q _ _ h ?_⟩
   exact R.EC e hfi ho (.dt aq (hr.put k rv)) pB fun z=>by cases z
 ·exact h.elim
def LK {x:Str}{p pos pos':Pos}{j e:Expr}{i jx:Nat}{dj de:DE}(hu:X.A.units + 64 < cLine)(hv:PE X (.Name x p) (gh jx))(hj:(aR X)[jx]?=some i)(hs:swapsWithSole [.Subscript (.Name x p) j pos'] e pos.line X.env=pure false)
  (ha:∀ v,assign (.Subscript (.Name x p) j pos') X.env v=(do
   let ov <- holding [v] (eval (.Name x p) X.env)
   let iv <- holding [v,ov] (eval j X.env)
   standAt pos'
   holding [v,ov,iv] (setItem ov iv v)
   release [v,ov,iv] []))(hd:SE X Ex (aR X) e de)(hd2:SE X Ex (aR X) j dj):S1 X Ex (.Assign [.Subscript (.Name x p) j pos'] e pos) (f7 i dj de):=by
 intro g D' E σ H Hm F D hx R pp nx rt;refine WS.of (CZ bE (Kl hv bE (LN hu) ha) hs) (hd g D'.xc E σ H Hm F _ _ hx R pp fun E1 k v u H1 Hm1 F1 fp p1 R1 s1 T=>?_)
 obtain ⟨⟨hk,hh⟩,p1⟩:=p1;obtain ⟨Hm2,s2,R2,r2⟩:=T.bY R1 hk;obtain ⟨o,ho⟩:=nK R2 hh;refine ⟨o,cI hj ho,hd2 g D'.xc E1 σ H1 Hm2 F1 _ _ hx R2 p1 fun E3 k3 v3 u3 H3 Hm3 F3 fp3 p3 R3 s3 T3=>?_⟩
 obtain ⟨hk3,p3⟩:=p3;obtain ⟨Hm4,s4,R4,r4⟩:=T3.bY R3 hk3;exact IB R4 ho r4 (r2.mono (s3.trans s4)) p3 fun E' H' q R'=>nx _ _ _ _ _ q R' (s1.trans (s2.trans (s3.trans s4)))
end
def ini:List Bool->List PyData->En
 | true::ms,d::ds=>some (.ow true,d)::ini ms ds
 | false::ms,d::ds=>some (.sh,d)::ini ms ds
 | _,_=>[]
def d7:List Bool->En->Option (List PyData)
 | [],_=>some []
 | true::ms,some (.ow true,.list es)::E=>(d7 ms E).map (.list es::·)
 | false::ms,_::E=>d7 ms E
 | _,_=>none
def eT:List Bool->Nat->List Addr->List (Nat×Addr)
 | true::ms,n,a::as=>(n,a)::eT ms (n + 1) as
 | false::ms,n,as=>eT ms (n + 1) as
 | _,_,_=>[]
def fm:List Bool->List Addr->List (List Addr)
 | true::ms,a::as=>[a]::fm ms as
 | false::ms,as=>[]::fm ms as
 | _,_=>[]
section
variable {K:Frag}{H Hm:Hp}
def Ag.vg {ms:List Bool}{vs:List V}{ds:List PyData}{as:List Addr}(h:Ag K H Hm ms vs ds as):vs.length=ms.length:=by
 induction h with
 | nil=>rfl
 | sh _ _ ih=>rw [List.length_cons,List.length_cons,ih]
 | mu _ _ _ _ _ ih=>rw [List.length_cons,List.length_cons,ih]
def Ag.Nd {ms:List Bool}{vs:List V}{ds:List PyData}{as:List Addr}(h:Ag K H Hm ms vs ds as):(ini ms ds).length=vs.length:=by
 induction h with
 | nil=>rfl
 | sh _ _ ih=>rw [ini,List.length_cons,List.length_cons,ih]
 | mu _ _ _ _ _ ih=>rw [ini,List.length_cons,List.length_cons,ih]
def Ag.pins {ms:List Bool}{vs:List V}{ds:List PyData}{as:List Addr}(h:Ag K H Hm ms vs ds as):∀ n,(eT ms n as).map (·.2)=as:=by
 induction h with
 | nil=>exact fun _=>rfl
 | sh _ _ ih=>exact fun n=>ih (n + 1)
 | @mu _ _ _ _ a _ _ _ _ _ _ _ ih=>exact fun n=>congrArg (a::·) (ih (n + 1))
def Ag.slot {ms:List Bool}{vs:List V}{ds:List PyData}{as:List Addr}(h:Ag K H Hm ms vs ds as):∀ {i:Nat}{k:Kd}{d:PyData},(ini ms ds)[i]?=some (some (k,d))->∃ v,vs[i]?=some v/\Own K H Hm k v d ((fm ms as)[i]?.getD []):=by
 induction h with
 | nil=>intro i k d e;simp [ini] at e
 | @sh ms vs ds as v d r _ ih =>
  intro i k d' e;rw [ini] at e;cases i with
  | zero =>
   cases e;exact ⟨v,rfl,.sh r⟩
  | succ i=>exact ih e
 | @mu ms vs ds as a xs es h1 h2 h3 h4 _ ih =>
  intro i k d' e;rw [ini] at e;cases i with
  | zero =>
   cases e;exact ⟨_,rfl,.ow h1 h2⟩
  | succ i=>exact ih e
def Ag.FT {ms:List Bool}{vs:List V}{ds:List PyData}{as:List Addr}(h:Ag K H Hm ms vs ds as):(∀ (i:Nat) a,a∈(fm ms as)[i]?.getD []->a∈as/\Hm a=none/\∃ xs,H a=some (.lst xs))/\∀ (i j:Nat) a,a∈(fm ms as)[i]?.getD []->a∈(fm ms as)[j]?.getD []->i=j:=by
 induction h with
 | nil=>exact ⟨fun i a h=>by simp [fm] at h,fun i j a h=>by simp [fm] at h⟩
 | @sh ms vs ds as v d r _ ih =>
  refine ⟨fun i a h=>?_,fun i j a h1 h2=>?_⟩
  ·rw [fm] at h;cases i with
   | zero=>simp at h
   | succ i=>exact ih.1 i a h
  ·rw [fm] at h1 h2;cases i with
   | zero=>simp at h1
   | succ i =>
    cases j with
    | zero=>simp at h2
    | succ j=>exact congrArg (· + 1) (ih.2 i j a h1 h2)
 | @mu ms vs ds as a xs es g1 g2 g3 g4 _ ih =>
  refine ⟨fun i b h=>?_,fun i j b h1 h2=>?_⟩
  ·rw [fm] at h;cases i with
   | zero =>
    have h:b∈[a]:=h;rw [O8] at h;subst h;exact ⟨N9,g3,xs,g1⟩
   | succ i =>
    obtain ⟨y1,y2⟩:=ih.1 i b h;exact ⟨O6 _ y1,y2⟩
  ·rw [fm] at h1 h2;cases i with
   | zero =>
    have h1:b∈[a]:=h1;rw [O8] at h1;subst h1;cases j with
    | zero=>rfl
    | succ j=>exact absurd (ih.1 j b h2).1 g4
   | succ i =>
    cases j with
    | zero =>
     have h2:b∈[a]:=h2;rw [O8] at h2;subst h2;exact absurd (ih.1 i b h1).1 g4
    | succ j=>exact congrArg (· + 1) (ih.2 i j b h1 h2)
def Ag.pin {ms:List Bool}{vs:List V}{ds:List PyData}{as:List Addr}(h:Ag K H Hm ms vs ds as):∀ n,∀ q∈eT ms n as,∃ i,q.1=n + i/\vs[i]?=some (.ref q.2)/\∃ es,(ini ms ds)[i]?=some (some (.ow true,.list es)):=by
 induction h with
 | nil=>exact fun n q h=>by cases h
 | @sh ms vs ds as v d r _ ih =>
  intro n q h;obtain ⟨i,e,h1,h2⟩:=ih (n + 1) q h;exact ⟨i + 1,by omega,h1,h2⟩
 | @mu ms vs ds as a xs es g1 g2 g3 g4 _ ih =>
  intro n q h;have h:q∈(n,a)::eT ms (n + 1) as:=h;rcases O9.mp h with rfl | h
  ·exact ⟨0,rfl,rfl,es,rfl⟩
  ·obtain ⟨i,e,h1,h2⟩:=ih (n + 1) q h;exact ⟨i + 1,by omega,h1,h2⟩
def Ag.back {H' Hm':Hp}{E:En}{ms:List Bool}{vs:List V}{ds:List PyData}{as:List Addr}(h:Ag K H Hm ms vs ds as):∀ {n:Nat}{us:List PyData},(∀ q∈eT ms n as,∃ es xs,E[q.1]?=some (some (.ow true,.list es))/\H' q.2=some (.lst xs)/\au K Hm' xs es/\Hm' q.2=none)->d7 ms (E.drop n)=some us->Bk K H' Hm' as us:=by
 induction h with
 | nil=>intro n us _ e;cases e;exact .nil
 | @sh ms vs ds as v d r _ ih =>
  intro n us hq e;cases hE:E.drop n with
  | nil=>rw [hE] at e;cases e
  | cons o E' =>
   rw [hE] at e;refine ih (n:=n + 1) hq ?_;rw [show E.drop (n + 1)=E' from by rw [<- List.tail_drop,hE];rfl]
   exact e
 | @mu ms vs ds as a xs es g1 g2 g3 g4 _ ih =>
  intro n us hq e;obtain ⟨es',xs',e1,e2,e3,e4⟩:=hq (n,a) N9;cases hE:E.drop n with
  | nil=>rw [hE] at e;cases e
  | cons o E' =>
   have ho:o=some (.ow true,.list es'):=by
    have:=List.getElem?_drop (xs:=E) (i:=n) (j:=0);rw [hE,Nat.add_zero] at this;have e1:E[n]?=_:=e1;rw [e1] at this;exact Option.some.inj this
   subst ho;rw [hE] at e;have e:(d7 ms E').map (PyData.list es'::·)=some us:=e;cases hb:d7 ms E' with
   | none=>rw [hb] at e;cases e
   | some us' =>
    rw [hb] at e;cases e;refine .cons e2 e3 e4 (ih (n:=n + 1) (fun q hq'=>hq q (O6 _ hq')) ?_)
    rw [show E.drop (n + 1)=E' from by rw [<- List.tail_drop,hE];rfl]
    exact hb
def Dr {n:Nat}{σ:St}(h:n<=σ.length):sel (List.range n) σ=σ.take n:=by
 refine List.ext_getElem? fun i=>?_
 unfold sel;rw [OG,List.getElem?_take]
 by_cases c:i < n
 ·rw [List.getElem?_range c,if_pos c];have l:i < σ.length:=by omega
  rw [OQ l];show some ((σ[i]?).join)=some σ[i];rw [OQ l];rfl
 ·rw [if_neg c,List.getElem?_eq_none (by rw [OP];omega)]
  rfl
def Ag.rl {ms:List Bool}{vs:List V}{ds:List PyData}{as:List Addr}(h:Ag K H Hm ms vs ds as)(s:af Hm H) (m:Nat):Rl K ⟨H,Hm,eT ms 0 as⟩ (ini ms ds++List.replicate m none) (vs.map some++List.replicate m none) H Hm (fun i=>(fm ms as)[i]?.getD []):=by
 have hM:Gh.M ⟨H,Hm,eT ms 0 as⟩=as:=h.pins 0;have inE:∀ {i:Nat}{k:Kd}{d:PyData},(ini ms ds++List.replicate m none)[i]?=some (some (k,d))->(ini ms ds)[i]?=some (some (k,d)):=fun {i k d} e=>by
  rcases Nat.lt_or_ge i (ini ms ds).length with l | l
  ·rwa [List.getElem?_append_left l] at e
  ·rw [List.getElem?_append_right l] at e;have:=OO e;have:=List.eq_of_mem_replicate this;cases this
 have inV:∀ {i:Nat}{v:V},vs[i]?=some v->(vs.map some++List.replicate m none)[i]?=some (some v):=fun {i v} e=>by
  have l:=bJ e;rw [List.getElem?_append_left (by rw [O7];exact l),OG,e]
  rfl
 exact {
  len:=by rw [OR,OR,h.Nd,O7,List.length_replicate,List.length_replicate]
  sub:=s
  slot:=fun i k d e=>by
   obtain ⟨v,h1,h2⟩:=h.slot (inE e);exact ⟨v,inV h1,h2⟩
  off:=fun i a ha=>(h.FT.1 i a ha).2.1
  bx:=fun i a ha=>by
   obtain ⟨_,_,xs,e⟩:=h.FT.1 i a ha;exact ⟨_,e,jY⟩
  aD:=fun i j a h1 h2=>h.FT.2 i j a h1 h2
  fr:=fun p o _ e=>e
  new:=fun i a ha=>.inl (by rw [hM];exact (h.FT.1 i a ha).1)
  pin:=fun q hq=>by
   obtain ⟨i,e,h1,es,h2⟩:=h.pin 0 q hq;rw [Nat.zero_add] at e;rw [e];refine ⟨inV h1,es,?_⟩;rw [List.getElem?_append_left (bJ h2)];exact h2
  old:=fun _ _=>.inl rfl }
end
section
variable {P:Program}{w:World}{K:Frag}{mg:Str->Option Value}{base:Heap}
def aW (ms:List Bool)(Q:List PyData->Kd->PyData->Prop)(x:XC):bO where
 nx:=fun E=>∃ us,d7 ms E=some us/\Q us .sh .none
 rt:=fun E k v=>∃ us,d7 ms E=some us/\Q us k v
 xc:=x
def bK {x qual:Str}{st:Stmt}{f:Addr}{fd:FuncData}{N ps:List Str}{k:Nat}{ms:List Bool}{sp:bC}{d:DS}{m:Nat}(F:cH K x qual st f fd)(S:aB N ps (ao st))(hl:ms.length=ps.length)(hm:N.length<=ps.length + m)
  (hb:∀ (cdv:Value)(A:Around)(outer:List Env)(s:Shared)(H:Hp)(Ex:XK),dJ k (A.deeper (PyProof.Rows.envOfC qual (ao st) s.heap.objs.size f cdv))->SS (fN (bF P w) P w K mg base N qual (ao st) f cdv A outer s H Ex) Ex (gu st) d)
  (hd:∀ (ds:List PyData)(Q:List PyData->Kd->PyData->Prop)(x:XC),sp ds Q x->d (aW ms Q x) (ini ms ds++List.replicate m none)):aX P w K mg base (bF P w) (k + 1) f fd ps (aN mg K ms sp):=by
 refine F.NX S (fun vs H Q E h=>?_) (fun cdv A outer s H vs Q E hr h=>?_)
 ·obtain ⟨ds,as,Hm,P',x,_,ag,_⟩:=h;rw [ag.vg,hl]
 ·obtain ⟨ds,as,Hm,P',xc,sm,ag,hsp,ret,exn⟩:=h;refine ⟨_,iB,?_⟩;have R:=ag.rl sm m;have hpre:N.length >= vs.length:=by
   rw [ag.vg,hl];have:=congrArg List.length S.pre;rw [List.length_take] at this;omega
  have hsel:L2.start N vs=sel (List.range N.length) (vs.map some++List.replicate m none):=by
   have hv:vs.length=ps.length:=by rw [ag.vg,hl]
   rw [Dr (by rw [OR,O7,List.length_replicate];omega)]
   unfold L2.start;rw [List.take_append,O7,List.take_of_length_le (by rw [O7];exact hpre),List.take_replicate]
   congr 2;omega
  rw [hsel];have hM:Gh.M ⟨H,Hm,eT ms 0 as⟩=as:=ag.pins 0;have fin:∀ {E':En}{k:Kd}{v:PyData}{u:V}{σ':St}{H' Hm':Hp}{F':Nat->List Addr}{fp:List Addr},(∃ us,d7 ms E'=some us/\P' us k v)->Rl K ⟨H,Hm,eT ms 0 as⟩ E' σ' H' Hm' F'->Tm K ⟨H,Hm,eT ms 0 as⟩ F' H' Hm' k u v fp->Q u H':=by
   rintro E' k v u σ' H' Hm' F' fp ⟨us,hus,p⟩ R' T;refine ret us k v u H' Hm' fp p (fun a o e=>?_) R'.sub (fun p o hp e=>R'.fr p o (by rw [hM];exact hp) e) (fun a _ ha=>R'.old a ha) ?_ T.own fun a ha=>⟨T.new a ha,T.off a ha⟩
   ·have:H a≠none:=fun z=>by rw [sm _ _ e] at z;cases z
    rcases R'.old a this with e' | ⟨e',_⟩
    ·exact e'.trans e
    ·have e':Hm a=none:=e';rw [e] at e';cases e'
   ·refine ag.back (E:=E') (n:=0) (fun q hq=>?_) (by rw [List.drop_zero];exact hus)
    obtain ⟨h1,es,h2⟩:=R'.pin q hq;obtain ⟨v',h3,h4⟩:=R'.slot _ _ _ h2;have hF:=R'.zY hq;rw [h1] at h3;cases h3;rw [hF] at h4;cases h4 with
    | ow e1 e2=>exact ⟨es,_,h2,e1,e2,R'.off q.1 q.2 (by rw [hF];exact N9)⟩
  refine hb cdv A outer s H E hr ⟨H,Hm,eT ms 0 as⟩ (aW ms P' xc) _ _ H Hm _ _ (fun c d' C a H' hC hx fr ha hn=>exn c d' C a H' hC hx (fun p o hp ho=>fr p o (by rw [hM];exact hp) ho) ha hn) R (hd ds P' xc hsp) (fun E' σ' H' Hm' F' p R' _=>?_) (fun E' k v u σ' H' Hm' F' fp p R' T=>fin p R' T)
  exact fin (k:=.sh) (v:=.none) (u:=.aY) p R' (Tm.sh .aY)
end
section
variable {X:Cx}{Ex:XK}{π:List Nat}
def xI {i:Int} {j}{pos:Pos}:SE X Ex π (.Constant (.int i) j pos) (dC (.int i)):=zS Ke fun _=>.int i
def xS {x:Str} {j}{pos:Pos}:SE X Ex π (.Constant (.str x) j pos) (dC (.str x)):=zS Cb fun _=>.str x
def xB {b:Bool} {j}{pos:Pos}:SE X Ex π (.Constant (.bool b) j pos) (dC (.bool b)):=zS LY fun _=>.bl b
def xN {j}{pos:Pos}:SE X Ex π (.Constant .none j pos) (dC .none):=zS JL fun _=>.aY
def xV (j:Nat){i:Nat}{x:Str}{pos:Pos}(hN:X.N[j]?=some x:=by rfl)(hv:gZ X.env.scope x:=by first | exact Or.inl rfl | exact Or.inr (Or.inl rfl) | exact Or.inr (Or.inr rfl))(hj:π[j]?=some i:=by rfl)(hd:(x == ("__debug__":Str))=false:=by decide)
  (hcd:(x == ("__classdict__":Str))=false:=by decide):SE X Ex π (.Name x pos) (aT i):=Li (dG hN hv hd hcd) hj
def a0:aL X Ex π [] []:=.nil
def aP (j:Nat){i:Nat}{x:Str}{pos:Pos}{es:List Expr}{as:List Arg}(S:aL X Ex π es as)(hN:X.N[j]?=some x:=by rfl)(hv:gZ X.env.scope x:=by first | exact Or.inl rfl | exact Or.inr (Or.inl rfl) | exact Or.inr (Or.inr rfl))(hj:π[j]?=some i:=by rfl)(hd:(x == ("__debug__":Str))=false:=by decide)
  (hcd:(x == ("__classdict__":Str))=false:=by decide):aL X Ex π (.Name x pos::es) (.pk i::as):=.pk (dG hN hv hd hcd) hj S
def aE {e:Expr}{d:DE}{es:List Expr}{as:List Arg}(h:SE X Ex π e d)(S:aL X Ex π es as):aL X Ex π (e::es) (.ev d::as):=.ev h S
def l9:DR:=lZ fun i j=>.int (i - j)
def i9:DR:=um (fun _ j=>0 < j) fun i j=>.int (i % j)
def rY:DR:=um AM fun i j=>.int (i / j)
def Du:DR:=um Er fun i j=>.int (i ^ j.toNat)
def FI:DR:=lZ fun i j=>.bool (decide (i < j))
def N3:DR:=lZ fun i j=>.bool (decide (i<=j))
def zv:DR:=lZ fun i j=>.bool (decide (j < i))
def JE:DR:=lZ fun i j=>.bool (decide (j<=i))
def vP:DR:=fun ds P=>match ds with
 | [.int a]=>P .sh (.int (-a))
 | _=>False
def HA {K:Frag}:cM K vP (r1 (rU fun i=>.int (-i))):=by
 intro H Hm vs ds P Q s r h q;unfold vP at h;split at h
 ·obtain ⟨x,rfl,h1⟩:=c7 r;cases h1;exact ⟨_,rfl,bu.sc q s h (.int _)⟩
 ·exact h.elim
variable {a b:Expr}{pos:Pos}{as:List Arg}
def fK (S:aL X Ex π [a,b] as):SE X Ex π (.BinOp a .Add b pos) (aa c9 as):=lA Iv G8 S
def xw (S:aL X Ex π [a,b] as):SE X Ex π (.BinOp a .Sub b pos) (aa l9 as):=lA K8 (mw fun _ _ _=>.int _) S
def ny (S:aL X Ex π [a,b] as):SE X Ex π (.BinOp a .Mult b pos) (aa iw as):=lA Iw G7 S
def kY (S:aL X Ex π [a,b] as):SE X Ex π (.BinOp a .Mod b pos) (aa i9 as):=lA JG (sd fun _ _ _=>.int _) S
def Ai (S:aL X Ex π [a,b] as):SE X Ex π (.BinOp a .FloorDiv b pos) (aa rY as):=lA Ei (sd fun _ _ _=>.int _) S
def Nj (S:aL X Ex π [a,b] as):SE X Ex π (.BinOp a .Pow b pos) (aa Du as):=lA Lk (sd fun _ _ _=>.int _) S
def ND (S:aL X Ex π [a] as):SE X Ex π (.UnaryOp .USub a pos) (aa vP as):=Mt IL HA S
def Ga (hu:X.A.units + 64 < cLine)(S:aL X Ex π [a,b] as):SE X Ex π (.Compare a [.Eq] [b] pos) (aa iU as):=Jy (BZ hu) (jA _) Bx S
def MX (S:aL X Ex π [a,b] as):bX X Ex π (.Compare a [.Lt] [b] pos) (aa FI as):=gr ue (jA _) (mw fun _ _ _=>.bl _) S
def Gd (S:aL X Ex π [a,b] as):bX X Ex π (.Compare a [.Gt] [b] pos) (aa zv as):=gr Mm (jA _) (mw fun _ _ _=>.bl _) S
def NV (S:aL X Ex π [a,b] as):bX X Ex π (.Compare a [.GtE] [b] pos) (aa JE as):=gr L7 (jA _) (mw fun _ _ _=>.bl _) S
def GL (hu:X.A.units + 64 < cLine)(S:aL X Ex π [a,b] as):bX X Ex π (.Compare a [.Eq] [b] pos) (aa iU as):=gr (BZ hu) (jA _) Bx S
def KI (hu:X.A.units + 64 < cLine)(S:aL X Ex π [a,b] as):bX X Ex π (.Compare a [.NotEq] [b] pos) (aa mO as):=gr (Km hu) (jA _) LA S
def MS (S:aL X Ex π [a,b] as):bX X Ex π (.Compare a [.Is] [b] pos) (aa (dR false) as):=gr Ll (jA _) IF S
def NN (hu:X.A.units + 64 < cLine)(S:aL X Ex π [a,b] as)(hm:behindInMarks .In b=false:=by rfl):bX X Ex π (.Compare a [.In] [b] pos) (aa (gH false) as):=gr (Kg hu) hm (yE false) S
def Jx (hu:X.A.units + 64 < cLine)(S:aL X Ex π [a,b] as)(hm:behindInMarks .NotIn b=false:=by rfl):bX X Ex π (.Compare a [.NotIn] [b] pos) (aa (gH true) as):=gr (Cj hu) hm (yE true) S
def tU {e:Expr}{d:DE}(h:SE X Ex π e d)(he:∀ whole,isTrue e X.env whole=(do let v <- whole;standAt e.pos;holding [v] (truthy v)):=by intro _;rfl):bX X Ex π e d:=h.yU he
def tV (j:Nat){i:Nat}{x:Str}{pos:Pos}(hN:X.N[j]?=some x:=by rfl)(hv:gZ X.env.scope x:=by first | exact Or.inl rfl | exact Or.inr (Or.inl rfl) | exact Or.inr (Or.inr rfl))(hj:π[j]?=some i:=by rfl)(hd:(x == ("__debug__":Str))=false:=by decide)
  (hcd:(x == ("__classdict__":Str))=false:=by decide):ST X Ex π (.Name x pos) (xC i):=Nu (dG hN hv hd hcd) hj fun _=>rfl
def bH (hu:X.A.units + 64 < cLine)(S:aL X Ex π [a,b] as)(hs:lI b:=by intro _ _;rfl):SE X Ex π (.Subscript a b pos) (aa aA as):=L6 (M9 hu) hs GS S
variable {p:Pos}
def iY (hm:X.mg "len"=none)(S:aL X Ex π [a] as)(hg:Gl X "len":=by rfl)(ns:noStar a=true:=by rfl):SE X Ex π (.Call (.Name "len" p) [a] [] pos) (aa dH as):=ic (wQ.or C0) Fd hg hm PySem.boot_len (by decide) (by decide) (by rw [OH,ns];rfl) S
def oF (hm:X.mg "list"=none)(S:aL X Ex π [a] as)(hg:Gl X "list":=by rfl)(ns:noStar a=true:=by rfl):SE X Ex π (.Call (.Name "list" p) [a] [] pos) (aa gX as):=nH uB Dy hg hm PyProof.Rows.boot_list (by decide) (by decide) (by rw [OH,ns];rfl) S
def xH (hm:X.mg "tuple"=none)(S:aL X Ex π [a] as)(hg:Gl X "tuple":=by rfl)(ns:noStar a=true:=by rfl):SE X Ex π (.Call (.Name "tuple" p) [a] [] pos) (aa iS as):=nH mQ Dk hg hm PyProof.Rows.boot_tuple (by decide) (by decide) (by rw [OH,ns];rfl) S
def AA (hm:X.mg "min"=none)(S:aL X Ex π [a,b] as)(hc:X.calm=true:=by rfl)(hg:Gl X "min":=by rfl)(ns:noStar a=true:=by rfl)(ns2:noStar b=true:=by rfl):SE X Ex π (.Call (.Name "min" p) [a,b] [] pos) (aa oq as):=ic (BH hc) FU hg hm PyProof.Rows.boot_min (by decide) (by decide) (by rw [OH,OH,ns,ns2];rfl) S
def Es (hm:X.mg "max"=none)(S:aL X Ex π [a,b] as)(hc:X.calm=true:=by rfl)(hg:Gl X "max":=by rfl)(ns:noStar a=true:=by rfl)(ns2:noStar b=true:=by rfl):SE X Ex π (.Call (.Name "max" p) [a,b] [] pos) (aa qB as):=ic (BC hc) FU hg hm PyProof.Rows.boot_max (by decide) (by decide) (by rw [OH,OH,ns,ns2];rfl) S
def NJ (hm:X.mg "abs"=none)(S:aL X Ex π [a] as)(hg:Gl X "abs":=by rfl)(ns:noStar a=true:=by rfl):SE X Ex π (.Call (.Name "abs" p) [a] [] pos) (aa uM as):=ic Ed IE hg hm PyProof.Rows.boot_abs (by decide) (by decide) (by rw [OH,ns];rfl) S
def NC (hm:X.mg "int"=none)(S:aL X Ex π [a] as)(hg:Gl X "int":=by rfl)(ns:noStar a=true:=by rfl):SE X Ex π (.Call (.Name "int" p) [a] [] pos) (aa k8 as):=nH Dd Bp hg hm PyProof.Rows.boot_int (by decide) (by decide) (by rw [OH,ns];rfl) S
def Ja (hm:X.mg "sorted"=none)(S:aL X Ex π [a] as)(hg:Gl X "sorted":=by rfl)(ns:noStar a=true:=by rfl):SE X Ex π (.Call (.Name "sorted" p) [a] [] pos) (aa nJ as):=ic vI Bj hg hm PyProof.Rows.boot_sorted (by decide) (by decide) (by rw [OH,ns];rfl) S
def u5 {pos2 p2:Pos}(h1:X.mg "list"=none)(h2:X.mg "range"=none)(S:aL X Ex π [a] as)(hc:X.calm=true:=by rfl)(g1:Gl X "list":=by rfl)(g2:Gl X "range":=by rfl)(ns:noStar a=true:=by rfl):SE X Ex π (.Call (.Name "list" p) [.Call (.Name "range" p2) [a] [] pos2] [] pos) (aa iQ as):=D8 hc g1 h1 g2 h2 ns S
def eV {es:List Expr}(S:aL X Ex π es as)(ns:es.all noStar=true:=by rfl):SE X Ex π (.List es pos) (aa dm as):=La ns S
def Ax {es:List Expr}{k:Nat}(S:aL X Ex π es as)(ns:es.all noStar=true:=by rfl):SE X Ex π (.Tuple es k pos) (aa kR as):=Jo ns S
variable {tg:Expr}
def yD (hm:X.mg "range"=none)(S:aL X Ex π [a] as)(hg:Gl X "range":=by rfl)(ns:noStar a=true:=by rfl):SI X Ex π tg (.Call (.Name "range" p) [a] [] pos) (ku pC as):=MM hg hm ns S
def NT (hm:X.mg "range"=none)(S:aL X Ex π [a,b] as)(hg:Gl X "range":=by rfl)(ns:noStar a=true:=by rfl)(ns2:noStar b=true:=by rfl):SI X Ex π tg (.Call (.Name "range" p) [a,b] [] pos) (ku Bw as):=MJ hg hm ns ns2 S
def Nr {elts:List Expr}{x1:Nat}{tp:Pos}{d:DE}(hm:X.mg "enumerate"=none)(h:SE X Ex π a d)(hg:Gl X "enumerate":=by rfl)(ns:noStar a=true:=by rfl):SI X Ex π (.Tuple elts x1 tp) (.Call (.Name "enumerate" p) [a] [] pos) (yL d):=Mf hg hm ns h
def E9 {elts:List Expr}{x1:Nat}{tp:Pos}{d d2:DE}(hm:X.mg "zip"=none)(h:SE X Ex π a d)(h2:SE X Ex π b d2)(hg:Gl X "zip":=by rfl)(ns:noStar a=true:=by rfl)(ns2:noStar b=true:=by rfl):SI X Ex π (.Tuple elts x1 tp) (.Call (.Name "zip" p) [a,b] [] pos) (yz d d2):=Mr hg hm ns ns2 h h2
def gN (j:Nat){i:Nat}{x:Str}(hN:X.N[j]?=some x:=by rfl)(hj:π[j]?=some i:=by rfl)(hl:Loc X.env.scope x:=by first | exact Or.inl rfl | exact Or.inr rfl)(hf:X.fn x=true\/X.env.scope.names.lookup x=some .local:=by first | exact Or.inl rfl | exact Or.inr rfl):eW X π (.Name x p) (.nm i):=.nm hN hj hl hf
def g0:jO X π [] []:=.nil
def gC (j:Nat){i:Nat}{x:Str}{ts:List Expr}{is:List Nat}(t:jO X π ts is)(hN:X.N[j]?=some x:=by rfl)(hj:π[j]?=some i:=by rfl)(hl:Loc X.env.scope x:=by first | exact Or.inl rfl | exact Or.inr rfl)(hf:X.fn x=true\/X.env.scope.names.lookup x=some .local:=by first | exact Or.inl rfl | exact Or.inr rfl):jO X π (.Name x p::ts) (i::is):=.cons hN hj hl hf t
def gT {ts:List Expr}{k:Nat}{is:List Nat}(t:jO X π ts is):eW X π (.Tuple ts k p) (.tp is):=.tp t
def n9:Passes (bF X.prog X.w) X E0:=by
 rintro pins σ H s e s' I ⟨_,_,_,_,_,_,_,_,_,_,_,_,_,_,z⟩;exact z.elim
def aM {x:Str}{k k':Nat}{ps:List Str}{ms:List Bool}{sp:bC}{e:Expr}{es:List Expr}(F:bZ X.prog X.w X.K X.mg X.base k x ps (aN X.mg X.K ms sp))(hp:Passes (bF X.prog X.w) X Ex)(hr:dJ k' X.A)(S:aL X Ex π (e::es) as)(hk:k<=k':=by decide)(hg:Gl X x:=by rfl)(hd:(x == ("__debug__":Str))=false:=by decide)
  (ns:(e::es).all noStar=true:=by rfl):SE X Ex π (.Call (.Name x p) (e::es) [] pos) (aH sp ms as):=IC F hp (hr.mono hk) hg hd ns S
def cy {d:DE}(h:SE X Ex (aR X) a d):S1 X Ex (.Return (some a) pos) (bR d):=MC h
def qG (i:Nat){x:Str}(hN:X.N[i]?=some x:=by rfl)(hv:gZ X.env.scope x:=by first | exact Or.inl rfl | exact Or.inr (Or.inl rfl) | exact Or.inr (Or.inr rfl))(hd:(x == ("__debug__":Str))=false:=by decide)
  (hcd:(x == ("__classdict__":Str))=false:=by decide):S1 X Ex (.Return (some (.Name x p)) pos) (iJ i):=K4 (dG hN hv hd hcd) (bJ hN)
def gx {d:DE}(h:SE X Ex (aR X) a d)(hs:swapsWith a none pos.line X.env=pure false:=by rfl):S1 X Ex (.Expr a pos) (d9 d):=KD h hs
def aZ (i:Nat){x:Str}{d:DE}(hN:X.N.Nodup)(h:SE X Ex (aR X) a d)(hi:X.N[i]?=some x:=by rfl)(hl:Loc X.env.scope x:=by first | exact Or.inl rfl | exact Or.inr rfl)(hs:swapsWith a (some (.Name x p)) pos.line X.env=pure false:=by rfl)(hf:X.fn x=true\/X.env.scope.names.lookup x=some .local:=by first | exact Or.inl rfl | exact Or.inr rfl) :
  S1 X Ex (.Assign [.Name x p] a pos) (aJ i d):=MA hN hi hl hs hf h
def Dw {ts:List Expr}{is:List Nat}{k:Nat}{d:DE}(hN:X.N.Nodup)(ht:jO X (aR X) ts is)(h:SE X Ex (aR X) a d)(hc:X.calm=true:=by rfl)(hs:swapsWithSole [.Tuple ts k p] a pos.line X.env=pure false:=by rfl)(hw:swappedStores [.Tuple ts k p] a X.env=pure none:=by rfl):S1 X Ex (.Assign [.Tuple ts k p] a pos) (m6 is d):=MH hc hN ht hs hw h
def rH (i:Nat){x:Str}{pos':Pos}{dj de:DE}(hu:X.A.units + 64 < cLine)(hd:SE X Ex (aR X) a de)(hd2:SE X Ex (aR X) b dj)(hN:X.N[i]?=some x:=by rfl)(hv:gZ X.env.scope x:=by first | exact Or.inl rfl | exact Or.inr (Or.inl rfl) | exact Or.inr (Or.inr rfl))(hs:swapsWithSole [.Subscript (.Name x p) b pos'] a pos.line X.env=pure false:=by rfl)
  (ha:∀ v,assign (.Subscript (.Name x p) b pos') X.env v=(do
   let ov <- holding [v] (eval (.Name x p) X.env)
   let iv <- holding [v,ov] (eval b X.env)
   standAt pos'
   holding [v,ov,iv] (setItem ov iv v)
   release [v,ov,iv] []):=by intro _;rfl)(hb:(x == ("__debug__":Str))=false:=by decide)(hcd:(x == ("__classdict__":Str))=false:=by decide):S1 X Ex (.Assign [.Subscript (.Name x p) b pos'] a pos) (f7 i dj de):=LK hu (dG hN hv hb hcd) (lD (bJ hN)) hs ha hd hd2
def jg {t:DT}{d e:DS}{u v:List Stmt}(hc:ST X Ex (aR X) a t)(ha:SS X Ex u d)(hb:SS X Ex v e):S1 X Ex (.If a u v pos) (dQ t d e):=Ny hc ha hb
def CP {t:DT}{d:DS}{u:List Stmt}(hp:PassesOwn (model X.prog X.w) X.A X.env X.xe)(hc:ST X Ex (aR X) a t)(hb:SS X Ex u d):S1 X Ex (.While a u [] pos) (nO t d):=HY hp hc hb
def gA {u:List Stmt}{di:DI}{t:Tg}{d:DS}(hp:PassesOwn (model X.prog X.w) X.A X.env X.xe)(hN:X.N.Nodup)(hi:SI X Ex (aR X) tg a di)(ht:eW X (aR X) tg t)(hb:SS X Ex u d)(hc:X.calm=true:=by rfl)(hs:∀ x,foldedSetIterable a X.env x=pure x:=by intro _;rfl):S1 X Ex (.For tg a u [] pos) (eY di t d):=MN hp hc hN hi ht hb hs
end
section
variable {X:Cx}{Ex:XK}{π:List Nat}
def e0:oV X Ex π [] []:=.nil
def eC {e:Expr}{d:DE}{es:List Expr}{ds:List DE}(h:SE X Ex π e d)(t:oV X Ex π es ds):oV X Ex π (e::es) (d::ds):=.cons h t
def xM (j:Nat){i:Nat}{x name:Str}{id:String}{p apos cpos:Pos}{es:List Expr}{ds:List DE}{f:DM}{r:V->List V->Hp->VK->Prop}(hm:qK X id r)(D:zB X.K f r)(slot:Slot "list" name id)(hty:typeOf (.builtin id)=pure (.type "method_descriptor"))(S:oV X Ex π es ds)
  (hN:X.N[j]?=some x:=by rfl)(hv:gZ X.env.scope x:=by first | exact Or.inl rfl | exact Or.inr (Or.inl rfl) | exact Or.inr (Or.inr rfl))(hj:π[j]?=some i:=by rfl)(ns:es.all noStar=true:=by rfl)(l30:decide (es.length < 30)=true:=by rfl)(hline:(apos.endLine == cpos.line)=true:=by rfl)(hd:(x == ("__debug__":Str))=false:=by decide)
  (hcd:(x == ("__classdict__":Str))=false:=by decide):SE X Ex π (.Call (.Attribute (.Name x p) name apos) es [] cpos) (oY f i ds):=L3 hm D slot hty (dG hN hv hd hcd) hj ns (OS l30) hline S
def jM:List Nat->Bool
 | []=>true
 | a::r=>!r.contains a && jM r
theorem gw:∀ {l:List Nat},jM l=true->l.Nodup
 | [],_=>List.nodup_nil
 | a::r,h=>by
  rw [jM,OA,Bool.not_eq_true',List.contains_eq_mem,decide_eq_false_iff_not] at h;exact List.nodup_cons.mpr ⟨h.1,gw h.2⟩
def rK (π cs ix:List Nat)(vs:List Str)(sl:List Nat):Bool:=(cs.length == vs.length) && ix.all (fun i=>Nat.blt i π.length) && cs.all (fun c=>!π.contains c) && jM (br π cs ix) && sl.all (fun i=>cs.contains i)
def qF {π cs ix:List Nat}{vs:List Str}{sl:List Nat}(h:rK π cs ix vs sl=true):cs.length=vs.length/\(∀ i∈ix,i < π.length)/\(∀ c∈cs,c∉π)/\(br π cs ix).Nodup/\∀ i∈sl,i∈cs:=by
 unfold rK at h;rw [OA,OA,OA,OA,OC,OC,OC,beq_iff_eq] at h;obtain ⟨⟨⟨⟨h1,h2⟩,h3⟩,h4⟩,h5⟩:=h;refine ⟨h1,fun i hi=>by simpa using h2 i hi,fun c hc z=>?_,gw h4,fun i hi=>?_⟩
 ·have:=h3 c hc;rw [Bool.not_eq_true',List.contains_eq_mem,decide_eq_false_iff_not] at this;exact this z
 ·have:=h5 i hi;rw [List.contains_eq_mem,decide_eq_true_eq] at this;exact this
def Gv (r:List Comprehension):Bool:=r.all fun g=>g.is_async == 0
def wA {r:List Comprehension}(h:Gv r=true):∀ g∈r,g.is_async=0:=fun g hg=>by
 have:=OC.mp h g hg
 simpa using this
variable {cs:List Nat}{elt tg iter:Expr}{ifs:List Expr}{scope:Scope}{pos:Pos}
def i8 {rest:List Comprehension}{vs NB:List Str}{ix:List Nat}{di:DI}{t:Tg}{c:DT}{r:DC}(B:k9 X.N X.env.scope scope vs NB ix=true)(hi:SI X Ex π tg iter di)(ht:∀ (C:Addr)(s:Shared)(H:Hp)(fp:List Addr),eW (X.block scope C NB s H fp) (br π cs ix) tg t)
  (hif:∀ (C:Addr)(s:Shared)(H:Hp)(fp:List Addr),gG (X.block scope C NB s H fp) E0 (br π cs ix) ifs c)(hr:∀ (C:Addr)(s:Shared)(H:Hp)(fp:List Addr)(D:Addr),SL (X.block scope C NB s H fp) (br π cs ix) cs D elt (⟨tg,iter,ifs,0⟩:: rest) scope pos 1 r)
  (hc:X.calm=true:=by rfl)(ck:rK π cs ix vs t.slots=true:=by rfl)(ha:Gv rest=true:=by rfl)(hs:∀ v,foldedSetIterable iter X.env v=pure v:=by intro _;rfl):SE X Ex π (.ListComp elt (⟨tg,iter,ifs,0⟩:: rest) scope pos) (cu cs di t c r) :=
 let ⟨h1,h2,h3,h4,h5⟩:=qF ck
 Jp (cB.of B) hc h1 h2 h3 h4 hi ht h5 hif hr (wA ha) hs
def Nz {j:Nat}{y:Str}{py spos:Pos}{rest:List Comprehension}{vs NB:List Str}{ix:List Nat}{di:DI}{t:Tg}{c:DT}{r:DC}(hN:X.N.Nodup)(B:k9 X.N X.env.scope scope vs NB ix=true)(hi:SI X Ex (aR X) tg iter di)(ht:∀ (C:Addr)(s:Shared)(H:Hp)(fp:List Addr),eW (X.block scope C NB s H fp) (br (aR X) cs ix) tg t)
  (hif:∀ (C:Addr)(s:Shared)(H:Hp)(fp:List Addr),gG (X.block scope C NB s H fp) E0 (br (aR X) cs ix) ifs c)(hr:∀ (C:Addr)(s:Shared)(H:Hp)(fp:List Addr)(D:Addr),SL (X.block scope C NB s H fp) (br (aR X) cs ix) cs D elt (⟨tg,iter,ifs,0⟩:: rest) scope pos 1 r)
  (hj:X.N[j]?=some y:=by rfl)(hy:X.env.scope.names.lookup y=some .local:=by rfl)(hsw:swapsWith (.ListComp elt (⟨tg,iter,ifs,0⟩:: rest) scope pos) (some (.Name y py)) spos.line X.env=pure true:=by rfl)
  (hc:X.calm=true:=by rfl)(ck:rK (aR X) cs ix vs t.slots=true:=by rfl)(ha:Gv rest=true:=by rfl)(hs:∀ v,foldedSetIterable iter X.env v=pure v:=by intro _;rfl):S1 X Ex (.Assign [.Name y py] (.ListComp elt (⟨tg,iter,ifs,0⟩:: rest) scope pos) spos) (aJ j (cu cs di t c r)) :=
 let ⟨h1,h2,h3,h4,h5⟩:=qF ck
 MP hN hj hy (cB.of B) hc h1 h2 h3 h4 hi ht h5 hif hr (wA ha) hs hsw
def su (N:List Str)(fs scope:Scope) (x:Str)(vs NB:List Str)(ix:List Nat):Bool :=
 decide (scope.kind=.function) && scope.names.all (fun y=>decide (y.2≠.cell) || decide (y.1=x)) && scope.names.all (fun y=>decide (y.2≠.local) || decide (scope.names.lookup y.1=some .local)) &&
 scope.names.all (fun y=>decide (y.2≠.free) || (decide (y.1≠x) && (decide (fs.names.lookup y.1=some .cell) || decide (fs.names.lookup y.1=some .free)))) && decide (scope.names.lookup x=some .cell) &&
 decide (NB=vs++ix.map fun i=>N.getD i "") && decide NB.Nodup && ix.all fun i=>match N[i]? with | some y=>decide (scope.names.lookup y=some .free) | none=>false
def cR.of {x:Str}{vs NB:List Str}{ix:List Nat}(h:su X.N X.env.scope scope x vs NB ix=true)(cf:∀ (n:Nat)(acc:List (Str×Addr)),cellsFrom n scope.names acc=(x,n)::acc)(pc:∀ h:Heap,pushCells h scope.names=h.push n5):cR X scope x vs NB ix:=by
 unfold su at h;simp only [OA] at h;obtain ⟨⟨⟨⟨⟨⟨⟨h1,h2⟩,h3⟩,h4⟩,h5⟩,h6⟩,h7⟩,h8⟩:=h;refine ⟨OS h1,fun y hy e=>?_,fun y hy e=>?_,fun y hy=>?_,fun hy=>?_,OS h5,OS h6,OS h7,fun i hi=>?_,cf,pc⟩
 ·have z:=OC.mp h2 y hy;rw [Bool.or_eq_true] at z;exact z.elim (fun z=>absurd e (OS z)) fun z=>OS z
 ·have z:=OC.mp h3 y hy;rw [Bool.or_eq_true] at z;exact z.elim (fun z=>absurd e (OS z)) fun z=>OS z
 ·have z:=OC.mp h4 _ hy;rw [Bool.or_eq_true,OA,Bool.or_eq_true] at z;exact z.elim (fun z=>absurd rfl (OS z)) fun z=>z.2.imp OS OS
 ·have z:=OC.mp h4 _ hy;rw [Bool.or_eq_true,OA] at z;exact z.elim (fun z=>absurd rfl (OS z)) fun z=>absurd rfl (OS z.1)
 ·have z:=OC.mp h8 i hi;split at z
  ·rename_i y e;exact ⟨y,e,OS z⟩
  ·cases z
def Ky {cx:Str}{rest:List Comprehension}{vs NB:List Str}{ix:List Nat}{di:DI}{t:Tg}{c:DT}{r:DC}(B:su X.N X.env.scope scope cx vs NB ix=true)(hi:SI X Ex π tg iter di)(ht:∀ (C c':Addr)(s:Shared)(H:Hp)(fp:List Addr),eW (X.aK scope cx C c' NB s H fp) (br π cs ix) tg t)
  (hif:∀ (C c':Addr)(s:Shared)(H:Hp)(fp:List Addr),gG (X.aK scope cx C c' NB s H fp) E0 (br π cs ix) ifs c)(hr:∀ (C c':Addr)(s:Shared)(H:Hp)(fp:List Addr)(D:Addr),SL (X.aK scope cx C c' NB s H fp) (br π cs ix) cs D elt (⟨tg,iter,ifs,0⟩:: rest) scope pos 1 r)
  (cf:∀ (n:Nat)(acc:List (Str×Addr)),cellsFrom n scope.names acc=(cx,n)::acc:=by intro _ _;rfl)(pc:∀ h:Heap,pushCells h scope.names=h.push n5:=by intro _;rfl)
  (hc:X.calm=true:=by rfl)(ck:rK π cs ix vs t.slots=true:=by rfl)(ha:Gv rest=true:=by rfl)(hs:∀ v,foldedSetIterable iter X.env v=pure v:=by intro _;rfl):SE X Ex π (.ListComp elt (⟨tg,iter,ifs,0⟩:: rest) scope pos) (cu cs di t c r) :=
 let ⟨h1,h2,h3,h4,h5⟩:=qF ck
 Lc (cR.of B cf pc) hc h1 h2 h3 h4 hi ht h5 hif hr (wA ha) hs
def eu {D:Addr}{gens:List Comprehension}{k:Nat}{d:DE}(h:SE X E0 π elt d)(hk:gens[k]?=none:=by rfl):SL X π cs D elt gens scope pos k (cF sizeLine d):=Ib h hk
def qm:PyData->Option String
 | .none=>some "NoneType"
 | .bool _=>some "bool"
 | .int _=>some "int"
 | .str _=>some "str"
 | .list _=>some "list"
 | .tuple _=>some "tuple"
 | .dict _=>none
def gM (c t:String):Bool:=t == c || (c == "int" && t == "bool")
def qJ (c:String):DR:=fun ds P=>match ds with
 | [d]=>∃ t,qm d=some t/\P .sh (.bool (gM c t))
 | _=>False
def tys:List String:=["NoneType","bool","int","str","list","tuple"]
def uV (K:Frag)(cs:List String):Bool:=cs.all fun c=>tys.all fun t=>kitOne K (.type t) (.type c) == some (gM c t)
def Lu {K:Frag}{cs:List String}(h:uV K cs=true){c t:String}(hc:c∈cs)(ht:t∈tys):kitOne K (.type t) (.type c)=some (gM c t):=by
 have:=OC.mp (OC.mp h c hc) t ht
 simpa using this
def LZ {K:Frag}{H Hm:Hp}(s:af Hm H){v:V}{d:PyData}{t:String}(r:Rp K Hm v d)(h:qm d=some t):fL K H v (.type t)/\t∈tys:=by
 cases r with
 | aY=>cases h;exact ⟨.aY,by decide⟩
 | bl b=>cases h;exact ⟨.bl b,by decide⟩
 | int i=>cases h;exact ⟨.int i,by decide⟩
 | str x=>cases h;exact ⟨.str x,by decide⟩
 | lst a _ =>
  cases h;refine ⟨?_,by decide⟩
  rcases a with (a | ⟨o,a⟩) | ⟨its,n,a,_⟩
  ·exact .lst (s _ _ a)
  ·exact .bY (s _ _ a)
  ·exact .kl a
 | tup a _=>cases h;exact ⟨.tup (s _ _ a),by decide⟩
 | dk _ _=>cases h
 | dt _ _=>cases h
def JZ {x:Str}{c:String}{css:List String}{p p2 pos:Pos}{a:Expr}{as:List Arg}(kf:uV X.K css=true)(hc:css.contains c=true)(hm:X.mg "isinstance"=none)(hm2:X.mg x=none)(hv:bootBuiltins x=some (.type c))(hg:Gl X "isinstance")(hg2:Gl X x)(hn:x≠"__name__")(hd:(x == ("__debug__":Str))=false)(ns:noStar a=true)(S:aL X Ex π [a] as) :
  SE X Ex π (.Call (.Name "isinstance" p) [a,.Name x p2] [] pos) (aa (qJ c) as):=by
 refine eL (r:=fun vs H Q=>∃ v t,vs=[v]/\fL X.K H v (.type t)/\t∈tys/\Q (.bl (gM c t)) H) S (fun σ H Q h=>WE.of (mF Ez hg hm PyProof.Rows.boot_isinstance (cJ bE (cJ (rR (v:=.ty c) hg2 hm2 hv rfl hn hd) eS) (aS ns)) (by decide) (by decide) (aS ns) (by rfl)) ?_) ?_
 ·refine fun pins s I=>aF (h pins s I) fun v s1 ⟨y,H1,I1,r1,w,t,e,ty,ht,q⟩=>⟨y,H1,I1,r1,?_⟩
  cases e;refine ⟨_,_,_,_,rfl,ty,fun u hu=>?_,q⟩
  cases hu;exact Lu kf (by simpa using hc) ht
 ·intro H Hm vs ds P Q s r h q;unfold qJ at h;split at h
  ·obtain ⟨v,rfl,h1⟩:=c7 r;obtain ⟨t,e,h⟩:=h;obtain ⟨ty,ht⟩:=LZ s h1 e;exact ⟨v,t,rfl,ty,ht,bu.sc q s h (.bl _)⟩
  ·exact h.elim
def Al {x:Str}{c:String}{css:List String}{p p2 pos:Pos}{a:Expr}{as:List Arg}(kf:uV X.K css=true)(hm:X.mg "isinstance"=none)(hm2:X.mg x=none)(hv:bootBuiltins x=some (.type c))(S:aL X Ex π [a] as)(hc:css.contains c=true:=by decide)(hg:Gl X "isinstance":=by rfl)(hg2:Gl X x:=by rfl)(hn:x≠"__name__":=by decide)(hd:(x == ("__debug__":Str))=false:=by decide)(ns:noStar a=true:=by rfl) :
  SE X Ex π (.Call (.Name "isinstance" p) [a,.Name x p2] [] pos) (aa (qJ c) as):=JZ kf hc hm hm2 hv hg hg2 hn hd ns S
end
end Dv
namespace Dv
open PySem L2 PySem.W
open Classical in
noncomputable def Gh.eF (g:Gh)(H:Hp)(fp:List Addr):Gh:=⟨fun a=>if a∈fp then H a else g.H0 a,fun a=>if a∈fp then none else g.cY a,g.pins⟩
section
variable {K:Frag}{g:Gh}{E:En}{σ:St}{H H' Hm Hm':Hp}{F:Nat->List Addr}{fp:List Addr}
def jy {a:Addr}(h:a∈fp):(g.eF H fp).H0 a=H a:=by unfold Gh.eF;exact if_pos h
def ef {a:Addr}(h:a∉fp):(g.eF H fp).H0 a=g.H0 a:=by unfold Gh.eF;exact if_neg h
def Cc {a:Addr}(h:a∈fp):(g.eF H fp).cY a=none:=by unfold Gh.eF;exact if_pos h
def zG {a:Addr}(h:a∉fp):(g.eF H fp).cY a=g.cY a:=by unfold Gh.eF;exact if_neg h
structure iO (g:Gh)(F:Nat->List Addr)(H Hm:Hp)(fp:List Addr):Prop where
 zm:∀ a∈fp,∃ u,H a=some u/\oX u
 off:∀ a∈fp,Hm a=none
 aD:∀ a∈fp,∀ i,a∉F i
 new:∀ a∈fp,g.H0 a=none
def iO.bx (A:iO g F H Hm fp):∀ a∈fp,H a≠none:=fun a ha z=>by
 obtain ⟨u,hu,_⟩:=A.zm a ha;rw [z] at hu;cases hu
def iO.notM (A:iO g F H Hm fp)(R:Rl K g E σ H Hm F):∀ a∈fp,a∉g.M:=fun a ha m=>by
 obtain ⟨q,hq,rfl⟩:=OI.mp m;exact A.aD _ ha q.1 (by rw [R.zY hq];exact N9)
theorem Rl.eF (R:Rl K g E σ H Hm F)(A:iO g F H Hm fp):Rl K (g.eF H fp) E σ H Hm F where
 len:=R.len
 sub:=R.sub
 slot:=R.slot
 off:=R.off
 bx:=R.bx
 aD:=R.aD
 fr:=fun p o hp ho=>by
  by_cases c:p∈fp
  ·rw [jy c] at ho;exact ho
  ·rw [ef c] at ho;exact R.fr p o hp ho
 new:=fun i a ha=>by
  have c:a∉fp:=fun z=>A.aD a z i ha
  rw [ef c];exact R.new i a ha
 pin:=R.pin
 old:=fun a ha=>by
  by_cases c:a∈fp
  ·rw [Cc c];exact .inl (A.off a c)
  ·rw [ef c] at ha;rw [zG c];exact R.old a ha
def Rl.qu {E':En}{σ':St}{F':Nat->List Addr}(A:iO g F H Hm fp)(nM:∀ a∈fp,a∉g.M)(R:Rl K (g.eF H fp) E' σ' H' Hm' F'):Rl K g E' σ' H' Hm' F'/\iO g F' H' Hm' fp/\∀ a∈fp,H' a=H a:=by
 have keep:∀ a∈fp,H' a=H a:=fun a ha=>by
  cases e:H a with
  | none=>exact absurd e (A.bx a ha)
  | some o=>exact R.fr a o (nM a ha) (by rw [jy ha];exact e)
 refine ⟨?_,⟨fun a ha=>by rw [keep a ha];exact A.zm a ha,fun a ha=>?_,fun a ha i z=>?_,A.new⟩,keep⟩
 ·exact {
   len:=R.len
   sub:=R.sub
   slot:=R.slot
   off:=R.off
   bx:=R.bx
   aD:=R.aD
   fr:=fun p o hp ho=>by
    have c:p∉fp:=fun z=>by rw [A.new p z] at ho;cases ho
    exact R.fr p o hp (by rw [ef c];exact ho)
   new:=fun i a ha=>by
    rcases R.new i a ha with m | m
    ·exact .inl m
    ·by_cases c:a∈fp
     ·exact .inr (A.new a c)
     ·rw [ef c] at m;exact .inr m
   pin:=R.pin
   old:=fun a ha=>by
    have c:a∉fp:=fun z=>ha (A.new a z)
    have h':=R.old a (by rw [ef c];exact ha)
    rw [zG c] at h';exact h' }
 ·have h':=R.old a (by rw [jy ha];exact A.bx a ha)
  obtain ⟨u,hu,nt⟩:=A.zm a ha;exact h'.off (Cc ha) R.sub (by rw [keep a ha];exact hu) nt
 ·rcases R.new i a z with m | m
  ·exact nM a ha m
  ·rw [jy ha] at m;exact A.bx a ha m
theorem XL.eF {X:Cx}{Ex:XK}{x:XC}(A:iO g F H Hm fp)(h:XL X Ex x g):XL X Ex x (g.eF H fp):=fun c d C a H' hC hx fr ha hn=>by
 have c0:a∉fp:=fun z=>by rw [jy z] at hn;exact A.bx a z hn
 refine h c d C a H' hC hx (fun p o hp ho=>fr p o hp ?_) ha (by rw [ef c0] at hn;exact hn)
 have c:p∉fp:=fun z=>by rw [A.new p z] at ho;cases ho
 rw [ef c];exact ho
theorem dP.snoc {xs:List V}{ds:List PyData}{b:Addr}{ys:List V}{es:List PyData}(e:H b=some (.lst ys))(r:au K Hm ys es):∀ {xs:List V}{ds:List PyData}{fp:List Addr},dP K H Hm xs ds fp->b∉fp->dP K H Hm (xs++[.ref b]) (ds++[.list es]) (fp++[b])
 | _,_,_,.nil,n=>.own e r n .nil
 | _,_,_,.jI h1 h2 t,n=>.jI h1 h2 (t.snoc (xs:=xs) (ds:=ds) e r n)
 | _,_,_,.own h1 h2 h3 t,n=>.own h1 h2 (fun z=>by
   rcases OT.mp z with z | z
   ·exact h3 z
   ·exact n (O8.mp z ▸ N9)) (t.snoc (xs:=xs) (ds:=ds) e r fun z=>n (O6 _ z))
theorem dP.get {es:List PyData}:∀ {xs:List V}{ds:List PyData}{fp:List Addr}{m:Nat},dP K H Hm xs ds fp->ds[m]?=some (.list es)->∃ b ys,xs[m]?=some (.ref b)/\H b=some (.lst ys)/\au K Hm ys es/\b∈fp
 | _,_,_,_,.nil,h=>by simp at h
 | _,_,_,0,.jI e _ _,h=>by
  simp at h;rw [h] at e;cases e
 | _,_,_,m + 1,.jI _ _ t,h=>t.get (m:=m) (by simpa using h)
 | _,_,_,0,.own e r _ _,h=>by
  simp at h;subst h;exact ⟨_,_,rfl,e,r,N9⟩
 | _,_,_,m + 1,.own _ _ _ t,h=>by
  obtain ⟨b,ys,h1,h2,h3,h4⟩:=t.get (m:=m) (by simpa using h)
  exact ⟨b,ys,h1,h2,h3,O6 _ h4⟩
theorem dP.put {b:Addr}{ys:List V}{new:List PyData}(r:au K Hm ys new):∀ {xs:List V}{ds:List PyData}{fp:List Addr}{m:Nat},dP K H Hm xs ds fp->xs[m]?=some (.ref b)->(∃ es,ds[m]?=some (.list es))->dP K (upd H b (.lst ys)) Hm xs (ds.set m (.list new)) fp
 | _,_,_,_,.nil,h,_=>by simp at h
 | _,_,_,0,.jI e _ _,_,⟨es,h⟩=>by
  simp at h;rw [h] at e;cases e
 | _,_,_,m + 1,.jI e h2 t,h,⟨es,h'⟩=>.jI e h2 (t.put (m:=m) r (by simpa using h) ⟨es,by simpa using h'⟩)
 | _,_,_,0,.own (b:=b') e r' n t,h,_=>by
  simp at h;subst h;exact .own aq r n (t.step (af.refl _) fun a ha=>ai fun z=>n (z ▸ ha))
 | _,_,_,m + 1,.own (b:=b') (fp:=fp) e r' n t,h,⟨es,h'⟩=>by
  have h:_:=h;obtain ⟨b2,ys2,g1,g2,g3,g4⟩:=t.get (m:=m) (es:=es) (by simpa using h')
  simp at h;rw [h] at g1;cases g1;refine .own (by rw [ai (show b'≠b from fun z=>n (by rw [z];exact g4))];exact e) r' n (t.put (m:=m) r h ⟨es,by simpa using h'⟩)
def Rl.Nf (R:Rl K g E σ H Hm F){i:Nat}{k:Kd}{d d':PyData}{v:V}{b:Addr}{o:HO}(e:E[i]?=some (some (k,d)))(hv:σ[i]?=some (some v))(hb:b∈F i)(new:Own K (upd H b o) Hm k v d' (F i))(nt:oX o)(hp:k=.ow true->∃ ds,d'=.list ds) :
  Rl K g (E.set i (some (k,d'))) σ (upd H b o) Hm F:=by
 have na:=R.off i b hb;have up:∀ c,c≠b->upd H b o c=H c:=fun c hc=>ai hc
 have li:=bJ e;exact {
  len:=by rw [List.length_set];exact R.len
  sub:=fun c u hc=>by
   have:c≠b:=fun z=>by rw [z,na] at hc;cases hc
   rw [up c this];exact R.sub c u hc
  slot:=fun j k' d'' e'=>by
   by_cases c:j=i
   ·subst c;rw [ay li] at e';cases e';exact ⟨_,hv,new⟩
   ·rw [aj (Ne.symm c)] at e';obtain ⟨u,g1,g2⟩:=R.slot j k' d'' e';refine ⟨u,g1,g2.step (af.refl _) fun a ha=>up a fun z=>c (R.aD j i b (z ▸ ha) hb)⟩
  off:=R.off
  bx:=fun j a ha=>by
   by_cases c:a=b
   ·rw [c];exact ⟨_,aq,nt⟩
   ·rw [up a c];exact R.bx j a ha
  aD:=R.aD
  fr:=fun q u hq ho=>by
   have:q≠b:=fun z=>by
    rcases R.new i b hb with y | y
    ·exact hq (z ▸ y)
    ·rw [z,y] at ho;cases ho
   rw [up q this];exact R.fr q u hq ho
  new:=R.new
  pin:=fun q hq=>by
   obtain ⟨g1,ds',g2⟩:=R.pin q hq
   by_cases c:i=q.1
   ·rw [<- c] at g1 g2 ⊢;rw [e] at g2;cases g2;obtain ⟨ds,rfl⟩:=hp rfl;exact ⟨g1,ds,ay li⟩
   ·exact ⟨g1,ds',by rw [aj c];exact g2⟩
  old:=R.old }
def Iq {t:Tg}{d:PyData}{E E':En}(h:b7 t d E=some E'):E'.length=E.length:=by
 have go:∀ {is:List Nat}{ds:List PyData}{E E':En},bQ is ds E=some E'->E'.length=E.length:=by
  intro is
  induction is with
  | nil=>intro ds E E' h;cases ds with | nil=>cases h;rfl | cons _ _=>cases h
  | cons j is ih =>
   intro ds E E' h;cases ds with
   | nil=>cases h
   | cons d ds =>
    rw [bQ] at h
    by_cases o:bP E j=true
    ·rw [if_pos o] at h;rw [ih h,List.length_set]
    ·rw [if_neg o] at h;cases h
 cases t with
 | nm j=>exact go (is:=[j]) h
 | tp js =>
  cases d with
  | tuple ds=>exact go (is:=js) h
  | _=>cases h
end
section
variable {X:Cx}{Ex:XK}{π cs:List Nat}{elt tg iter:Expr}{ifs:List Expr}{scope:Scope}{pos:Pos}
def EW {vs NB:List Str}{ix:List Nat}{di:DI}{t:Tg}{c:DT}{e:DE}(B:cB X scope vs NB ix)(hc:X.calm=true)(hcs:cs.length=vs.length)(hix:∀ i∈ix,i < π.length)(aD:∀ c∈cs,c∉π)(nd:(br π cs ix).Nodup)
  (hi:SI X Ex π tg iter di)(ht:∀ (C:Addr)(s:Shared)(H:Hp)(fp:List Addr),eW (X.block scope C NB s H fp) (br π cs ix) tg t)(hts:∀ i∈t.slots,i∈cs)(hif:∀ (C:Addr)(s:Shared)(H:Hp)(fp:List Addr),gG (X.block scope C NB s H fp) E0 (br π cs ix) ifs c)
  (hr:∀ (C:Addr)(s:Shared)(H:Hp)(fp:List Addr),SE (X.block scope C NB s H fp) E0 (br π cs ix) elt e)
  (hs:∀ v,foldedSetIterable iter X.env v=pure v){w:(V->Hp->Prop)->St->Hp->Prop}
  (hw:∀ {wi:TI}{G:TG}{tt:TT}{tr:TL}{σ:St}{H:Hp}{Q:VK},PI X tg iter wi->(∀ (C:Addr)(s:Shared)(H:Hp)(fp:List Addr),PG (X.block scope C NB s H fp) tg G)->(∀ (C:Addr)(s:Shared)(H:Hp)(fp:List Addr),ng (X.block scope C NB s H fp) ifs tt) ->
   (∀ (C:Addr)(s:Shared)(H:Hp)(fp:List Addr)(D:Addr),PL (X.block scope C NB s H fp) D elt (⟨tg,iter,ifs,0⟩:: []) scope pos 1 tr)->lH wi vs.length ix G tt tr σ H Q->w Q σ H)
  (g:Gh)(x:XC)(E:En)(σ:St)(H Hm:Hp)(F:Nat->List Addr)(P:En->Kd->PyData->Prop)(Q:VK)(hx:XL X Ex x g)(R:Rl X.K g E σ H Hm F)(p:nC sizeLine cs di t c e x E P)
  (q:∀ E' k v u H' Hm' F' fp,P E' k v->Rl X.K g E' σ H' Hm' F'->af Hm Hm'->Tm X.K g F' H' Hm' k u v fp->Q u H'):w Q (sel π σ) H:=by
 obtain ⟨wi,hpi,hwi⟩:=hi;refine hw (wi:=wi) (G:=fun v σ H Q=>∀ (C:Addr)(s:Shared)(H2:Hp)(fp:List Addr),WG (X.block scope C NB s H2 fp) tg v σ H Q) (tt:=fun σ H Q=>∀ (C:Addr)(s:Shared)(H2:Hp)(fp:List Addr),tE (X.block scope C NB s H2 fp) ifs σ H Q)
  (tr:=GN fun σ H Q=>∀ (C:Addr)(s:Shared)(H2:Hp)(fp:List Addr),WE (X.block scope C NB s H2 fp) elt σ H Q) hpi (fun C s H2 fp pins s' σ H v u Q I r h=>h C s H2 fp pins s' u I r) (fun C s H2 fp pins s' σ H Q I h=>h C s H2 fp pins s' I)
  (fun C s H2 fp D=>yQ (fun pins s' σ H Q I h=>h C s H2 fp pins s' I)) ?_
 refine hwi g x E σ H Hm F _ _ hx R p fun E1 xs J H1 Hm1 F1 p1 R1 s1 it1=>?_
 obtain ⟨E0',I,hcl,i0,step,fin⟩:=p1;obtain ⟨σ0,F0,R0,a0,n0⟩:=R1.aU hcl;rw [<- hcs,sD hix aD a0 fun c hc=>(n0 c hc).1]
 refine ⟨fun i m ys τ H'=>m=xs.length - i/\i<=xs.length/\∃ E' dys' σ' Hm' F' fp,I i dys' E'/\Rl X.K g E' σ' H' Hm' F'/\af Hm1 Hm'/\dP X.K H' Hm' ys dys' fp/\iO g F' H' Hm' fp/\Agree cs σ0 σ'/\τ=sel (br π cs ix) σ',
  ⟨xs.length,by simp,Nat.zero_le _,E0',[],σ0,Hm1,F0,[],i0,R0,af.refl _,.nil,⟨(fun _ z=>by cases z),(fun _ z=>by cases z),(fun _ z=>by cases z),fun _ z=>by cases z⟩,Agree.refl _ _,rfl⟩,?_⟩
 rintro i m ys τ H2 ⟨rfl,hi,E2,dys2,σ2,Hm2,F2,fp,i2,R2,s2,r2,A2,a2,rfl⟩;obtain ⟨go,stop⟩:=it1 i H2 Hm2 s2 R2.sub
 by_cases c':i < xs.length
 ·obtain ⟨go,oN⟩:=go xs[i] (OQ c');refine .inr ⟨go,fun ys τ H'=>i + 1<=xs.length/\∃ E' dys' σ' Hm' F' fp,I (i + 1) dys' E'/\Rl X.K g E' σ' H' Hm' F'/\af Hm1 Hm'/\dP X.K H' Hm' ys dys' fp/\iO g F' H' Hm' fp/\Agree cs σ0 σ'/\τ=sel (br π cs ix) σ',fun ys τ H' z=>⟨xs.length - (i + 1),by omega,rfl,z⟩,fun x H3 y C s H9 fp9=>?_⟩
  obtain ⟨Hm3,t1,t2,t3,old,rx⟩:=oN x H3 y;have R3:=R2.turn t1 t2 t3 old;have k3:∀ a∈fp,H3 a=H2 a:=fun a ha=>by
   cases e:H2 a with
   | none=>exact absurd e (A2.bx a ha)
   | some o=>exact t3 _ _ e
  have A3:iO g F2 H3 Hm3 fp:=⟨fun a ha=>by rw [k3 a ha];exact A2.zm a ha,fun a ha=>by
   obtain ⟨u,hu,nt⟩:=A2.zm a ha;exact (old a (A2.bx a ha)).off (A2.off a ha) t2 (t3 _ _ hu) nt,A2.aD,A2.new⟩
  have r3:=r2.step (H':=H3) t1 k3;have nM:=A3.notM R3;obtain ⟨E4,e4,p4⟩:=step i xs[i] dys2 E2 (OQ c') i2;obtain ⟨G,g1,g2⟩:=q8 (X:=X.block scope C NB s H9 fp9) hc B.nd nd (ht C s H9 fp9);refine WG.of g1 (g2 (g:=g.eF H3 fp) e4 rx (R3.eF A3) fun σ4 F4 R4 ag=>?_)
  have a4:Agree cs σ0 σ4:=a2.trans ⟨by rw [<- R3.len,<- R4.len,Iq e4],fun j hj=>ag j fun z=>hj (hts j z)⟩
  intro C2 s2' H92 fp92;refine (hif C2 s2' H92 fp92).ok XL.no R4 p4 fun E5 b H5 Hm5 F5 p5 R5 s5=>?_
  cases b with
  | true =>
   refine rZ fun C3 s3' H93 fp93=>?_
   refine hr C3 s3' H93 fp93 (g.eF H3 fp) xF E5 σ4 H5 Hm5 F5 _ _ XL.no R5 (by rw [if_pos rfl] at p5;exact p5) fun E6 k6 v6 u6 H6 Hm6 F6 fp6 p6 R6 s6 T6=>?_
   obtain ⟨⟨pb,rfl⟩,hl,p6⟩:=p6;obtain ⟨R6',A6,k6⟩:=Rl.qu A3 nM R6;have T1:=T6.own;have hlen:ys.length=dys2.length:=by
    have:∀ {xs:List V}{ds:List PyData}{fp:List Addr}{H Hm:Hp},dP X.K H Hm xs ds fp->xs.length=ds.length:=by
     intro xs ds fp H Hm h
     induction h with
     | nil=>rfl
     | jI _ _ _ ih=>rw [List.length_cons,List.length_cons,ih]
     | own _ _ _ _ ih=>rw [List.length_cons,List.length_cons,ih]
    exact this r2
   cases T1 with
   | @ow _ b zs es hb rz =>
    have nb:b∉fp:=fun z=>by
     have:=T6.new b N9;rw [jy z] at this;exact A3.bx b z this
    have r6:=(r3.step (H':=H6) (s5.trans s6) k6).snoc (xs:=[]) (ds:=[]) hb rz nb;refine ⟨by rw [hlen];exact hl,c',E6,_,σ4,Hm6,F6,fp++[b],p6,R6',s2.trans (t1.trans (s5.trans s6)),r6,⟨fun a ha=>?_,fun a ha=>?_,fun a ha=>?_,fun a ha=>?_⟩,a4,rfl⟩
    ·rcases OT.mp ha with ha | ha
     ·exact A6.zm a ha
     ·rw [O8.mp ha];exact ⟨_,hb,jY⟩
    ·rcases OT.mp ha with ha | ha
     ·exact A6.off a ha
     ·rw [O8.mp ha];exact T6.off b N9
    ·rcases OT.mp ha with ha | ha
     ·exact A6.aD a ha
     ·rw [O8.mp ha];exact T6.aD b N9
    ·rcases OT.mp ha with ha | ha
     ·exact A6.new a ha
     ·rw [O8.mp ha];have:=T6.new b N9;rw [ef nb] at this;exact this
  | false =>
   obtain ⟨R5',A5,k5⟩:=Rl.qu A3 nM R5;exact rW ⟨c',E5,dys2,σ4,Hm5,F5,fp,by simpa using p5,R5',s2.trans (t1.trans s5),r3.step (H':=H5) s5 k5,A5,a4,rfl⟩
 ·have e:i=xs.length:=by omega
  subst e;refine .inl ⟨stop (O5 _),fun p hp=>?_⟩
  obtain ⟨E3,hcl2,p2⟩:=fin _ _ i2;obtain ⟨σ3,F3,R3p,a3,n3⟩:=(R2.eF A2).aU hcl2;obtain ⟨R3,A3,_⟩:=Rl.qu A2 (A2.notM R2) R3p;have R3':=R3.agree (cs:=cs) ((a0.trans a2).trans a3).symm fun c hc=>(n3 c hc).2
  have s3:=bA (o:=.lst ys) hp;have R4:=R3'.grow (H':=upd H2 p (.lst ys)) s3 (af.refl _) (R3'.sub.trans s3) (fun i a ha=>R3'.off i a ha) fun _ _=>.inl rfl
  have np:p∉fp:=fun z=>A2.bx p z hp
  refine q _ _ _ _ _ Hm2 F3 (p::fp) p2 R4 (s1.trans s2) ⟨.dp aq np (r2.step (H':=upd H2 p (.lst ys)) (af.refl _) fun a ha=>ai fun z=>np (z ▸ ha)),fun a ha=>?_,fun a ha i=>?_,fun a ha=>?_⟩
  ·rcases O9.mp ha with rfl | ha
   ·exact R3'.jK hp
   ·exact A2.off a ha
  ·rcases O9.mp ha with rfl | ha
   ·exact R3'.fresh hp
   ·exact A3.aD a ha i
  ·rcases O9.mp ha with rfl | ha
   ·exact R3'.dW hp
   ·exact A2.new a ha
end
section
variable {X:Cx}{Ex:XK}{π cs:List Nat}{elt tg iter:Expr}{ifs:List Expr}{scope:Scope}{pos:Pos}
def KJ {j:Nat}{y:Str}{py spos:Pos}{vs NB:List Str}{ix:List Nat}{di:DI}{t:Tg}{c:DT}{e:DE}(hN:X.N.Nodup)(B:k9 X.N X.env.scope scope vs NB ix=true)(hi:SI X Ex (aR X) tg iter di)(ht:∀ (C:Addr)(s:Shared)(H:Hp)(fp:List Addr),eW (X.block scope C NB s H fp) (br (aR X) cs ix) tg t)
  (hif:∀ (C:Addr)(s:Shared)(H:Hp)(fp:List Addr),gG (X.block scope C NB s H fp) E0 (br (aR X) cs ix) ifs c)(hr:∀ (C:Addr)(s:Shared)(H:Hp)(fp:List Addr),SE (X.block scope C NB s H fp) E0 (br (aR X) cs ix) elt e)
  (hj:X.N[j]?=some y:=by rfl)(hy:X.env.scope.names.lookup y=some .local:=by rfl)(hsw:swapsWith (.ListComp elt [⟨tg,iter,ifs,0⟩] scope pos) (some (.Name y py)) spos.line X.env=pure true:=by rfl)
  (hc:X.calm=true:=by rfl)(ck:rK (aR X) cs ix vs t.slots=true:=by rfl)(hs:∀ v,foldedSetIterable iter X.env v=pure v:=by intro _;rfl):S1 X Ex (.Assign [.Name y py] (.ListComp elt [⟨tg,iter,ifs,0⟩] scope pos) spos) (aJ j (nC sizeLine cs di t c e)):=by
 obtain ⟨h1,h2,h3,h4,h5⟩:=qF ck;have B':cB X scope vs NB ix:=cB.of B;have ha:∀ g∈([]:List Comprehension),g.is_async=0:=fun _ z=>by cases z
 intro g D' E σ H Hm F D hx R p nx rt;refine EW B' hc h1 h2 h3 h4 hi ht h5 hif hr hs (w:=fun Q τ H=>(Q=fun u H1=>D.nx (τ.set j (some u)) H1)->WS X (.Assign [.Name y py] (.ListComp elt [⟨tg,iter,ifs,0⟩] scope pos) spos) D τ H)
  (fun g1 g2 g3 g4 g5 e=>by
   subst e;exact WS.of (uT hN hj hy B' hc g1 g2 g3 g4 hsw ha hs) g5) g D'.xc E σ H Hm F _ _ hx R p (fun E' k v u H' Hm' F' fp p' R' s' T=>?_) rfl
 rw [lE List.nodup_range (lD (bJ hj)) (R'.len ▸ iA p'.1)];exact nx _ _ _ _ _ p'.2 (R'.put T p'.1) s'
def w9 {E E':En}{i n:Nat}(h:cg E n=some E')(ne:i≠n):E'[i]?=E[i]?:=by
 unfold cg at h;split at h
 ·split at h
  ·cases h;exact aj (Ne.symm ne)
  ·cases h
 ·cases h
def IQ {x y name:Str}{id:String}{p yp sp apos cpos:Pos}{jx:Expr}{f:DM}{r:V->List V->Hp->VK->Prop}{dj:DE}{i j n jn:Nat}(hm:qK X id r)(D:zB X.K f r)(slot:Slot "list" name id)(hty:typeOf (.builtin id)=pure (.type "method_descriptor"))
  (hv:PE X (.Name x p) (gh j))(hj:π[j]?=some i)(hy:PE X (.Name y yp) (gh jn))(hjn:π[jn]?=some n)(hs:lI jx)(hd:SE X Ex π jx dj)(hline:(apos.endLine == cpos.line)=true) :
  SE X Ex π (.Call (.Attribute (.Subscript (.Name x p) jx sp) name apos) [.Name y yp] [] cpos) (qd f i dj n):=by
 intro g xc E σ H Hm F P Q hx R h q;obtain ⟨hh,h⟩:=h;obtain ⟨o,ho⟩:=nK R hh;refine WE.of (rG PySem.F.plainAttrs_list slot hty hm (bE (e:=.Subscript (.Name x p) jx sp)) (dF (es:=[.Name y yp]) rfl) rfl (C6 rfl (show 1 < 30 by decide)) hline rfl rfl) ?_
 refine WE.of (GF Cm hv bE hs) ⟨o,cI hj ho,?_⟩;refine hd g xc E σ H Hm F _ _ hx R h fun E1 k1 w u1 H1 Hm1 F1 fp1 p1 R1 s1 T1=>?_
 obtain ⟨a,pp,ds,m,es,k,d,E2,rfl,e1,hix,hes,en,ne,hf,p1⟩:=p1;cases T1.own.int;obtain ⟨v',h1,h2⟩:=R1.slot i _ _ e1;rw [ho] at h1;cases h1;obtain ⟨vn,Hm2,F2,hvn,s2,R2,rn⟩:=R1.cg en hf;have e2:E2[i]?=some (some (.dp pp,.list ds)):=(w9 hf ne).trans e1;obtain ⟨v2,h3,h4⟩:=R2.slot i _ _ e2;rw [ho] at h3;cases h3;generalize hfi:F2 i=fi at h4;cases h4 with
 | @dp _ a0 xs _ fq ha0 n0 it0 =>
  obtain ⟨b,ys,hxm,hb,ry,mb⟩:=it0.get hes;have hlen:xs.length=ds.length:=by
   have:∀ {xs:List V}{ds:List PyData}{fp:List Addr}{H Hm:Hp},dP X.K H Hm xs ds fp->xs.length=ds.length:=by
    intro xs ds fp H Hm h
    induction h with
    | nil=>rfl
    | jI _ _ _ ih=>rw [List.length_cons,List.length_cons,ih]
    | own _ _ _ _ ih=>rw [List.length_cons,List.length_cons,ih]
   exact this it0
  refine .inl ⟨_,xs,a,.ref b,rfl,rfl,bI.of ha0,?_,.inl ⟨rfl,_,bI.of hb⟩,?_⟩
  ·show (nS xs.length a).bind (fun j=>xs[j]?)=some (.ref b)
   rw [hlen,show nS ds.length a=some m from hix]
   exact hxm
  ·refine WE.of hy ⟨vn,cI hjn hvn,?_⟩;show r (.ref b) [vn] H1 Q;have mbF:b∈F2 i:=by rw [hfi];exact O6 _ mb
   refine D H1 Hm2 b ys es [vn] [d] _ Q hb (R2.off i b mbF) R2.sub ry (.cons rn .nil) p1 fun ys' new u v p2 ry' ru=>?_
   have nab:a0≠b:=fun z=>n0 (z ▸ mb)
   have R3:=R2.Nf (o:=.lst ys') (d':=.list (ds.set m (.list new))) e2 ho mbF (by
    rw [hfi];exact .dp (by rw [ai nab];exact ha0) n0 (it0.put ry' hxm ⟨es,hes⟩)) jY fun z=>by cases z
   exact q _ _ _ _ _ _ _ [] p2 R3 (s1.trans s2) (Tm.sh ru)
def Gz (j jn:Nat){i n:Nat}{x y name:Str}{id:String}{p yp sp apos cpos:Pos}{jx:Expr}{f:DM}{r:V->List V->Hp->VK->Prop}{dj:DE}(hm:qK X id r)(D:zB X.K f r)(slot:Slot "list" name id)(hty:typeOf (.builtin id)=pure (.type "method_descriptor"))(hd:SE X Ex π jx dj)
  (hN:X.N[j]?=some x:=by rfl)(hv:gZ X.env.scope x:=by first | exact Or.inl rfl | exact Or.inr (Or.inl rfl) | exact Or.inr (Or.inr rfl))(hj:π[j]?=some i:=by rfl)(hNn:X.N[jn]?=some y:=by rfl)(hvn:gZ X.env.scope y:=by first | exact Or.inl rfl | exact Or.inr (Or.inl rfl) | exact Or.inr (Or.inr rfl))(hjn:π[jn]?=some n:=by rfl)(hs:lI jx:=by intro _ _;rfl)(hline:(apos.endLine == cpos.line)=true:=by rfl)
  (hb:(x == ("__debug__":Str))=false:=by decide)(hcd:(x == ("__classdict__":Str))=false:=by decide)(hbn:(y == ("__debug__":Str))=false:=by decide)(hcn:(y == ("__classdict__":Str))=false:=by decide) :
  SE X Ex π (.Call (.Attribute (.Subscript (.Name x p) jx sp) name apos) [.Name y yp] [] cpos) (qd f i dj n):=IQ hm D slot hty (dG hN hv hb hcd) hj (dG hNn hvn hbn hcn) hjn hs hd hline
end
section
variable {P:Program}{w:World}{K:Frag}{mg:Str->Option Value}{base:Heap}{N:List Str}{qual:Str}{scope:Scope}{f:Addr}{cd:Value}{A:Around}{outer:List Env}{s0:Shared}{H0:Hp}{Ex:XK}
def rN {x y:Str} {j}{np cpos pos p:Pos}(h:∃ C,mg x=some (.ref C)/\gU K C uz "ValueError.__new__" none=true)(hg:Gl (fN (bF P w) P w K mg base N qual scope f cd A outer s0 H0 Ex) x:=by rfl)(hdb:(x == ("__debug__":Str))=false:=by decide) :
  S1 (fN (bF P w) P w K mg base N qual scope f cd A outer s0 H0 Ex) Ex (.Raise (some (.Call (.Name x np) [.Constant (.str y) j p] [] cpos)) none pos) (nj x):=by
 obtain ⟨C,h⟩:=h;intro g D' E σ H Hm F D hx R hp nx rt;refine WS.of (DW h.2 hg h.1 (cJ Cb eS) hdb) ⟨by show 1<=sizeLine;decide,fun a ha=>?_⟩
 exact hx x .none C a _ h.1 hp (fun p o hp ho=>bA ha _ _ (R.fr p o hp ho)) aq (R.dW ha)
end
end Dv
namespace Dv
open PySem L2
def bS:Option (Kd×PyData)->Bool
 | some (k,_)=>!k.pin
 | none=>true
def aI {α:Type}(o:Option α)(Q:α->Prop):Prop:=match o with
 | some a=>Q a
 | none=>False
def FL (E:En) (i:Nat)(Q:En->Kd->PyData->Prop):Prop:=match E[i]? with
 | some (some (_,d))=>aI (cg E i) fun E'=>Q E' .sh d
 | _=>False
def FO (r:DR)(as:List Arg)(E:En)(os:List (Option PyData))(Q:En->Kd->PyData->Prop):Prop:=aI (fill as E os) fun ds=>r ds fun k v=>aI (A0 as E k v) fun E2=>Q E2 k v
def FQ (ms:List Bool)(as:List Arg)(E:En)(us:List PyData)(k:Kd)(v:PyData)(Q:En->Kd->PyData->Prop):Prop:=aI (gg ms as us E) fun E2=>aI (qi ms as us E2 k v) fun E3=>Q E3 k v
def FZ (sp:bC)(ms:List Bool)(as:List Arg)(x:XC)(E:En)(os:List (Option PyData))(Q:En->Kd->PyData->Prop):Prop:=aI (fill as E os) fun ds=>nV ms as E=true/\sp ds (fun us k v=>FQ ms as E us k v Q) x
def wM (v:PyData)(Q:Bool->Prop):Prop:=aI (jT v) Q
def FP (E:En) (i:Nat)(Q:En->Bool->Prop):Prop:=match E[i]? with
 | some (some (k,d))=>k.rd=true/\wM d (Q E)
 | _=>False
def FW (v:PyData)(Q:Bool->Prop):Prop:=match v with
 | .bool b=>Q b
 | _=>False
def sZ (v:PyData)(Q:Int->Prop):Prop:=match v with
 | .int i=>Q i
 | _=>False
def Gn (v:PyData)(Q:List PyData->Prop):Prop:=aI (items v) Q
def tX (v:PyData)(Q:List PyData->Prop):Prop:=match v with
 | .list xs=>Q xs
 | _=>False
def GJ (E:En) (i:Nat)(Q:En->Kd->PyData->Prop):Prop:=match E[i]? with
 | some (some (k,d))=>k.pin=false/\Q (E.set i none) k d
 | _=>False
def Gy (f:DM) (i:Nat)(as:List Arg)(E:En)(os:List (Option PyData))(Q:En->Kd->PyData->Prop):Prop:=match fill as E os,E[i]? with
 | some args,some (some (.ow p,.list ds))=>f ds args fun new v=>Q (E.set i (some (.ow p,.list new))) .sh v
 | _,_=>False
def CH (f:Int->Int->Int)(E:En) (i:Nat)(v:PyData)(Q:En->Prop):Prop:=match E[i]?,v with
 | some (some (_,.int a)),.int b=>Q (E.set i (some (.sh,.int (f a b))))
 | _,_=>False
def bU {α:Type}{o:Option α}{Q:α->Prop}:(∃ a,o=some a/\Q a)=aI o Q:=by
 cases o with
 | none=>exact propext ⟨fun ⟨a,e,_⟩=>(by cases e),fun h=>h.elim⟩
 | some a=>exact propext ⟨fun ⟨b,e,q⟩=>by cases e;exact q,fun h=>⟨a,rfl,h⟩⟩
def K1 {i:Nat}{x:XC}{o:Option (Kd×PyData)}{E:En}{Q:En->Kd->PyData->Prop}:aT i x (o::E) Q=FL (o::E) i Q:=by
 unfold aT FL;generalize o::E=E0;refine propext ⟨fun ⟨k,d,E',e1,e2,q⟩=>by rw [e1];show aI _ _;rw [e2];exact q,fun h=>?_⟩
 split at h
 ·rename_i k d e1;rw [<- bU] at h;obtain ⟨E',e2,h⟩:=h;exact ⟨_,_,_,e1,e2,h⟩
 ·exact h.elim
def MD {r:DR}{as:List Arg}{x:XC}{o:Option (Kd×PyData)}{E:En}{Q:En->Kd->PyData->Prop}:aa r as x (o::E) Q=gp as x (o::E) fun E1 os=>FO r as E1 os Q:=by
 unfold aa FO;simp only [bU]
def HK {sp:bC}{ms:List Bool}{as:List Arg}{x:XC}{o:Option (Kd×PyData)}{E:En}{Q:En->Kd->PyData->Prop}:aH sp ms as x (o::E) Q=gp as x (o::E) fun E1 os=>FZ sp ms as x E1 os Q:=by
 have:∀ {E1:En}{us:List PyData}{k:Kd}{v:PyData},(∃ E2 E3,gg ms as us E1=some E2/\qi ms as us E2 k v=some E3/\Q E3 k v)=FQ ms as E1 us k v Q:=by
  intro E1 us k v;have:(∃ E2 E3,gg ms as us E1=some E2/\qi ms as us E2 k v=some E3/\Q E3 k v)=∃ E2,gg ms as us E1=some E2/\∃ E3,qi ms as us E2 k v=some E3/\Q E3 k v:=propext ⟨fun ⟨a,b,c,d⟩=>⟨a,c,b,d⟩,fun ⟨a,c,b,d⟩=>⟨a,b,c,d⟩⟩
  rw [this];simp only [bU];rfl
 unfold aH FZ;simp only [bU,this]
def uf {v:PyData}{Q:Bool->Prop}:(∃ b,jT v=some b/\Q b)=wM v Q:=bU
def GH {v:PyData}{Q:Bool->Prop}:(∃ b,v=.bool b/\Q b)=FW v Q:=by
 cases v with
 | bool b=>exact propext ⟨fun ⟨c,e,q⟩=>by cases e;exact q,fun h=>⟨b,rfl,h⟩⟩
 | _=>exact propext ⟨fun ⟨c,e,_⟩=>(by cases e),fun h=>h.elim⟩
def MB {v:PyData}{Q:Int->Prop}:(∃ b,v=.int b/\Q b)=sZ v Q:=by
 cases v with
 | int b=>exact propext ⟨fun ⟨c,e,q⟩=>by cases e;exact q,fun h=>⟨b,rfl,h⟩⟩
 | _=>exact propext ⟨fun ⟨c,e,_⟩=>(by cases e),fun h=>h.elim⟩
def uh {v:PyData}{Q:List PyData->Prop}:(∃ b,v=.list b/\Q b)=tX v Q:=by
 cases v with
 | list b=>exact propext ⟨fun ⟨c,e,q⟩=>by cases e;exact q,fun h=>⟨b,rfl,h⟩⟩
 | _=>exact propext ⟨fun ⟨c,e,_⟩=>(by cases e),fun h=>h.elim⟩
def Mn {i:Nat}{x:XC}{o:Option (Kd×PyData)}{E:En}{Q:En->Bool->Prop}:xC i x (o::E) Q=FP (o::E) i Q:=by
 unfold xC FP;generalize o::E=E0;refine propext ⟨fun ⟨k,d,b,e1,e2,e3,q⟩=>by rw [e1];exact ⟨e2,by rw [<- uf];exact ⟨b,e3,q⟩⟩,fun h=>?_⟩
 split at h
 ·rename_i k d e1;obtain ⟨h1,h2⟩:=h;rw [<- uf] at h2;obtain ⟨b,e3,q⟩:=h2;exact ⟨_,_,_,e1,h1,e3,q⟩
 ·exact h.elim
def HB {i:Nat}{D:bO}{o:Option (Kd×PyData)}{E:En}:iJ i D (o::E)=GJ (o::E) i D.rt:=by
 unfold iJ GJ;generalize o::E=E0;refine propext ⟨fun ⟨k,d,e1,e2,q⟩=>by rw [e1];exact ⟨e2,q⟩,fun h=>?_⟩
 split at h
 ·rename_i k d e1;exact ⟨_,_,e1,h.1,h.2⟩
 ·exact h.elim
def Mb {f:DM}{i:Nat}{es:List DE}{x:XC}{o:Option (Kd×PyData)}{E:En}{Q:En->Kd->PyData->Prop}:oY f i es x (o::E) Q=(qk (o::E) i=true/\gp (es.map .ev) x (o::E) fun E1 os=>Gy f i (es.map .ev) E1 os Q):=by
 unfold oY;congr 1;congr 1;funext E1 os;unfold Gy;refine propext ⟨fun ⟨args,p,ds,e1,e2,q⟩=>by rw [e1,e2];exact q,fun h=>?_⟩
 split at h
 ·rename_i args p ds e1 e2;exact ⟨_,_,_,e1,e2,h⟩
 ·exact h.elim
def Ka {f:Int->Int->Int}{i:Nat}{e:DE}{D:bO}{o:Option (Kd×PyData)}{E:En}:DZ f i e D (o::E)=(here (o::E) i=true/\e D.xc (o::E) fun E1 _ v=>CH f E1 i v D.nx):=by
 unfold DZ;congr 1;congr 1;funext E1 k v;unfold CH;refine propext ⟨fun ⟨k,a,b,e1,e2,q⟩=>by subst e2;rw [e1];exact q,fun h=>?_⟩
 split at h
 ·rename_i k a b e1;exact ⟨_,_,_,e1,rfl,h⟩
 ·exact h.elim
def JT {is:List Nat}{e:DE}{D:bO}{o:Option (Kd×PyData)}{E:En}:m6 is e D (o::E)=e D.xc (o::E) fun E' k v=>k.fz=true/\aI (b7 (.tp is) v E') D.nx:=by
 unfold m6;congr 1;funext E1 k v;rw [<- bU];exact propext ⟨fun ⟨a,b,c,d⟩=>⟨b,a,c,d⟩,fun ⟨b,a,c,d⟩=>⟨a,b,c,d⟩⟩
variable {x:XC}{o:Option (Kd×PyData)}{E:En}{D:bO}
def EF {f f':Int->Int->Bool}{a b c:DE}{Q:En->Kd->PyData->Prop}:lP f f' a b c x (o::E) Q=a x (o::E) fun E1 _ u=>sZ u fun i=>b x E1 fun E2 _ v=>sZ v fun j=>if f i j=true then c x E2 fun E3 _ w=>sZ w fun k=>Q E3 .sh (.bool (f' j k)) else Q E2 .sh (.bool false):=by
 unfold lP;simp only [MB]
def NH {e:DE}{Q:En->List PyData->Prop}:iE e x (o::E) Q=e x (o::E) fun E' k v=>k.fz=true/\Gn v fun xs=>Q E' xs:=by
 unfold iE;simp only [bU];rfl
def ME {g:List PyData->Option (List PyData)}{as:List Arg}{Q:En->List PyData->Prop}:ku g as x (o::E) Q=gp as x (o::E) fun E1 os=>aI (fill as E1 os) fun ds=>aI (g ds) fun xs=>Q E1 xs:=by
 unfold ku;congr 1;funext E1 os;rw [<- bU];refine propext ⟨fun ⟨ds,xs,e1,e2,q⟩=>⟨ds,e1,?_⟩,fun ⟨ds,e1,q⟩=>?_⟩
 ·rw [<- bU];exact ⟨xs,e2,q⟩
 ·rw [<- bU] at q;obtain ⟨xs,e2,q⟩:=q;exact ⟨ds,xs,e1,e2,q⟩
def LI {e:DE}{Q:En->List PyData->Prop}:yL e x (o::E) Q=e x (o::E) fun E' k v=>k.fz=true/\tX v fun ds=>Q E' (iG ds):=by
 unfold yL;simp only [uh]
def LL {a b:DE}{Q:En->List PyData->Prop}:yz a b x (o::E) Q=a x (o::E) fun E1 k v=>k.fz=true/\b x E1 fun E2 k2 v2=>k2.fz=true/\tX v fun ds=>tX v2 fun es=>Q E2 ((ds.zip es).map fun p=>.tuple [p.1,p.2]):=by
 unfold yz;congr 1;funext E1 k v;congr 1;congr 1;funext E2 k2 v2;congr 1;rw [<- uh];refine propext ⟨fun ⟨ds,es,e1,e2,q⟩=>⟨ds,e1,?_⟩,fun ⟨ds,e1,q⟩=>?_⟩
 ·rw [<- uh];exact ⟨es,e2,q⟩
 ·rw [<- uh] at q;obtain ⟨es,e2,q⟩:=q;exact ⟨ds,es,e1,e2,q⟩
def dv :
 (∀ {v:PyData}{x:XC}{E:En}{Q:En->Kd->PyData->Prop},dC v x E Q=Q E .sh v) /\
 (∀ {i:Nat}{x:XC}{o:Option (Kd×PyData)}{E:En}{Q:En->Kd->PyData->Prop},aT i x (o::E) Q=FL (o::E) i Q) /\
 (∀ {r:DR}{as:List Arg}{x:XC}{o:Option (Kd×PyData)}{E:En}{Q:En->Kd->PyData->Prop},aa r as x (o::E) Q=gp as x (o::E) fun E1 os=>FO r as E1 os Q) /\
 (∀ {sp:bC}{ms:List Bool}{as:List Arg}{x:XC}{o:Option (Kd×PyData)}{E:En}{Q:En->Kd->PyData->Prop},aH sp ms as x (o::E) Q=gp as x (o::E) fun E1 os=>FZ sp ms as x E1 os Q) /\
 (∀ {d:DE}{x:XC}{o:Option (Kd×PyData)}{E:En}{Q:En->Bool->Prop},cK d x (o::E) Q=d x (o::E) fun E' _ v=>wM v (Q E')) /\
 (∀ {i:Nat}{x:XC}{o:Option (Kd×PyData)}{E:En}{Q:En->Bool->Prop},xC i x (o::E) Q=FP (o::E) i Q) /\
 (∀ {t:DT}{x:XC}{o:Option (Kd×PyData)}{E:En}{Q:En->Bool->Prop},v7 t x (o::E) Q=t x (o::E) fun E' b=>Q E' (!b)) /\
 (∀ {a b:DE}{x:XC}{o:Option (Kd×PyData)}{E:En}{Q:En->Kd->PyData->Prop},LD a b x (o::E) Q=a x (o::E) fun E1 _ v=>FW v fun c=>if c=true then b x E1 Q else Q E1 .sh (.bool false)) /\
 (∀ {a b:DE}{x:XC}{o:Option (Kd×PyData)}{E:En}{Q:En->Kd->PyData->Prop},rj a b x (o::E) Q=a x (o::E) fun E1 _ v=>FW v fun c=>if c=true then Q E1 .sh (.bool true) else b x E1 Q) /\
 (∀ {a:DE}{x:XC}{o:Option (Kd×PyData)}{E:En}{Q:En->Kd->PyData->Prop},vd a x (o::E) Q=a x (o::E) fun E1 _ v=>wM v fun c=>Q E1 .sh (.bool !c)) /\
 (∀ {f f':Int->Int->Bool}{a b c:DE}{x:XC}{o:Option (Kd×PyData)}{E:En}{Q:En->Kd->PyData->Prop},lP f f' a b c x (o::E) Q=a x (o::E) fun E1 _ u=>sZ u fun i=>b x E1 fun E2 _ v=>sZ v fun j=>if f i j=true then c x E2 fun E3 _ w=>sZ w fun k=>Q E3 .sh (.bool (f' j k)) else Q E2 .sh (.bool false)) /\
 (∀ {c:DT}{a b:DE}{x:XC}{o:Option (Kd×PyData)}{E:En}{Q:En->Kd->PyData->Prop},CU c a b x (o::E) Q=c x (o::E) fun E1 t=>if t=true then a x E1 Q else b x E1 Q) /\
 (∀ {D:bO}{E:En},eO D E=D.nx E) /\
 (∀ {a b:DS}{D:bO}{o:Option (Kd×PyData)}{E:En},av a b D (o::E)=a { D with nx:=b D } (o::E)) /\
 (∀ {c:DT}{a b:DS}{D:bO}{o:Option (Kd×PyData)}{E:En},dQ c a b D (o::E)=c D.xc (o::E) fun E1 t=>if t=true then a D E1 else b D E1) /\
 (∀ {i:Nat}{e:DE}{D:bO}{o:Option (Kd×PyData)}{E:En},aJ i e D (o::E)=e D.xc (o::E) fun E' k v=>bP E' i=true/\D.nx (E'.set i (some (k,v)))) /\
 (∀ {is:List Nat}{e:DE}{D:bO}{o:Option (Kd×PyData)}{E:En},m6 is e D (o::E)=e D.xc (o::E) fun E' k v=>k.fz=true/\aI (b7 (.tp is) v E') D.nx) /\
 (∀ {e:DE}{D:bO}{o:Option (Kd×PyData)}{E:En},bR e D (o::E)=e D.xc (o::E) D.rt) /\
 (∀ {i:Nat}{D:bO}{o:Option (Kd×PyData)}{E:En},iJ i D (o::E)=GJ (o::E) i D.rt) /\
 (∀ {f:DM}{i:Nat}{es:List DE}{x:XC}{o:Option (Kd×PyData)}{E:En}{Q:En->Kd->PyData->Prop},oY f i es x (o::E) Q=(qk (o::E) i=true/\gp (es.map .ev) x (o::E) fun E1 os=>Gy f i (es.map .ev) E1 os Q)) /\
 (∀ {i:Nat}{j e:DE}{D:bO}{o:Option (Kd×PyData)}{E:En},f7 i j e D (o::E)=e D.xc (o::E) fun E1 k v=>(k.fz=true/\here E1 i=true)/\j D.xc E1 fun E2 k2 w=>k2.fz=true/\f7.setI E2 i w v D.nx) /\
 (∀ {f:Int->Int->Int}{i:Nat}{e:DE}{D:bO}{o:Option (Kd×PyData)}{E:En},DZ f i e D (o::E)=(here (o::E) i=true/\e D.xc (o::E) fun E1 _ v=>CH f E1 i v D.nx)) /\
 (∀ {c:Str}{D:bO}{E:En},nj c D E=D.xc c .none) /\
 (∀ {e:DE}{D:bO}{o:Option (Kd×PyData)}{E:En},d9 e D (o::E)=e D.xc (o::E) fun E' _ _=>D.nx E') /\
 (∀ {x:XC}{E:En}{Q:En->Bool->Prop},eX x E Q=Q E true) /\
 (∀ {e:DE}{x:XC}{o:Option (Kd×PyData)}{E:En}{Q:En->List PyData->Prop},iE e x (o::E) Q=e x (o::E) fun E' k v=>k.fz=true/\Gn v fun xs=>Q E' xs) /\
 (∀ {g:List PyData->Option (List PyData)}{as:List Arg}{x:XC}{o:Option (Kd×PyData)}{E:En}{Q:En->List PyData->Prop},ku g as x (o::E) Q=gp as x (o::E) fun E1 os=>aI (fill as E1 os) fun ds=>aI (g ds) fun xs=>Q E1 xs) /\
 (∀ {e:DE}{x:XC}{o:Option (Kd×PyData)}{E:En}{Q:En->List PyData->Prop},yL e x (o::E) Q=e x (o::E) fun E' k v=>k.fz=true/\tX v fun ds=>Q E' (iG ds)) /\
 (∀ {a b:DE}{x:XC}{o:Option (Kd×PyData)}{E:En}{Q:En->List PyData->Prop},yz a b x (o::E) Q=a x (o::E) fun E1 k v=>k.fz=true/\b x E1 fun E2 k2 v2=>k2.fz=true/\tX v fun ds=>tX v2 fun es=>Q E2 ((ds.zip es).map fun p=>.tuple [p.1,p.2])) /\
 (∀ {most:Nat}{e:DE}{x:XC}{ys:List PyData}{o:Option (Kd×PyData)}{E:En}{Q:List PyData->En->Prop},cF most e x ys (o::E) Q=e x (o::E) fun E1 k v=>k.fz=true/\ys.length < most/\Q (ys++[v]) E1) :=
 ⟨rfl,K1,MD,HK,(by intros;unfold cK;simp only [uf]),Mn,rfl,(by intros;unfold LD;simp only [GH]),(by intros;unfold rj;simp only [GH]),(by intros;unfold vd;simp only [uf]),EF,rfl,rfl,rfl,rfl,rfl,JT,rfl,HB,Mb,rfl,Ka,rfl,rfl,rfl,NH,ME,LI,LL,rfl⟩
def Gk:(∀ {a0:Option (Kd×PyData)}{E:En},(a0::E)[0]?=some a0)/\(∀ {a0 a1:Option (Kd×PyData)}{E:En},(a0::a1::E)[1]?=some a1)/\(∀ {a0 a1 a2:Option (Kd×PyData)}{E:En},(a0::a1::a2::E)[2]?=some a2)/\(∀ {a0 a1 a2 a3:Option (Kd×PyData)}{E:En},(a0::a1::a2::a3::E)[3]?=some a3)/\(∀ {a0 a1 a2 a3 a4:Option (Kd×PyData)}{E:En},(a0::a1::a2::a3::a4::E)[4]?=some a4)/\(∀ {a0 a1 a2 a3 a4 a5:Option (Kd×PyData)}{E:En},(a0::a1::a2::a3::a4::a5::E)[5]?=some a5)/\(∀ {a0 a1 a2 a3 a4 a5 a6:Option (Kd×PyData)}{E:En},(a0::a1::a2::a3::a4::a5::a6::E)[6]?=some a6)/\(∀ {a0 a1 a2 a3 a4 a5 a6 a7:Option (Kd×PyData)}{E:En},(a0::a1::a2::a3::a4::a5::a6::a7::E)[7]?=some a7)/\(∀ {a0 a1 a2 a3 a4 a5 a6 a7 a8:Option (Kd×PyData)}{E:En},(a0::a1::a2::a3::a4::a5::a6::a7::a8::E)[8]?=some a8)/\(∀ {a0 a1 a2 a3 a4 a5 a6 a7 a8 a9:Option (Kd×PyData)}{E:En},(a0::a1::a2::a3::a4::a5::a6::a7::a8::a9::E)[9]?=some a9)/\(∀ {a0 a1 a2 a3 a4 a5 a6 a7 a8 a9 a10:Option (Kd×PyData)}{E:En},(a0::a1::a2::a3::a4::a5::a6::a7::a8::a9::a10::E)[10]?=some a10)/\(∀ {a0 a1 a2 a3 a4 a5 a6 a7 a8 a9 a10 a11:Option (Kd×PyData)}{E:En},(a0::a1::a2::a3::a4::a5::a6::a7::a8::a9::a10::a11::E)[11]?=some a11)/\(∀ {a0 a1 a2 a3 a4 a5 a6 a7 a8 a9 a10 a11 a12:Option (Kd×PyData)}{E:En},(a0::a1::a2::a3::a4::a5::a6::a7::a8::a9::a10::a11::a12::E)[12]?=some a12)/\(∀ {a0 a1 a2 a3 a4 a5 a6 a7 a8 a9 a10 a11 a12 a13:Option (Kd×PyData)}{E:En},(a0::a1::a2::a3::a4::a5::a6::a7::a8::a9::a10::a11::a12::a13::E)[13]?=some a13)/\(∀ {a0 a1 a2 a3 a4 a5 a6 a7 a8 a9 a10 a11 a12 a13 a14:Option (Kd×PyData)}{E:En},(a0::a1::a2::a3::a4::a5::a6::a7::a8::a9::a10::a11::a12::a13::a14::E)[14]?=some a14) :=
 ⟨rfl,rfl,rfl,rfl,rfl,rfl,rfl,rfl,rfl,rfl,rfl,rfl,rfl,rfl,rfl⟩
def Fi:(∀ {a0 b:Option (Kd×PyData)}{E:En},(a0::E).set 0 b=b::E)/\(∀ {a0 a1 b:Option (Kd×PyData)}{E:En},(a0::a1::E).set 1 b=a0::b::E)/\(∀ {a0 a1 a2 b:Option (Kd×PyData)}{E:En},(a0::a1::a2::E).set 2 b=a0::a1::b::E)/\(∀ {a0 a1 a2 a3 b:Option (Kd×PyData)}{E:En},(a0::a1::a2::a3::E).set 3 b=a0::a1::a2::b::E)/\(∀ {a0 a1 a2 a3 a4 b:Option (Kd×PyData)}{E:En},(a0::a1::a2::a3::a4::E).set 4 b=a0::a1::a2::a3::b::E)/\(∀ {a0 a1 a2 a3 a4 a5 b:Option (Kd×PyData)}{E:En},(a0::a1::a2::a3::a4::a5::E).set 5 b=a0::a1::a2::a3::a4::b::E)/\(∀ {a0 a1 a2 a3 a4 a5 a6 b:Option (Kd×PyData)}{E:En},(a0::a1::a2::a3::a4::a5::a6::E).set 6 b=a0::a1::a2::a3::a4::a5::b::E)/\(∀ {a0 a1 a2 a3 a4 a5 a6 a7 b:Option (Kd×PyData)}{E:En},(a0::a1::a2::a3::a4::a5::a6::a7::E).set 7 b=a0::a1::a2::a3::a4::a5::a6::b::E)/\(∀ {a0 a1 a2 a3 a4 a5 a6 a7 a8 b:Option (Kd×PyData)}{E:En},(a0::a1::a2::a3::a4::a5::a6::a7::a8::E).set 8 b=a0::a1::a2::a3::a4::a5::a6::a7::b::E)/\(∀ {a0 a1 a2 a3 a4 a5 a6 a7 a8 a9 b:Option (Kd×PyData)}{E:En},(a0::a1::a2::a3::a4::a5::a6::a7::a8::a9::E).set 9 b=a0::a1::a2::a3::a4::a5::a6::a7::a8::b::E)/\(∀ {a0 a1 a2 a3 a4 a5 a6 a7 a8 a9 a10 b:Option (Kd×PyData)}{E:En},(a0::a1::a2::a3::a4::a5::a6::a7::a8::a9::a10::E).set 10 b=a0::a1::a2::a3::a4::a5::a6::a7::a8::a9::b::E)/\(∀ {a0 a1 a2 a3 a4 a5 a6 a7 a8 a9 a10 a11 b:Option (Kd×PyData)}{E:En},(a0::a1::a2::a3::a4::a5::a6::a7::a8::a9::a10::a11::E).set 11 b=a0::a1::a2::a3::a4::a5::a6::a7::a8::a9::a10::b::E)/\(∀ {a0 a1 a2 a3 a4 a5 a6 a7 a8 a9 a10 a11 a12 b:Option (Kd×PyData)}{E:En},(a0::a1::a2::a3::a4::a5::a6::a7::a8::a9::a10::a11::a12::E).set 12 b=a0::a1::a2::a3::a4::a5::a6::a7::a8::a9::a10::a11::b::E)/\(∀ {a0 a1 a2 a3 a4 a5 a6 a7 a8 a9 a10 a11 a12 a13 b:Option (Kd×PyData)}{E:En},(a0::a1::a2::a3::a4::a5::a6::a7::a8::a9::a10::a11::a12::a13::E).set 13 b=a0::a1::a2::a3::a4::a5::a6::a7::a8::a9::a10::a11::a12::b::E)/\(∀ {a0 a1 a2 a3 a4 a5 a6 a7 a8 a9 a10 a11 a12 a13 a14 b:Option (Kd×PyData)}{E:En},(a0::a1::a2::a3::a4::a5::a6::a7::a8::a9::a10::a11::a12::a13::a14::E).set 14 b=a0::a1::a2::a3::a4::a5::a6::a7::a8::a9::a10::a11::a12::a13::b::E) :=
 ⟨rfl,rfl,rfl,rfl,rfl,rfl,rfl,rfl,rfl,rfl,rfl,rfl,rfl,rfl,rfl⟩
def IS:(∀ {o:PyData}{E:List PyData},(o::E)[0]?=some o)/\(∀ {o:PyData}{E:List PyData}{n:Nat},(o::E)[n + 1]?=E[n]?)/\(∀ {o a:PyData}{E:List PyData},(o::E).set 0 a=a::E)/\(∀ {o a:PyData}{E:List PyData}{n:Nat},(o::E).set (n + 1) a=o::E.set n a):=⟨rfl,rfl,rfl,rfl⟩
def dw :
 (∀ {x:XC}{E:En}{Q:En->List (Option PyData)->Prop},gp [] x E Q=Q E []) /\
 (∀ {i:Nat}{r:List Arg}{x:XC}{o:Option (Kd×PyData)}{E:En}{Q:En->List (Option PyData)->Prop},gp (.pk i::r) x (o::E) Q=(here (o::E) i=true/\gp r x (o::E) fun E' os=>Q E' (none::os))) /\
 (∀ {d:DE}{r:List Arg}{x:XC}{o:Option (Kd×PyData)}{E:En}{Q:En->List (Option PyData)->Prop},gp (.ev d::r) x (o::E) Q=d x (o::E) fun E1 k v=>k.fz=true/\gp r x E1 fun E' os=>Q E' (some v::os)) /\
 (∀ {E:En},fill [] E []=some []) /\
 (∀ {i:Nat}{r:List Arg}{o:Option (Kd×PyData)}{E:En}{os:List (Option PyData)},fill (.pk i::r) (o::E) (none::os)=match (o::E)[i]? with
  | some (some (k,d))=>if k.rd then (fill r (o::E) os).map (d::·) else none
  | _=>none) /\
 (∀ {d:DE}{v:PyData}{r:List Arg}{E:En}{os:List (Option PyData)},fill (.ev d::r) E (some v::os)=(fill r E os).map (v::·)) /\
 (∀ {α:Type}{a:α}{Q:α->Prop},aI (some a) Q=Q a) /\
 (∀ {α:Type}{Q:α->Prop},aI none Q=False) /\
 (∀ {o:Option (Kd×PyData)}{E:En}{i:Nat},here (o::E) i=match (o::E)[i]? with
  | some (some _)=>true
  | _=>false) /\
 (∀ {o:Option (Kd×PyData)}{E:En}{i:Nat},bP (o::E) i=match (o::E)[i]? with
  | some o=>bS o
  | none=>false) /\
 (∀ {k:Kd}{d:PyData},bS (some (k,d))=!k.pin)/\(bS none=true) /\
 (∀ {o:Option (Kd×PyData)}{E:En}{i:Nat},qk (o::E) i=match (o::E)[i]? with
  | some (some (.ow _,.list _))=>true
  | _=>false) /\
 (∀ {o:Option (Kd×PyData)}{E:En}{i:Nat},kN (o::E) i=match (o::E)[i]? with
  | some (some (.sh,_))=>true
  | _=>false) /\
 (∀ {o:Option (Kd×PyData)}{E:En}{i:Nat},cg (o::E) i=match (o::E)[i]? with
  | some (some (k,d))=>if k.fz then some ((o::E).set i (some (.sh,d))) else none
  | _=>none) /\
 (∀ {E:En},cG [] E=some E) /\
 (∀ {i:Nat}{r:List Nat}{E:En},cG (i::r) E=(cg E i).bind (cG r)) /\
 (∀ {o:Option (Kd×PyData)}{E:En}{i:Nat}{Q:En->Kd->PyData->Prop},FL (o::E) i Q=match (o::E)[i]? with
  | some (some (_,d))=>aI (cg (o::E) i) fun E'=>Q E' .sh d
  | _=>False) /\
 (∀ {o:Option (Kd×PyData)}{E:En}{i:Nat}{Q:En->Kd->PyData->Prop},GJ (o::E) i Q=match (o::E)[i]? with
  | some (some (k,d))=>k.pin=false/\Q ((o::E).set i none) k d
  | _=>False) /\
 (∀ {o:Option (Kd×PyData)}{E:En}{i:Nat}{Q:En->Bool->Prop},FP (o::E) i Q=match (o::E)[i]? with
  | some (some (k,d))=>k.rd=true/\wM d (Q (o::E))
  | _=>False) /\
 (∀ {r:DR}{as:List Arg}{o:Option (Kd×PyData)}{E:En}{os:List (Option PyData)}{Q:En->Kd->PyData->Prop},FO r as (o::E) os Q=aI (fill as (o::E) os) fun ds=>r ds fun k v=>aI (A0 as (o::E) k v) fun E2=>Q E2 k v) /\
 (∀ {sp:bC}{ms:List Bool}{as:List Arg}{x:XC}{o:Option (Kd×PyData)}{E:En}{os:List (Option PyData)}{Q:En->Kd->PyData->Prop},FZ sp ms as x (o::E) os Q=aI (fill as (o::E) os) fun ds=>nV ms as (o::E)=true/\sp ds (fun us k v=>FQ ms as (o::E) us k v Q) x) /\
 (∀ {f:DM}{i:Nat}{as:List Arg}{o:Option (Kd×PyData)}{E:En}{os:List (Option PyData)}{Q:En->Kd->PyData->Prop},Gy f i as (o::E) os Q=match fill as (o::E) os,(o::E)[i]? with
  | some args,some (some (.ow p,.list ds))=>f ds args fun new v=>Q ((o::E).set i (some (.ow p,.list new))) .sh v
  | _,_=>False) /\
 (∀ {f:Int->Int->Int}{o:Option (Kd×PyData)}{E:En}{i:Nat}{b:Int}{Q:En->Prop},CH f (o::E) i (.int b) Q=match (o::E)[i]? with
  | some (some (_,.int a))=>Q ((o::E).set i (some (.sh,.int (f a b))))
  | _=>False) /\
 (∀ {b:Bool}{Q:Bool->Prop},wM (.bool b) Q=Q b) /\
 (∀ {b:Bool}{Q:Bool->Prop},FW (.bool b) Q=Q b) /\
 (∀ {i:Int}{Q:Int->Prop},sZ (.int i) Q=Q i) /\
 (∀ {ds:List PyData}{Q:Bool->Prop},wM (.list ds) Q=Q (!ds.isEmpty)) /\
 (∀ {ds:List PyData}{Q:List PyData->Prop},Gn (.list ds) Q=Q ds) /\
 (∀ {ds:List PyData}{Q:List PyData->Prop},Gn (.tuple ds) Q=Q ds) /\
 (∀ {ds:List PyData}{Q:List PyData->Prop},tX (.list ds) Q=Q ds) /\
 (∀ {as:List Arg}{o:Option (Kd×PyData)}{E:En}{k:Kd}{v:PyData},A0 as (o::E) k v=if ((fR as).all (kN (o::E)) || flat k v)=true then some (o::E) else cG (fR as) (o::E)) /\
 (fR []=[])/\(∀ {i:Nat}{r:List Arg},fR (.pk i::r)=i::fR r)/\(∀ {d:DE}{r:List Arg},fR (.ev d::r)=fR r) /\
 (Kd.fz .sh=true)/\(Kd.fz (.ow false)=true)/\(Kd.fz (.dp false)=true)/\(Kd.fz (.dk false)=true)/\(Kd.fz (.dt false)=true) /\
 (Kd.rd .sh=true)/\(∀ {p:Bool},Kd.rd (.ow p)=true)/\(∀ {p:Bool},Kd.rd (.dp p)=true)/\(∀ {p:Bool},Kd.rd (.dk p)=true)/\(∀ {p:Bool},Kd.rd (.dt p)=true) /\
 (Kd.pin .sh=false)/\(∀ {p:Bool},Kd.pin (.ow p)=p)/\(∀ {p:Bool},Kd.pin (.dp p)=p)/\(∀ {p:Bool},Kd.pin (.dk p)=p)/\(∀ {p:Bool},Kd.pin (.dt p)=p) /\
 (∀ {v:PyData},flat .sh v=lf v)/\(∀ {i:Int},lf (.int i)=true)/\(∀ {b:Bool},lf (.bool b)=true)/\(∀ {s:Str},lf (.str s)=true)/\(lf .none=true) /\
 (type_of% Gk)/\(type_of% Fi)/\(type_of% IS) /\
 (∀ {ms:List Bool}{Q:List PyData->Kd->PyData->Prop}{x:XC},(aW ms Q x).xc=x) /\
 (∀ {ms:List Bool}{Q:List PyData->Kd->PyData->Prop}{x:XC}{o:Option (Kd×PyData)}{E:En},(aW ms Q x).nx (o::E)=aI (d7 ms (o::E)) fun us=>Q us .sh .none) /\
 (∀ {ms:List Bool}{Q:List PyData->Kd->PyData->Prop}{x:XC}{o:Option (Kd×PyData)}{E:En}{k:Kd}{v:PyData},(aW ms Q x).rt (o::E) k v=aI (d7 ms (o::E)) fun us=>Q us k v) /\
 (∀ {E:En},d7 [] E=some [])/\(∀ {ms:List Bool}{es:List PyData}{E:En},d7 (true::ms) (some (.ow true,.list es)::E)=(d7 ms E).map (.list es::·))/\(∀ {ms:List Bool}{o:Option (Kd×PyData)}{E:En},d7 (false::ms) (o::E)=d7 ms E) /\
 (∀ {ms:List Bool}{d:PyData}{ds:List PyData},ini (true::ms) (d::ds)=some (.ow true,d)::ini ms ds)/\(∀ {ms:List Bool}{d:PyData}{ds:List PyData},ini (false::ms) (d::ds)=some (.sh,d)::ini ms ds)/\(ini [] []=[]) /\
 (∀ {n:Nat},List.replicate (n + 1) (none:Option (Kd×PyData))=none::List.replicate n none)/\(List.replicate 0 (none:Option (Kd×PyData))=[]) /\
 (∀ {P:Prop},(True/\P)=P)/\(∀ {P:Prop},(P/\True)=P)/\(∀ {α:Type}{a:α},(a=a)=True)/\(∀ {α β:Type}{f:α->β}{a:α},(some a).map f=some (f a))/\(∀ {α β:Type}{f:α->Option β}{a:α},(some a).bind f=f a) /\
 (∀ {α:Type}{p:α->Bool},[].all p=true)/\(∀ {α:Type}{p:α->Bool}{a:α}{l:List α},(a::l).all p=(p a && l.all p))/\(∀ {b:Bool},(true && b)=b)/\(∀ {b:Bool},(false && b)=false)/\(∀ {b:Bool},(true || b)=true)/\(∀ {b:Bool},(false || b)=b)/\(∀ {b:Bool},(b || true)=true)/\((!true)=false)/\((!false)=true) /\
 (∀ {α:Type}{a b:α},(if True then a else b)=a)/\(∀ {α:Type}{a b:α},(if False then a else b)=b)/\(∀ {p:Prop} [Decidable p],(decide p=true)=p)/\((true=false)=False)/\((false=true)=False)/\(∀ {b:Bool},((!b)=true)=(b=false))/\(∀ {p:Prop} [Decidable p],(decide p=false)=¬ p) /\
 (∀ {α:Type}{l:List α},([]:List α)++l=l)/\(∀ {α:Type}{a:α}{l m:List α},(a::l)++m=a::(l++m)) :=
 ⟨rfl,rfl,rfl,rfl,rfl,rfl,rfl,rfl,rfl,(by
  intro o E i;unfold bP bS;generalize (o::E)[i]?=z;rcases z with _ | _ | ⟨k,d⟩ <;> rfl),rfl,rfl,rfl,rfl,rfl,rfl,rfl,rfl,rfl,rfl,rfl,rfl,rfl,(by
  intro f o E i b Q;unfold CH;generalize (o::E)[i]?=z;rcases z with _ | _ | ⟨k,d⟩
  ·rfl
  ·rfl
  ·cases d <;> rfl),rfl,rfl,rfl,rfl,rfl,rfl,rfl,rfl,rfl,rfl,rfl,rfl,rfl,rfl,rfl,rfl,rfl,rfl,rfl,rfl,rfl,rfl,rfl,rfl,rfl,rfl,rfl,rfl,rfl,rfl,rfl,Gk,Fi,IS,rfl,bU,bU,rfl,rfl,rfl,rfl,rfl,rfl,rfl,rfl,true_and _,and_true _,(by intros;exact eq_self _),rfl,rfl,rfl,(by intros;exact OH),(by intros;exact Bool.true_and _),(by intros;exact Bool.false_and _),(by intros;exact Bool.true_or _),(by intros;exact Bool.false_or _),(by intros;exact Bool.or_true _),rfl,rfl,if_true ..,if_false ..,(by intros;exact decide_eq_true_eq),(by simp),(by simp),(by simp),(by intros;simp),rfl,rfl⟩
def LV {xs:List PyData}{i:Int}{P:Kd->PyData->Prop}:aA [.list xs,.int i] P=aI (dg xs i) (P .sh):=by
 show (∃ d,dg xs i=some d/\P .sh d)=_;exact bU
def L0 {xs:List PyData}{i:Int}{P:Kd->PyData->Prop}:aA [.tuple xs,.int i] P=aI (dg xs i) (P .sh):=by
 show (∃ d,dg xs i=some d/\P .sh d)=_;exact bU
def LQ {c:String}{d:PyData}{P:Kd->PyData->Prop}:qJ c [d] P=aI (qm d) fun t=>P .sh (.bool (gM c t)):=bU
def NS {x:PyData}{l:List PyData}:dg (x::l) 0=some x:=by
 unfold dg nS;simp
def N5 {x y:PyData}{l:List PyData}:dg (x::y::l) 1=some y:=by
 unfold dg nS;simp;rw [if_pos (by omega)]
 rfl
def N1 {n:Nat}:kC (n + 1) 0=some 0:=by
 unfold kC;simp
def M3 {n:Nat}:kC (n + 2) 1=some 1:=by
 unfold kC;simp;omega
def dx :
 (∀ {x:PyData}{l:List PyData},dg (x::l) 0=some x)/\(∀ {x y:PyData}{l:List PyData},dg (x::y::l) 1=some y)/\(∀ {n:Nat},kC (n + 1) 0=some 0)/\(∀ {n:Nat},kC (n + 2) 1=some 1)/\(∀ {n:Nat},kC (n + 1 + 1) 1=some 1) /\
 (∀ {a b:Int}{P:Kd->PyData->Prop},c9 [.int a,.int b] P=P .sh (.int (a + b))) /\
 (∀ {a b:List PyData}{P:Kd->PyData->Prop},c9 [.list a,.list b] P=(a.length + b.length<=sizeLine/\P (.ow false) (.list (a++b)))) /\
 (∀ {a b:List PyData}{P:Kd->PyData->Prop},c9 [.tuple a,.tuple b] P=((a≠[]/\a.length + b.length<=sizeLine)/\P .sh (.tuple (a++b)))) /\
 (∀ {a b:Int}{P:Kd->PyData->Prop},l9 [.int a,.int b] P=P .sh (.int (a - b))) /\
 (∀ {a b:Int}{P:Kd->PyData->Prop},iw [.int a,.int b] P=(ja a b/\P .sh (.int (a * b)))) /\
 (∀ {a:List PyData}{k:Int}{P:Kd->PyData->Prop},iw [.list a,.int k] P=((-(2 ^ 63)<=k/\k < 2 ^ 63/\a.length * k.toNat<=sizeLine)/\P (.ow false) (.list (List.replicate k.toNat a).flatten))) /\
 (∀ {a b:Int}{P:Kd->PyData->Prop},i9 [.int a,.int b] P=(0 < b/\P .sh (.int (a % b)))) /\
 (∀ {a b:Int}{P:Kd->PyData->Prop},rY [.int a,.int b] P=(AM a b/\P .sh (.int (a / b)))) /\
 (∀ {a b:Int}{P:Kd->PyData->Prop},Du [.int a,.int b] P=(Er a b/\P .sh (.int (a ^ b.toNat)))) /\
 (∀ {a b:Int}{P:Kd->PyData->Prop},FI [.int a,.int b] P=P .sh (.bool (decide (a < b)))) /\
 (∀ {a b:Int}{P:Kd->PyData->Prop},N3 [.int a,.int b] P=P .sh (.bool (decide (a<=b)))) /\
 (∀ {a b:Int}{P:Kd->PyData->Prop},zv [.int a,.int b] P=P .sh (.bool (decide (b < a)))) /\
 (∀ {a b:Int}{P:Kd->PyData->Prop},JE [.int a,.int b] P=P .sh (.bool (decide (b<=a)))) /\
 (∀ {a:Int}{P:Kd->PyData->Prop},vP [.int a] P=P .sh (.int (-a))) /\
 (∀ {a b:Int}{P:Kd->PyData->Prop},iU [.int a,.int b] P=P .sh (.bool (decide (a=b)))) /\
 (∀ {a b:Str}{P:Kd->PyData->Prop},iU [.str a,.str b] P=P .sh (.bool (decide (a=b)))) /\
 (∀ {a b:Int}{P:Kd->PyData->Prop},mO [.int a,.int b] P=P .sh (.bool !(decide (a=b)))) /\
 (∀ {a b:Str}{P:Kd->PyData->Prop},mO [.str a,.str b] P=P .sh (.bool !(decide (a=b)))) /\
 (∀ {a b:List PyData}{P:Kd->PyData->Prop},iU [.list a,.list b] P=((dl 8 (.list a)=true/\dl 8 (.list b)=true)/\P .sh (.bool (decide (PyData.list a=.list b))))) /\
 (∀ {a b:List PyData}{P:Kd->PyData->Prop},mO [.list a,.list b] P=((dl 8 (.list a)=true/\dl 8 (.list b)=true)/\P .sh (.bool !(decide (PyData.list a=.list b))))) /\
 (∀ {P:Kd->PyData->Prop},dR false [.none,.none] P=P .sh (.bool true))/\(∀ {P:Kd->PyData->Prop},dR true [.none,.none] P=P .sh (.bool false)) /\
 (∀ {i:Int}{P:Kd->PyData->Prop},dR false [.int i,.none] P=P .sh (.bool false))/\(∀ {i:Int}{P:Kd->PyData->Prop},dR true [.int i,.none] P=P .sh (.bool true)) /\
 (∀ {i:List PyData}{P:Kd->PyData->Prop},dR false [.tuple i,.none] P=P .sh (.bool false))/\(∀ {i:List PyData}{P:Kd->PyData->Prop},dR true [.tuple i,.none] P=P .sh (.bool true)) /\
 (∀ {xs:List PyData}{i:Int}{P:Kd->PyData->Prop},aA [.list xs,.int i] P=aI (dg xs i) (P .sh)) /\
 (∀ {xs:List PyData}{i:Int}{P:Kd->PyData->Prop},aA [.tuple xs,.int i] P=aI (dg xs i) (P .sh)) /\
 (∀ {d:PyData}{xs:List PyData}{P:Kd->PyData->Prop},gH false [d,.list xs] P=((xs.all (dl 8)=true/\dl 8 d=true)/\P .sh (.bool (decide (d∈xs))))) /\
 (∀ {d:PyData}{xs:List PyData}{P:Kd->PyData->Prop},gH true [d,.list xs] P=((xs.all (dl 8)=true/\dl 8 d=true)/\P .sh (.bool !(decide (d∈xs))))) /\
 (∀ {d:PyData}{xs:List PyData}{P:Kd->PyData->Prop},gH false [d,.tuple xs] P=((xs.all (dl 8)=true/\dl 8 d=true)/\P .sh (.bool (decide (d∈xs))))) /\
 (∀ {d:PyData}{xs:List PyData}{P:Kd->PyData->Prop},gH true [d,.tuple xs] P=((xs.all (dl 8)=true/\dl 8 d=true)/\P .sh (.bool !(decide (d∈xs))))) /\
 (∀ {xs:List PyData}{P:Kd->PyData->Prop},dH [.list xs] P=P .sh (.int xs.length))/\(∀ {xs:List PyData}{P:Kd->PyData->Prop},dH [.tuple xs] P=P .sh (.int xs.length)) /\
 (∀ {xs:List PyData}{P:Kd->PyData->Prop},gX [.list xs] P=P (.ow false) (.list xs))/\(∀ {xs:List PyData}{P:Kd->PyData->Prop},gX [.tuple xs] P=P (.ow false) (.list xs)) /\
 (∀ {xs:List PyData}{P:Kd->PyData->Prop},iS [.list xs] P=P .sh (.tuple xs))/\(∀ {xs:List PyData}{P:Kd->PyData->Prop},iS [.tuple xs] P=P .sh (.tuple xs)) /\
 (∀ {a b:Int}{P:Kd->PyData->Prop},oq [.int a,.int b] P=P .sh (.int (if b < a then b else a)))/\(∀ {a b:Int}{P:Kd->PyData->Prop},qB [.int a,.int b] P=P .sh (.int (if b > a then b else a))) /\
 (∀ {a:Int}{P:Kd->PyData->Prop},uM [.int a] P=P .sh (.int (if a < 0 then -a else a)))/\(∀ {a:Int}{P:Kd->PyData->Prop},k8 [.int a] P=P .sh (.int a))/\(∀ {b:Bool}{P:Kd->PyData->Prop},k8 [.bool b] P=P .sh (.int (if b=true then 1 else 0))) /\
 (∀ {j:Int}{P:Kd->PyData->Prop},iQ [.int j] P=((0<=j/\j<=1000)/\P (.ow false) (.list (ji 0 j.toNat)))) /\
 (∀ {ds:List PyData}{P:Kd->PyData->Prop},dm ds P=(ds.length<=sizeLine/\P (.ow false) (.list ds)))/\(∀ {ds:List PyData}{P:Kd->PyData->Prop},kR ds P=(ds.length<=sizeLine/\P .sh (.tuple ds))) /\
 (∀ {xs:List PyData}{P:Kd->PyData->Prop},ko false false [.list xs] P=P (.ow false) (.list (cutD xs none none)))/\(∀ {xs:List PyData}{a:Int}{P:Kd->PyData->Prop},ko true false [.list xs,.int a] P=P (.ow false) (.list (cutD xs (some a) none))) /\
 (∀ {xs:List PyData}{b:Int}{P:Kd->PyData->Prop},ko false true [.list xs,.int b] P=P (.ow false) (.list (cutD xs none (some b))))/\(∀ {xs:List PyData}{a b:Int}{P:Kd->PyData->Prop},ko true true [.list xs,.int a,.int b] P=P (.ow false) (.list (cutD xs (some a) (some b)))) /\
 (∀ {xs:List PyData}{b:Int}{P:Kd->PyData->Prop},ko false true [.tuple xs,.int b] P=P .sh (.tuple (cutD xs none (some b)))) /\
 (∀ {j:Int},pC [.int j]=if -(2 ^ 62)<=j/\j < 2 ^ 62 then some (ji 0 j.toNat) else none) /\
 (∀ {i j:Int},Bw [.int i,.int j]=if -(2 ^ 62)<=i/\i < 2 ^ 62/\-(2 ^ 62)<=j/\j < 2 ^ 62 then some (ji i (j - i).toNat) else none) /\
 (∀ {c:String}{d:PyData}{P:Kd->PyData->Prop},qJ c [d] P=aI (qm d) fun t=>P .sh (.bool (gM c t))) /\
 (∀ {i:Int},qm (.int i)=some "int")/\(∀ {i:List PyData},qm (.tuple i)=some "tuple")/\(∀ {i:List PyData},qm (.list i)=some "list")/\(∀ {b:Bool},qm (.bool b)=some "bool")/\(qm .none=some "NoneType") /\
 (gM "int" "int"=true)/\(gM "int" "tuple"=false)/\(gM "tuple" "int"=false)/\(gM "tuple" "tuple"=true)/\(gM "bool" "int"=false)/\(gM "list" "list"=true)/\(gM "int" "NoneType"=false)/\(gM "tuple" "NoneType"=false) /\
 (∀ {ds:List PyData}{d:PyData}{P:List PyData->PyData->Prop},dB ds [d] P=(ds.length < sizeLine/\P (ds++[d]) .none)) /\
 (∀ {ds es:List PyData}{P:List PyData->PyData->Prop},Hg ds [.list es] P=(ds.length + es.length<=sizeLine/\P (ds++es) .none)) /\
 (∀ {ds:List PyData}{P:List PyData->PyData->Prop},uu ds [] P=∃ d,ds[ds.length - 1]?=some d/\P ds.dropLast d) /\
 (∀ {ds:List PyData}{i:Int}{P:List PyData->PyData->Prop},uu ds [.int i] P=((-(2 ^ 63)<=i/\i < 2 ^ 63)/\∃ n d,seqIndex? i ds.length=some n/\ds[n]?=some d/\P (ds.eraseIdx n) d)) /\
 (∀ {i:Nat}{d:PyData}{E:En},b7 (.nm i) d E=bQ [i] [d] E)/\(∀ {is:List Nat}{ds:List PyData}{E:En},b7 (.tp is) (.tuple ds) E=bQ is ds E) /\
 (∀ {E:En},bQ [] [] E=some E)/\(∀ {i:Nat}{is:List Nat}{d:PyData}{ds:List PyData}{o:Option (Kd×PyData)}{E:En},bQ (i::is) (d::ds) (o::E)=if bP (o::E) i then bQ is ds ((o::E).set i (some (.sh,d))) else none) /\
 (∀ {E:En},aU [] E=some E)/\(∀ {i:Nat}{r:List Nat}{o:Option (Kd×PyData)}{E:En},aU (i::r) (o::E)=if bP (o::E) i then aU r ((o::E).set i none) else none) /\
 (∀ {o:Option (Kd×PyData)}{E:En}{i:Nat}{w v:PyData}{Q:En->Prop},f7.setI (o::E) i w v Q=match (o::E)[i]?,w with
  | some (some (.ow p,.list ds)),.int a=>aI (kC ds.length a) fun n=>Q ((o::E).set i (some (.ow p,.list (ds.set n v))))
  | some (some (.dk p,.dict kvs)),w=>(jk w=true/\kvs.length < 16777216)/\Q ((o::E).set i (some (.dk p,.dict (putD kvs w v))))
  | some (some (.dt p,.dict (_::kvs))),.tuple ks=>(ks.all jk=true/\kvs.length < 16777216)/\Q ((o::E).set i (some (.dt p,.dict ((.none,.none)::putD kvs (.tuple ks) v))))
  | _,_=>False) /\
 (∀ {ms:List Bool}{as:List Arg}{o:Option (Kd×PyData)}{E:En}{us:List PyData}{k:Kd}{v:PyData}{Q:En->Kd->PyData->Prop},FQ ms as (o::E) us k v Q=aI (gg ms as us (o::E)) fun E2=>aI (qi ms as us E2 k v) fun E3=>Q E3 k v) /\
 (∀ {E:En},gg [] [] [] E=some E)/\(∀ {ms:List Bool}{a:Arg}{r:List Arg}{us:List PyData}{E:En},gg (false::ms) (a::r) us E=gg ms r us E) /\
 (∀ {ms:List Bool}{i:Nat}{r:List Arg}{u:PyData}{us:List PyData}{o:Option (Kd×PyData)}{E:En},gg (true::ms) (.pk i::r) (u::us) (o::E)=match (o::E)[i]? with
  | some (some (.ow p,.list _))=>if Bq u then gg ms r us ((o::E).set i (some (.ow p,u))) else none
  | _=>none)/\(∀ {l:List PyData},Bq (.list l)=true) /\
 (∀ {ms:List Bool}{as:List Arg}{us:List PyData}{o:Option (Kd×PyData)}{E:En}{k:Kd}{v:PyData},qi ms as us (o::E) k v=if ((kept ms as).all (kN (o::E)) || (flat k v && us.all (flat (.ow false))))=true then some (o::E) else cG (kept ms as) (o::E)) /\
 (kept [] []=[])/\(∀ {ms:List Bool}{i:Nat}{r:List Arg},kept (false::ms) (.pk i::r)=i::kept ms r)/\(∀ {ms:List Bool}{d:DE}{r:List Arg},kept (false::ms) (.ev d::r)=kept ms r)/\(∀ {ms:List Bool}{a:Arg}{r:List Arg},kept (true::ms) (a::r)=kept ms r) /\
 (∀ {ms:List Bool}{as:List Arg}{o:Option (Kd×PyData)}{E:En},nV ms as (o::E)=(shape ms as && decide (lent ms as).Nodup && (lent ms as).all (fun i=>!(kept ms as).contains i && (qk (o::E) i)))) /\
 (lent [] []=[])/\(∀ {ms:List Bool}{i:Nat}{r:List Arg},lent (true::ms) (.pk i::r)=i::lent ms r)/\(∀ {ms:List Bool}{a:Arg}{r:List Arg},lent (false::ms) (a::r)=lent ms r) /\
 (shape [] []=true)/\(∀ {ms:List Bool}{i:Nat}{r:List Arg},shape (true::ms) (.pk i::r)=shape ms r)/\(∀ {ms:List Bool}{a:Arg}{r:List Arg},shape (false::ms) (a::r)=shape ms r) /\
 (∀ {i:Nat},List.contains [] i=false)/\(∀ {i j:Nat}{l:List Nat},List.contains (j::l) i=(i == j || List.contains l i))/\(∀ {α:Type},([]:List α).length=0)/\(∀ {α:Type}{a:α}{l:List α},(a::l).length=l.length + 1)/\(sizeLine=16777216) /\
 (∀ {f:DE->Arg},List.map f []=[])/\(∀ {f:DE->Arg}{a:DE}{l:List DE},List.map f (a::l)=f a::List.map f l)/\(∀ {α:Type},(([]:List α).Nodup)=True)/\(∀ {i:Nat},([i]:List Nat).Nodup=True) :=
 ⟨NS,N5,N1,M3,M3,rfl,rfl,rfl,rfl,rfl,rfl,rfl,rfl,rfl,rfl,rfl,rfl,rfl,rfl,rfl,rfl,rfl,rfl,rfl,rfl,(by simp [dR]),(by simp [dR]),(by simp [dR]),(by simp [dR]),(by simp [dR]),(by simp [dR]),LV,L0,
  (by intro d xs P;cases d <;> rfl),(by intro d xs P;cases d <;> rfl),(by intro d xs P;cases d <;> rfl),(by intro d xs P;cases d <;> rfl),rfl,rfl,rfl,rfl,rfl,rfl,rfl,rfl,rfl,rfl,rfl,rfl,rfl,rfl,rfl,rfl,rfl,rfl,rfl,rfl,rfl,LQ,rfl,rfl,rfl,rfl,rfl,(by decide),(by decide),(by decide),(by decide),(by decide),(by decide),(by decide),(by decide),
  rfl,rfl,rfl,rfl,rfl,rfl,rfl,rfl,rfl,rfl,(by
   intro o E i w v Q;unfold f7.setI;simp only [bU]
   try rfl),rfl,rfl,rfl,rfl,rfl,rfl,rfl,rfl,rfl,(by intro ms a r;cases a <;> rfl),(by intros;rfl),rfl,rfl,(by intro ms a r;cases a <;> rfl),rfl,rfl,(by intro ms a r;cases a <;> rfl),rfl,(by intros;rw [List.contains_cons]),rfl,rfl,rfl,rfl,rfl,(by simp),(by simp)⟩
end Dv
namespace L2
open PySem PySem.Spec PyProof.Rows
def CC {P:Program}{w:World}{K:PySem.W.Frag}{mg mb:Str->Option Value}{CX:ki}{k:Nat}{fa a:Addr}{fd:FuncData}{x:Str}{sp:Sp}{s₁:Shared}{vs:List Value}{ns:List Int}
  (KX:K.In s₁.heap)(hns:s₁.heap.Ns mainGlobals mg)(hb:s₁.heap.Ns builtinsNs mb)(hbb:∀ x:Str,x≠"__name__"->mb x=bootBuiltins x)(hlim:s₁.heap.NoLimit)(hg:s₁.gens=#[])
  (ha:s₁.heap.get? a=some { cls:=.type "list",data:=.seq vs.toArray })(hi:IntsAre vs ns)(hl:ns.length<=sizeLine)(hr:dJ k callerA)
  (F:∀ base:Heap,K.In base->base.Ns mainGlobals mg->aX P w K mg base CX k fa fd [x] sp)(hbind:∀ (s:Shared)(u:Value),BindsTo s fd ⟨[u],[]⟩ [(x,u)])
  (hsp:∀ H:Hp,Ej H->Dv.b9 K H a (ns.map V.int)->sp [.ref a] H (fun v _=>v=.bl true) fun _ _ _=>False)
  (hCX:∀ H e s',CX [] H s₁ (fun _ _ _=>False) e s'->False) :
  codeAny (model P w) callerA (.call (.ref fa) ⟨[.ref a],[]⟩) (fun r s'=>r=.ok (.ret (.bool true))/\OldK s₁.heap s'.heap/\s'.os=s₁.os/\AllBare s'.gens) s₁:=by
 have rv:=tS hi;have vg:=hi.length
 -- from an abstract heap in which nothing but the script may be tracked
 have core:∀ H:Hp,Ej H->Dv.b9 K H a (ns.map V.int)->cS P w H s₁.heap->(∀ b,H b≠none->b=a)->(H a≠none->K.lookup a=none) ->
   codeAny (model P w) callerA (.call (.ref fa) ⟨[.ref a],[]⟩) (fun r s'=>r=.ok (.ret (.bool true))/\OldK s₁.heap s'.heap/\s'.os=s₁.os/\AllBare s'.gens) s₁:=by
  intro H hO hS hok hA hK;have base_of:∀ {b:Addr}{o:Obj},s₁.heap.get? b=some o->H b=none->(lT s₁.heap H).get? b=some o:=fun e n=>Eg e n
  have noA:∀ {b:Addr}{o:Obj}{es:Array DictEntry}{ep:Nat},s₁.heap.get? b=some o->o.data=.dict es ep->H b=none:=fun {b o es ep} e d=>by
   cases q:H b with
   | none=>rfl
   | some u =>
    have e':b=a:=hA b (by rw [q];simp)
    subst e';rw [ha] at e;cases e;have d':Data.seq vs.toArray _=Data.dict es ep:=d;cases d'
  have nsK:∀ {b:Addr}{m:Str->Option Value},s₁.heap.Ns b m->(lT s₁.heap H).Ns b m:=fun {b m} ⟨o,es,ep,e,d,r⟩=>⟨o,es,ep,base_of e (noA e d),d,r⟩
  have hKb:K.In (lT s₁.heap H):=fun b o e=>base_of (KX b o e) (by
   cases q:H b with
   | none=>rfl
   | some u =>
    have e':b=a:=hA b (by rw [q];simp)
    subst e';rw [hK (by rw [q];simp)] at e;cases e)
  have hM:Mod K mg (lT s₁.heap H):=⟨hKb,nsK hns,⟨mb,nsK hb,hbb⟩,let ⟨mc,h1,h2⟩:=hlim;⟨mc,nsK h1,h2⟩⟩
  have e0:zQ P w K mg (lT s₁.heap H) callerA [] s₁ H:=⟨rfl,hM,fun b o e=>Hx e,Nat.le_of_eq (De _ _),trivial,fun b hb=>absurd (show b∈([]:List Addr) from hb) (by simp),hok,.of_eq hg⟩
  refine codeAny_mono ((F _ hKb (nsK hns)).run callerA [] s₁ H ⟨[.ref a],[]⟩ [.ref a] [.ref a] _ _ hr e0 (hbind s₁ (.ref a)) (.cons rfl .nil) (hsp H hO hS)) fun r s' h=>?_
  cases r with
  | error e=>exact (hCX H e s' h).elim
  | ok fl =>
   cases fl with
   | next=>exact False.elim h
   | brk=>exact False.elim h
   | cont=>exact False.elim h
   | ret u =>
    obtain ⟨v,H',os,bare,un,hok',r',q⟩:=h;have q':v=.bl true:=q;subst q';obtain rfl:u=Value.bool true:=r';refine ⟨rfl,OldK.of_keep fun b o e=>?_,os,bare⟩
    cases q:H b with
    | none=>exact un.keep b o e q (by intro z;exact absurd (show b∈([]:List Addr) from z) (by simp)) (by simp)
    | some u =>
     rcases hO b with z | ⟨ob,xs,z⟩
     ·rw [q] at z;cases z
     ·have z2:=un.jd b ob _ z;obtain ⟨e1,_⟩:=hok b _ z;obtain ⟨e2,_⟩:=hok' b _ z2;rw [e] at e1;cases e1;exact e2
 cases hk:K.lookup a with
 | some o =>
  -- the script is one of the module's own objects
  have e:=KX a o hk;rw [ha] at e;cases e;refine core (fun _=>none) (fun _=>.inl rfl) (.inr ⟨vs,_,hk,by rw [vg];exact hl,rv⟩) (fun b u z=>by have z':(none:Option HO)=some u:=z;cases z') (fun b z=>absurd rfl z) fun z=>absurd rfl z
 | none =>
  refine core (fun b=>if b=a then some (.bY { cls:=.type "list",data:=.seq vs.toArray } (.lst (ns.map V.int))) else none) (fun b=>?_) (.inl (.inr ⟨{ cls:=.type "list",data:=.seq vs.toArray },if_pos rfl⟩)) (fun b u z=>?_) (fun b z=>?_) fun _=>hk
  ·by_cases hb:b=a
   ·exact .inr ⟨_,_,if_pos hb⟩
   ·exact .inl (if_neg hb)
  ·by_cases hb:b=a
   ·have z':=(if_pos hb).symm.trans z;cases z';subst hb;exact ⟨ha,by rw [O7];exact hl,vs,_,rv,ha⟩
   ·have z':=(if_neg hb).symm.trans z;cases z'
  ·by_cases hb:b=a
   ·exact hb
   ·exact absurd (if_neg hb) z
def Kq {l:PySem.W.OpenLaw}{n k:Nat}{q:Program}{loose:List Str}{XP:(Str->Option Value)->Heap->Prop}{YP:World->Heap->Prop}{d:DefRec}{K:Params->PySem.W.Frag}{CX:World->ki}{sp:World->Sp}{x:Str}
  (hn:l.most=some n)(hn2:n<=sizeLine)(hdf:d.params.defaults=[])(hr:dJ k callerA)
  (hY:∀ (w:World)(h:Heap),YP w h->(K w.params).In h)
  (F:∀ (w:World)(mg:Str->Option Value)(fa:Addr)(h:Heap),(K w.params).In h->h.Ns mainGlobals mg->mg d.name=some (.ref fa) ->
   ∃ fd:FuncData,(∀ (s:Shared)(u:Value),BindsTo s fd ⟨[u],[]⟩ [(x,u)]) /\
    ∀ base:Heap,(K w.params).In base->base.Ns mainGlobals mg->aX l.prog w (K w.params) mg base (CX w) k fa fd [x] (sp w))
  (hsp:∀ (w:World)(H:Hp)(a:Addr)(ns:List Int),ns.length<=n->Ej H->Dv.b9 (K w.params) H a (ns.map V.int)->sp w [.ref a] H (fun v _=>v=.bl true) fun _ _ _=>False)
  (hCX:∀ (w:World)(H:Hp)(s:Shared)(e:Value)(s':Shared),CX w [] H s (fun _ _ _=>False) e s'->False) :
  PySem.W.WalkO q loose XP YP l.row.toRowW d [] (fun f vs=>PySem.call f vs):=by
 refine M0.xR hn hdf fun w s₀ s₁ mg mb fa o pm cd doc a vs ns G Y ho hd hcd hmg hobj hints hlen hg=>?_
 have KX:=hY w _ Y;obtain ⟨fd,hb,hF⟩:=F w mg fa _ KX G.T.g hmg;exact CC KX G.T.g G.T.b G.T.builtins G.T.nolimit hg hobj hints (Nat.le_trans hlen hn2) hr hF hb (fun H hO hS=>hsp w H a ns hlen hO hS) fun H e s'=>hCX w H s₁ e s'
end L2
namespace Dv
open PySem L2 PySem.W
inductive yG (K:Frag)(vs:List V)(H:Hp)(Q:VK):Prop
 | mk:∀ (a:Addr)(ns:List Int),(vs=[.ref a])->(b9 K H a (ns.map V.int))->(ns.length<=63)->(∀ H',Q (.bl true) H')->yG K vs H Q
def BR (K:Frag):Sp:=fun vs H Q _E3=>yG K vs H Q
def rX:bC:=fun ds Q x=>∃ ns:List Int,ds=[.list (ns.map .int)]/\ns.length<=63/\Q [] .sh (.bool true)
def HE {mg:Str->Option Value}{K:Frag}{vs:List V}{H:Hp}{Q:VK}{E:XK}(h:BR K vs H Q E):aN mg K [false] rX vs H Q E:=by
 obtain ⟨a,ns,rfl,r,hl,q⟩:=h;refine ⟨[.list (ns.map .int)],[],H,fun _ _ r=>r=.bool true,xF,af.refl _,.sh (.lst r (mj ns)) .nil,⟨ns,rfl,hl,rfl⟩,fun us k r u H' Hm' fp e _ _ _ _ _ o _=>?_,fun _ _ _ _ _ _ z=>z.elim⟩
 cases e;cases o with
 | sh h=>cases h;exact q H'
def C9 {l:OpenLaw}{q:Program}{loose:List Str}{XP:(Str->Option Value)->Heap->Prop}{YP:World->Heap->Prop}{d:DefRec}{K:Params->Frag}{k:Nat}(hn:l.most=some 63)(hdf:d.params.defaults=[])(hr:dJ k callerA)
  (hY:∀ (w:World)(h:Heap),YP w h->(K w.params).In h)
  (F:∀ (w:World)(mg:Str->Option Value)(fa:Addr)(h:Heap),(K w.params).In h->h.Ns mainGlobals mg->mg d.name=some (.ref fa) ->
   ∃ fd:FuncData,(∀ (s:Shared)(u:Value),BindsTo s fd ⟨[u],[]⟩ [("script",u)])/\∀ base:Heap,(K w.params).In base->base.Ns mainGlobals mg->aX l.prog w (K w.params) mg base (bF l.prog w) k fa fd ["script"] (aN mg (K w.params) [false] rX)) :
  WalkO q loose XP YP l.row.toRowW d [] (fun f vs=>PySem.call f vs) :=
 L2.Kq (n:=63) (k:=k) (x:="script") (CX:=fun w=>bF l.prog w) (sp:=fun w=>BR (K w.params)) hn (by decide) hdf hr hY (fun w mg fa h h1 h2 h3=>by
  obtain ⟨fd,hb,hF⟩:=F w mg fa h h1 h2 h3;exact ⟨fd,hb,fun base g1 g2=>(hF base g1 g2).imp fun vs H Q E z=>HE z⟩) (fun _ _ a ns hl _ hS=>⟨a,ns,rfl,hS,hl,fun _=>rfl⟩) fun w H s e s' z=>by
  obtain ⟨_,_,_,_,_,_,_,_,_,_,_,_,_,_,z⟩:=z;exact z.elim
def qU:DR:=fun ds P=>∃ ps:List (Int×Int),ds=[.list (ps.map pD)]/\ps.length<=1000/\∀ qs:List (Int×Int),qs.Perm ps->P (.ow false) (.list (qs.map pD))
def D6 {K:Frag}{H:Hp}:∀ {zs ys:List V},zs.Perm ys->∀ {ps:List (Int×Int)},au K H ys (ps.map pD)->∃ qs:List (Int×Int),qs.Perm ps/\au K H zs (qs.map pD):=by
 intro zs ys h
 induction h with
 | nil=>intro ps r;exact ⟨ps,.refl _,r⟩
 | cons x _ ih =>
  intro ps r;cases ps with
  | nil=>cases r
  | cons p ps =>
   cases r with
   | cons h t =>
    obtain ⟨qs,pq,r'⟩:=ih t;exact ⟨p::qs,pq.cons _,.cons h r'⟩
 | swap x y l =>
  intro ps r
  match ps,r with
  | p::p2::ps,.cons h (.cons h2 t)=>exact ⟨p2::p::ps,List.Perm.swap _ _ _,.cons h2 (.cons h t)⟩
 | trans _ _ ih1 ih2 =>
  intro ps r;obtain ⟨q1,p1,r1⟩:=ih2 r;obtain ⟨q2,p2,r2⟩:=ih1 r1;exact ⟨q2,p2.trans p1,r2⟩
def BF {K:Frag}:cM K qU (Bo K):=by
 rintro H Hm vs ds P Q s r ⟨ps,rfl,hn,h⟩ q;obtain ⟨x,rfl,h1⟩:=c7 r;obtain ⟨a,xs,rfl,ha,r1⟩:=ie h1;have l1:xs.length=ps.length:=by rw [r1.len,O7]
 refine ⟨a,xs,rfl,(b9.mono s ha).sq,fun y hy=>?_,by rw [l1];exact hn,fun zs p pm hp=>?_⟩
 ·obtain ⟨i,hi⟩:=List.getElem?_of_mem hy;obtain ⟨d,e,r'⟩:=r1.DA hi;rw [OG] at e;obtain ⟨p,_,rfl⟩:=Option.map_eq_some_iff.mp e;cases r' with
  | tup b r2 =>
   obtain ⟨x,y,rfl,h2,h3⟩:=cP r2;cases h2;cases h3;exact ⟨_,_,_,rfl,bW.of (s _ _ b)⟩
 ·obtain ⟨qs,pq,r'⟩:=D6 pm r1;exact bu.nl q s (h qs pq) hp r'
section
variable {X:Cx}{Ex:XK}{π:List Nat}{a:Expr}{p pos:Pos}{as:List Arg}
def Ld (hm:X.mg "sorted"=none)(S:aL X Ex π [a] as)(hg:Gl X "sorted":=by rfl)(ns:noStar a=true:=by rfl):SE X Ex π (.Call (.Name "sorted" p) [a] [] pos) (aa qU as):=ic xg BF hg hm PyProof.Rows.boot_sorted (by decide) (by decide) (by rw [OH,ns];rfl) S
end
def prs {α:Type}:List α->Option (List (α×α))
 | []=>some []
 | k::v::r=>(prs r).map ((k,v)::·)
 | [_]=>none
noncomputable def KO (kvs:List (PyData×PyData)):List (PyData×PyData):=kvs.foldl (fun acc kv=>putD acc kv.1 kv.2) []
noncomputable def jl:DR:=fun ds P=>∃ kvs,prs ds=some kvs/\(kvs.all fun kv=>jk kv.1)=true/\kvs.length<=15/\P (.dk false) (.dict (KO kvs))
section
variable {K:Frag}{g:Gh}{E:En}{σ:St}{H H' Hm Hm':Hp}{F:Nat->List Addr}
def Rl.qD (R:Rl K g E σ H Hm F){p:Addr}{o:HO}(A:iO g F H Hm [p]):Rl K g E σ (upd H p o) Hm F where
 len:=R.len
 sub:=fun b u e=>by
  have:b≠p:=fun z=>by rw [z,A.off p N9] at e;cases e
  rw [ai this];exact R.sub _ _ e
 slot:=fun i k d e=>by
  obtain ⟨v,h1,h2⟩:=R.slot i k d e;exact ⟨v,h1,h2.step (af.refl _) fun a ha=>ai fun z=>A.aD p N9 i (z ▸ ha)⟩
 off:=R.off
 bx:=fun i a ha=>by
  obtain ⟨u,hu,n⟩:=R.bx i a ha;have ne:a≠p:=fun z=>A.aD p N9 i (z ▸ ha)
  exact ⟨u,by rw [ai ne];exact hu,n⟩
 aD:=R.aD
 fr:=fun q o hq ho=>by
  have:q≠p:=fun z=>by rw [z,A.new p N9] at ho;cases ho
  rw [ai this];exact R.fr q o hq ho
 new:=R.new
 pin:=R.pin
 old:=R.old
theorem sN:∀ {vs:List V}{ds:List PyData}{kvd:List (PyData×PyData)},au K H vs ds->prs ds=some kvd->(kvd.all fun kv=>jk kv.1)=true->∃ kvs:List (Key×V),prs vs=some (kvs.map fun kv=>(kV kv.1,kv.2))/\cW K H kvs kvd
 | _,_,kvd,.nil,e,_=>by cases e;exact ⟨[],rfl,.nil⟩
 | _,_,kvd,.cons h .nil,e,_=>by cases e
 | _,_,kvd,.cons (d:=d1) h1 (.cons (d:=d2) h2 r),e,hk=>by
  simp only [prs] at e;obtain ⟨rest,e1,rfl⟩:=Option.map_eq_some_iff.mp e;rw [OH,OA] at hk;obtain ⟨k,rfl⟩:=lG hk.1;obtain ⟨kvs,e2,q⟩:=sN r e1 hk.2;rw [nu h1];exact ⟨(k,_)::kvs,by simp only [prs,e2];rfl,.cons h2 q⟩
theorem cW.length:∀ {kvs:List (Key×V)}{ds:List (PyData×PyData)},cW K H kvs ds->kvs.length=ds.length
 | _,_,.nil=>rfl
 | _,_,.cons _ r=>congrArg (· + 1) r.length
theorem qE:∀ (kvs:List (Key×V)){kvd:List (PyData×PyData)}{acc:List (Key×V)}{accd:List (PyData×PyData)},cW K H kvs kvd->cW K H acc accd->cW K H (jW acc kvs) (kvd.foldl (fun acc kv=>putD acc kv.1 kv.2) accd)
 | [],kvd,_,_,r,h=>by cases r;exact h
 | (k,v)::kvs,kvd,_,_,r,h=>by
  cases r with
  | cons r t =>
   have:=qE kvs t (h.put k r);exact this
end
section
variable {X:Cx}{Ex:XK}{π:List Nat}
def WE.mono {e:Expr}{σ:St}{H:Hp}{Q Q':VK}(h:WE X e σ H Q)(q:∀ v H,Q v H->Q' v H):WE X e σ H Q':=fun pins s I=>aF (h pins s I) fun u s1 ⟨x,H1,I1,rx,q1⟩=>⟨x,H1,I1,rx,q _ _ q1⟩
theorem rL {σ:St}:∀ {qs:List (Expr×Expr)}{H:Hp}{Q Q':List (V×V)->Hp->Prop},lK (qs.map fun q=>(WE X q.1,WE X q.2)) σ H Q->(∀ ps H,Q ps H->Q' ps H)->lK (qs.map fun q=>(WE X q.1,WE X q.2)) σ H Q'
 | [],_,_,_,h,q=>q _ _ h
 | _::qs,_,_,_,h,q=>WE.mono h fun _ _ h1=>WE.mono h1 fun _ _ h2=>rL (qs:=qs) h2 fun _ _ h3=>q _ _ h3
theorem CO:∀ {ks vs:List Expr}{pos:Pos},ks.length=vs.length->Cu X pos (ks.map some) vs ((ks.zip vs).map fun q=>(WE X q.1,WE X q.2))
 | [],[],_,_=>Ic
 | k::ks,v::vs,_,h=>D7 bE bE (CO (by simpa using h))
theorem uD {σ:St}:∀ {ks vs es:List Expr}{H:Hp}{Q:List V->Hp->Prop},ks.length=vs.length->prs es=some (ks.zip vs)->qT X es σ H Q->lK ((ks.zip vs).map fun q=>(WE X q.1,WE X q.2)) σ H fun ps H1=>∃ us,prs us=some ps/\Q us H1
 | [],[],es,H,Q,_,e,h=>by
  match es,e with
  | [],_=>exact ⟨[],rfl,h⟩
  | [_],e=>cases e
  | _::_::r,e =>
   simp only [prs] at e;obtain ⟨_,_,z⟩:=Option.map_eq_some_iff.mp e;cases z
 | k::ks,v::vs,es,H,Q,hl,e,h=>by
  match es,e with
  | [],e=>cases e
  | [_],e=>cases e
  | a::b::r,e =>
   simp only [prs] at e;obtain ⟨rest,e1,z⟩:=Option.map_eq_some_iff.mp e;cases z;refine WE.mono h fun x H1 h1=>WE.mono h1 fun y H2 h2=>?_
   have:=uD (ks:=ks) (vs:=vs) (es:=r) (H:=H2) (Q:=fun us H3=>Q (x::y::us) H3) (by simpa using hl) e1 h2
   refine rL this fun ps H3=>?_
   rintro ⟨us,e2,q⟩;exact ⟨x::y::us,by simp only [prs,e2];rfl,q⟩
def ze {ks vs es:List Expr}{as:List Arg}{pos:Pos}(S:aL X Ex π es as)(hl:ks.length=vs.length)(he:prs es=some (ks.zip vs))(h0:ks≠[])(h15:ks.length<=15)(hp:fR as=[]):SE X Ex π (.Dict (ks.map some) vs pos) (aa jl as):=by
 intro g x E σ H Hm F P Q hx R h q;refine WE.of (HW (CO hl) (by rw [List.all_map];exact OC.mpr fun _ _=>rfl) (by rw [O7];exact hl) (fun z=>h0 (List.map_eq_nil_iff.mp z)) (by rw [O7];exact h15)) ?_
 intro p hp0;have sH:=bA (o:=.dK []) hp0;have R1:=R.grow (H':=upd H p (.dK [])) sH (af.refl _) (R.sub.trans sH) (fun i a ha=>R.off i a ha) fun _ _=>.inl rfl
 have A:iO g F (upd H p (.dK [])) Hm [p]:=⟨fun a ha=>by rw [O8.mp ha];exact ⟨_,aq,qv⟩,fun a ha=>by rw [O8.mp ha];exact R.jK hp0,fun a ha i=>by rw [O8.mp ha];exact R.fresh hp0,fun a ha=>by rw [O8.mp ha];exact R.dW hp0⟩
 have nM:=A.notM R1;refine rL (uD hl he (jL (hx.eF A) S (R1.eF A) h (Q:=fun us H2=>H2 p=some (.dK [])/\∀ ps,prs us=some ps->∃ kvs:List (Key×V),ps=kvs.map (fun kv=>(kV kv.1,kv.2))/\kvs.length<=15/\Q (.ref p) (upd H2 p (.dK (jW [] kvs)))) fun E1 os us H1 Hm1 F1 pp R2 s1 G=>?_)) fun ps H2 ⟨us,e,h1,h2⟩=>⟨h1,h2 ps e⟩
 obtain ⟨ds,hf,kvd,e1,e2,e3,E2,ha,pq⟩:=pp;have Dg:au X.K Hm1 us ds:=jt R2 (af.refl _) G hf fun i hi=>by rw [hp] at hi;cases hi
 obtain ⟨R3,A3,keep⟩:=Rl.qu A nM R2;obtain ⟨kvs,e4,kv⟩:=sN Dg e1 e2;have hE:E2=E1:=by
  unfold A0 at ha;rw [hp] at ha;have:cG [] E1=some E1:=rfl;split at ha
  ·cases ha;rfl
  ·rw [this] at ha;cases ha;rfl
 subst hE;refine ⟨(keep p N9).trans aq,fun ps ep=>⟨kvs,?_,by rw [kv.length];exact e3,?_⟩⟩
 ·rw [e4] at ep;cases ep;rfl
 ·exact q _ _ _ _ _ Hm1 F1 [p] pq (R3.qD A3) s1 ⟨.dk aq (qE kvs kv .nil),fun a ha=>A3.off a ha,fun a ha i=>A3.aD a ha i,fun a ha=>A3.new a ha⟩
end
section
variable {X:Cx}{Ex:XK}{π:List Nat}
def Ly {k v:Expr}{as:List Arg}{pos:Pos}(S:aL X Ex π [k,v] as)(hp:fR as=[]:=by rfl):SE X Ex π (.Dict [some k] [v] pos) (aa jl as):=ze (ks:=[k]) (vs:=[v]) S rfl rfl (List.cons_ne_nil _ _) (Nat.le_of_ble_eq_true rfl) hp
def JK {k1 v1 k2 v2 k3 v3:Expr}{as:List Arg}{pos:Pos}(S:aL X Ex π [k1,v1,k2,v2,k3,v3] as)(hp:fR as=[]:=by rfl):SE X Ex π (.Dict [some k1,some k2,some k3] [v1,v2,v3] pos) (aa jl as):=ze (ks:=[k1,k2,k3]) (vs:=[v1,v2,v3]) S rfl rfl (List.cons_ne_nil _ _) (Nat.le_of_ble_eq_true rfl) hp
end
def Ir {k:PyData}{v:PyData}{P:Kd->PyData->Prop}:jl [k,v] P=(jk k=true/\P (.dk false) (.dict [(k,v)])):=by
 unfold jl;refine propext ⟨?_,?_⟩
 ·rintro ⟨kvs,e,h1,h2,h⟩;cases e;exact ⟨by simpa using h1,h⟩
 ·rintro ⟨h1,h⟩;exact ⟨[(k,v)],rfl,by simpa using h1,Nat.le_of_ble_eq_true rfl,h⟩
def HV {a b c:Str}{u v w:PyData}{P:Kd->PyData->Prop}(h1:a≠b)(h2:a≠c)(h3:b≠c):jl [.str a,u,.str b,v,.str c,w] P=P (.dk false) (.dict [(.str a,u),(.str b,v),(.str c,w)]):=by
 have e:KO [(.str a,u),(.str b,v),(.str c,w)]=[(.str a,u),(.str b,v),(.str c,w)]:=by
  have n1:PyData.str a≠.str b:=fun z=>h1 (PyData.str.inj z)
  have n2:PyData.str a≠.str c:=fun z=>h2 (PyData.str.inj z)
  have n3:PyData.str b≠.str c:=fun z=>h3 (PyData.str.inj z)
  simp [KO,putD,n1,n2,n3]
 unfold jl;refine propext ⟨?_,?_⟩
 ·rintro ⟨kvs,z,h1,h2,h⟩;cases z;rw [e] at h;exact h
 ·intro h;exact ⟨_,rfl,rfl,Nat.le_of_ble_eq_true rfl,by rw [e];exact h⟩
end Dv
namespace SM
open PySem
section
variable {prog:Program}{w:World}{K:Type} [DecidableEq K]{knd:HeapKind prog w K}{A:Around}{E:Value->Shared->Prop}{s:Shared}{d a:Addr}{k:K}{xs:List (K×Addr×Value)}
def Bf {dv:Value}{Q:Value->Shared->Prop}(hu:knd.room A)(hkey:knd.is s.heap k a)(hm:s.heap.DictOfH knd d xs)(hsz:xs.length<=sizeLine)
  (old:∀ p,atKey xs k=some p->Q p.2 { s with toks:=s.toks + knd.draws k })
  (new:atKey xs k=none->∀ h',h'.DictOfH knd d (storedH xs k a dv)->Heap.SameBut d s.heap h'->Q dv { s with heap:=h',toks:=s.toks + knd.draws k }):wpAny (model prog w) A (dictSetDefault d (.ref a) dv) Q E s:=by
 obtain ⟨o,es,ep,ho,hc,hd,he,his,hn⟩:=hm;unfold dictSetDefault
 try with_reducible refine wpAny_holding ?_
 refine N8 (knd.pyHash hu hkey (?_:_))
 refine N8 (wpAny_dictFind_heap (s:={ s with toks:=s.toks + knd.draws k }) hu hkey ho hd he his hn (fun hno=>?_) fun j p hj=>?_)
 ·have hnot:k∉xs.map (·.1):=not_mem_keys_of_get hno;have hat:=atKey_none_of_get hno;refine N8 (wpAny_rule (N8 (wpAny_updateDictKeys (hz:=by have e:=size_of_entries he;omega) (s:={ s with toks:=s.toks + knd.draws k }) ho hd (O0 (new hat _ ⟨_,_,ep + 1,Heap.get?_update_self _ ho (Obj.isFreed_of_dict (Obj.data_mapDictKeys hd _)),hc.mapDictKeys _,Obj.data_mapDictKeys hd _,?_,?_,?_⟩ (Heap.SameBut.update ..))))))
  ·rw [storedH_new hat];simp [he,entryOfKey]
  ·rw [storedH_new hat];intro x hx;rcases OT.mp hx with hx | hx
   ·exact knd.keeps (his x hx) ho hd (Heap.SameBut.update ..)
   ·have e:x=(k,a,dv):=by simpa using hx
    subst e;exact knd.keeps hkey ho hd (Heap.SameBut.update ..)
  ·rw [storedH_new hat,List.map_append,List.nodup_append];refine ⟨hn,by simp,fun x hx y hy e=>?_⟩
   have e2:y=k:=by simpa using hy
   exact hnot (by rw [<- e2,<- e];exact hx)
 ·have hat:=atKey_of_get hn hj;refine N8 (wpAny_dictEntries (s:={ s with toks:=s.toks + knd.draws k }) ho hd (?_:_))
  rw [entry_at he j,hj];exact N8 (wpAny_rule (O0 (old p hat)))
def qq {dv:Value}{Q:Value->Shared->Prop}(hu:knd.room A.in1)(hkey:knd.is s.heap k a)(hd0:(d == sysModules)=false)(hm:s.heap.DictOfH knd d xs)(hsz:xs.length<=sizeLine)
  (old:∀ p,atKey xs k=some p->Q p.2 { s with toks:=s.toks + knd.draws k })
  (new:atKey xs k=none->∀ h',h'.DictOfH knd d (storedH xs k a dv)->Heap.SameBut d s.heap h'->Q dv { s with heap:=h',toks:=s.toks + knd.draws k }):wpAny (model prog w) A (call (.builtin "dict.setdefault") [.ref d,.ref a,dv]) Q E s:=by
 refine wpAny_call_entry F.slot_dict_setdefault hm.typeIs F.entry_dict_setdefault (?_:_) (F.args_dict_setdefault_3 _ _ _)
 unfold Builtin.«dict.setdefault»;refine N8 (?_:_)
 unfold Builtin.Dict.keyAndDefault;refine N8 (wpAny_notOrdered_dict hm.typeIs (?_:_))
 refine id (?_:wpAny _ _ (pure (d,Value.ref a,some dv)) _ _ s);refine O0 (?_:_)
 refine id (?_:wpAny _ _ (if (d == sysModules)=true then _ else (dictSetDefault d (.ref a) dv >>= _)) _ _ s)
 rw [if_neg (by rw [hd0];exact ON)]
 exact N8 (Bf hu hkey hm hsz (fun p hp=>O0 ⟨p.2,rfl,old p hp⟩) fun hn h' hm' hs'=>O0 ⟨dv,rfl,new hn h' hm' hs'⟩)
end
end SM
namespace L2
open PySem PySem.Spec PyProof.Rows
section
variable {X:Cx}
def Ma:V->List V->Hp->VK->Prop:=fun x vs H Q=>∃ (a b:Addr)(kvs:List (List Key×V))(k:List Key) (v:V),x=.ref a/\vs=[.ref b,v]/\H a=some (.dT kvs)/\H b=some (.tup (k.map kV))/\kvs.length < sizeLine /\
 match bL kvs k with
 | some u=>Q u H
 | none=>Q v (upd H a (.dT (kvs++[(k,v)])))
def HX (hu:X.A.units + 8 < cLine):KS X "dict.setdefault" Ma:=by
 intro pins s σ H x vs v us Q I rx rv h;obtain ⟨a,b,kvs,k,y,rfl,rfl,ha,hb,hl,q⟩:=h;cases rx;obtain ⟨u1,u2,rfl,ru1,ru2⟩:=rv.two;cases ru1;obtain ⟨z,hd,xs,rel,dd⟩:=Gu I.hok ha;have hz:xs.length<=sizeLine:=by rw [<- Paired.length rel];exact z
 have rv2:=rel.val k;refine SM.qq (tupleKind_room_in1 (by omega)) (lM I.hok hb) hd dd hz (fun p hp=>?_) fun hn h' dd' hs=>?_
 ·rw [hp] at rv2;cases e:bL kvs k with
  | none=>rw [e] at rv2;exact absurd rv2.eZ (by simp)
  | some u =>
   rw [e] at rv2 q;obtain ⟨w',hw,rw'⟩:=jb.some_of (v:=u) (o:=some p.2) rv2;cases hw;exact ⟨u,H,I.tok _,rw',q⟩
 ·rw [hn] at rv2;cases e:bL kvs k with
  | some u=>rw [e] at rv2;exact absurd rv2.eZ (by simp)
  | none =>
   rw [e] at q;have ep:putK kvs k y=kvs++[(k,y)]:=by
    unfold putK;rw [if_neg];rw [pP,e];decide
   have rp:=rel.put k hb ru2;rw [ep] at rp;obtain ⟨qo,es,ep',hq,h2,h3,h4,_,h5⟩:=dd';refine ⟨y,_,oG I (ob:=.dT (kvs++[(k,y)])) (by rw [ha];exact True.intro) hs ⟨qo,hq⟩ ⟨by rw [OR];exact hl,hd,_,rp.keeps fun c ys ec=>?_,qo,es,ep',hq,h2,h3,h4,h5⟩,ru2,q⟩
   rw [ai (zO ec ha (fun z=>nomatch z))]
   exact ec
end
end L2
namespace SM
open PySem
def vj (h:Heap)(d:Addr)(es:Array DictEntry) (ep:Nat):Prop:=∃ o,h.get? d=some o/\o.ExactDict/\o.data=.dict es ep
section
variable {prog:Program}{w:World}{A:Around}{E:Value->Shared->Prop}{s:Shared}{es:Array DictEntry}{ep:Nat}{v d it:Addr}{i:Nat}
def vj.ty (h:vj s.heap d es ep):s.TypeIs (.ref d) "dict":=by
 obtain ⟨o,ho,hc,_⟩:=h;exact ⟨o,ho,hc.1⟩
def Ia {Q:Value->Shared->Prop}(hd:(d == sysModules)=false)(hm:vj s.heap d es ep)(q:Q (.ref s.heap.objs.size) { s with heap:=s.heap.push { cls:=.type "dict_values",data:=.fields #[.ref d] } }) :
  wpAny (model prog w) A (call (.builtin "dict.values") [.ref d]) Q E s:=by
 refine wpAny_call_entry F.slot_dict_values hm.ty F.entry_dict_values (?_:_) (F.args_dict_values_1 _)
 unfold Builtin.«dict.values»;refine N8 (?_:_)
 unfold Builtin.Dict.noArgs;refine N8 (wpAny_notOrdered_dict hm.ty (?_:_))
 refine id (?_:wpAny _ _ (pure d) _ _ s);refine O0 (?_:_)
 refine id (?_:wpAny _ _ (Builtin.Dict.showsAll d >>= _) _ _ s);unfold Builtin.Dict.showsAll;rw [if_neg (by rw [hd];exact ON)]
 refine N8 (O0 (?_:_))
 exact N8 (wpAny_newObj_type (O0 ⟨_,rfl,q⟩))
def CN {Q:Value->Shared->Prop}(hv:s.heap.IsValuesView v d)(hm:vj s.heap d es ep)
  (q:Q (.ref s.heap.objs.size) { s with heap:=s.heap.push { cls:=.type "dict_valueiterator",data:=.fields #[.ref d,.int 0 0,.int es.size 0,.int ep 0] } }):wpAny (model prog w) A (pyIter (.ref v)) Q E s:=by
 obtain ⟨ov,v1,v2,v3⟩:=id hv;obtain ⟨o,m1,m2,m3⟩:=id hm;refine wpAny_pyIter_slot hv.typeIs F.slot_dict_values_iter (wpAny_call_entry F.slot_dict_values_iter hv.typeIs F.entry_dict_values_iter (?_:_) (F.args_dict_values_iter_1 _))
 unfold Builtin.«dict_values.__iter__»;refine N8 (O0 (?_:_))
 refine N8 (?_:_)
 unfold Builtin.Dict_items.dictOf;refine N8 (wpAny_field v1 v3 (x:=.ref d) rfl (O0 (?_:_)))
 refine N8 (?_:_)
 unfold Builtin.Dict_items.newIterator;refine N8 (wpAny_dictEntries m1 m3 (?_:_))
 refine N8 (wpAny_dictEpoch m1 m3 (?_:_))
 have own0:Builtin.Dict_items.ownsTuple "dict_valueiterator"=false:=by decide
 simp only [own0,Bool.false_eq_true,if_false];refine wpAny_newObj_type (O0 ⟨_,rfl,"dict_valueiterator",_,⟨_,Of _ rfl,rfl⟩,F.slot_dict_valueiterator_next.lookup,(?_:_)⟩)
 simpa [rawInt] using q
def DO {e:DictEntry}{Q:Option Value->Shared->Prop}(ht:s.heap.IsValIter it d i es.size ep)(hm:vj s.heap d es ep)(hx:es[i]?=some e)
  (q:∀ h',h'.IsValIter it d (i + 1) es.size ep->Heap.SameBut it s.heap h'->Q (some e.val) { s with heap:=h' }):wpAny (model prog w) A (pyNext (.ref it)) Q E s:=by
 obtain ⟨o,t1,t2,t3⟩:=id ht;obtain ⟨od,m1,m2,m3⟩:=id hm;unfold pyNext;refine N8 (wpAny_attempt (wpAny_callSpecial?_slot (name:=Str.ofString "__next__") ht.typeIs F.slot_dict_valueiterator_next
  (wpAny_call_entry F.slot_dict_valueiterator_next ht.typeIs F.entry_dict_valueiterator_next (?_:_) (F.args_dict_valueiterator_next_1 _))))
 refine N8 (O0 (?_:_))
 refine N8 (?_:_)
 refine N8 (?_:_)
 first | refine N8 (wpAny_typeNameOfWhole_valiter ht.typeIs (O0 (?_:_))) | refine N8 (wpAny_typeNameOf_valiter ht.typeIs (O0 (?_:_)))
 refine N8 (wpAny_fieldsOf t1 t3 (?_:_))
 have own0:Builtin.Dict_items.ownsTuple "dict_valueiterator"=false:=by decide
 simp only [own0,Bool.false_eq_true,if_false];refine id (?_:wpAny _ _ (if (Value.ref d == Value.none)=true then _ else _) _ _ s)
 have nn:¬ ((Value.ref d == Value.none)=true):=fun z=>ON z
 rw [if_neg nn];refine N8 (O0 (?_:_))
 refine N8 (wpAny_dictEntries m1 m3 (?_:_))
 rw [if_neg (by simp)]
 refine N8 (O0 (?_:_))
 refine N8 (wpAny_dictEpoch m1 m3 (?_:_))
 rw [if_neg (by simp)]
 refine O0 (?_:_)
 have lt:i < es.size:=(Array.getElem?_eq_some_iff.mp hx).1;have ev:es[i]=e:=(Array.getElem?_eq_some_iff.mp hx).2;simp only [show ¬ ((i:Int) < 0) from Int.not_lt.mpr (Int.natCast_nonneg i),if_false,Int.toNat_natCast,Array.getElem?_eq_getElem lt]
 refine N8 (?_:_)
 first | refine N8 (wpAny_typeNameOfWhole_valiter ht.typeIs (O0 (?_:_))) | refine N8 (wpAny_typeNameOf_valiter ht.typeIs (O0 (?_:_)))
 refine N8 (wpAny_isOneOf_valiter ht.typeIs (?_:_))
 refine id (?_:wpAny _ _ (setField (.ref it) 1 (rawInt ((i:Int) + 1)) >>= _) _ _ s);refine N8 (wpAny_setField t1 t3 (by simp) (?_:_))
 have ht':(s.heap.update it (Obj.mapFields (·.setIfInBounds 1 (rawInt ((i:Int) + 1))))).IsValIter it d (i + 1) es.size ep :=
  ⟨_,Heap.get?_update_self _ t1 (Obj.isFreed_of_fields (Obj.data_mapFields t3 _)),(Obj.cls_mapFields ..).trans t2,by rw [Obj.data_mapFields t3];simp [rawInt]⟩
 generalize hU:s.heap.update it (Obj.mapFields (·.setIfInBounds 1 (rawInt ((i:Int) + 1))))=U at ht' ⊢;refine N8 (wpAny_holding (?_:_))
 refine N8 (wpAny_isOneOf_valiter (s:={ s with heap:=U }) ht'.typeIs (?_:_))
 refine N8 (wpAny_isOneOf_valiter (s:={ s with heap:=U }) ht'.typeIs (?_:_))
 refine id (?_:wpAny _ _ (pure es[i].val) _ _ _);refine O0 (O0 ⟨_,rfl,O0 (?_:_)⟩)
 rw [ev];exact q U ht' (hU ▸ Heap.SameBut.update ..)
def yd {Q:Option Value->Shared->Prop}(hh:A.handled=none)(ht:s.heap.IsValIter it d i es.size ep)(hm:vj s.heap d es ep)(hx:es.size<=i)
  (q:∀ h',Heap.ExtBut it s.heap h'->Q none { s with heap:=h' }):wpAny (model prog w) A (pyNext (.ref it)) Q E s:=by
 obtain ⟨o,t1,t2,t3⟩:=id ht;obtain ⟨od,m1,m2,m3⟩:=id hm;unfold pyNext;refine N8 (wpAny_attempt (wpAny_callSpecial?_slot (name:=Str.ofString "__next__") ht.typeIs F.slot_dict_valueiterator_next
  (wpAny_call_entry F.slot_dict_valueiterator_next ht.typeIs F.entry_dict_valueiterator_next (?_:_) (F.args_dict_valueiterator_next_1 _))))
 refine N8 (O0 (?_:_))
 refine N8 (?_:_)
 refine N8 (?_:_)
 first | refine N8 (wpAny_typeNameOfWhole_valiter ht.typeIs (O0 (?_:_))) | refine N8 (wpAny_typeNameOf_valiter ht.typeIs (O0 (?_:_)))
 refine N8 (wpAny_fieldsOf t1 t3 (?_:_))
 have own0:Builtin.Dict_items.ownsTuple "dict_valueiterator"=false:=by decide
 simp only [own0,Bool.false_eq_true,if_false];refine id (?_:wpAny _ _ (if (Value.ref d == Value.none)=true then _ else _) _ _ s)
 have nn:¬ ((Value.ref d == Value.none)=true):=fun z=>ON z
 rw [if_neg nn];refine N8 (O0 (?_:_))
 refine N8 (wpAny_dictEntries m1 m3 (?_:_))
 rw [if_neg (by simp)]
 refine N8 (O0 (?_:_))
 refine N8 (wpAny_dictEpoch m1 m3 (?_:_))
 rw [if_neg (by simp)]
 refine O0 (?_:_)
 simp only [show ¬ ((i:Int) < 0) from Int.not_lt.mpr (Int.natCast_nonneg i),if_false,Int.toNat_natCast,Array.getElem?_eq_none hx]
 refine N8 (?_:_)
 first | refine N8 (wpAny_typeNameOfWhole_valiter ht.typeIs (O0 (?_:_))) | refine N8 (wpAny_typeNameOf_valiter ht.typeIs (O0 (?_:_)))
 refine id (?_:wpAny _ _ (setField (.ref it) 0 .none >>= _) _ _ s);refine N8 (wpAny_setField t1 t3 (by simp) (?_:_))
 refine id (?_:wpAny _ _ (newExc (.type "StopIteration") [] >>= _) _ _ _);refine N8 (?_:_)
 simp only [newTuple,newExc];refine N8 (wpAny_newObj_type (?_:_) (by size_fits))
 refine N8 (m:=firstArgMember _ _) (wpAny_of_eq (a:=Value.none) (by first | rfl | (simp only [firstArgMember];rfl)) (?_:_))
 refine wpAny_newObj_type (?_:_) (by size_fits)
 simp only [raiseNew];refine N8 (wpAny_handled (?_:_))
 rw [show A.in1.handled=none from hh]
 refine N8 (O0 (wpAny_throw (?_:_)))
 refine N8 (wpAny_isInstance (T:="StopIteration") (b:=true) ⟨_,Of _ rfl,rfl⟩ isSubtype_stop (?_:_))
 exact O0 (q _ (((Heap.SameBut.update ..).extBut.push _).push _))
end
end SM
namespace L2
open PySem PySem.Spec PyProof.Rows
def Jz (a:Addr)(o:Obj):It :=
 ⟨fun i H=>∃ kvs x,H a=some (.bY o (.dT kvs))/\kvs[i]?=some x,fun i H x H'=>H'=H/\∀ kvs,H a=some (.bY o (.dT kvs))->(kvs[i]?).map (·.2)=some x,fun i H=>∃ kvs,H a=some (.bY o (.dT kvs))/\kvs.length<=i⟩
theorem tW {α β:Type}{F:α->β->Prop}:∀ {l:List α}{m:List β},Paired F l m->∀ {i:Nat}{x:α},l[i]?=some x->∃ y,m[i]?=some y/\F x y
 | _,_,.nil,_,_,h=>nomatch h
 | _,_,.cons r _,0,_,h=>by
  cases h;exact ⟨_,rfl,r⟩
 | _,_,.cons _ t,i + 1,_,h=>tW t (i:=i) h
section
variable {X:Cx}{pins:List (Addr×Obj)}{σ:St}{H:Hp}{s:Shared}
def Cf (I:Inv X pins σ H s){a:Addr}{o:Obj}{kvs:List (List Key×V)}(h:H a=some (.bY o (.dT kvs))):∃ es ep,o.data=.dict es ep/\SM.vj s.heap a es ep/\es.size=kvs.length/\∀ (i:Nat)(x:List Key×V),kvs[i]?=some x->∃ e:DictEntry,es[i]?=some e/\RelV x.2 e.val:=by
 obtain ⟨ho,_,_,xs,rel,o2,es,ep,h1,h2,h3,h4,_⟩:=(show bf X.prog X.w H s.heap a (.bY o (.dT kvs)) from I.hok a _ h)
 have e:o2=o:=by
  rw [ho] at h1;exact (Option.some.inj h1).symm
 subst e;refine ⟨es,ep,h3,⟨o2,ho,h2,h3⟩,?_,fun i x hx=>?_⟩
 ·have:=congrArg List.length h4;rw [Array.length_toList,O7] at this;rw [this,Paired.length rel]
 ·obtain ⟨y,hy,r⟩:=tW rel hx;have:es.toList[i]?=some (entryOfKey (tupleKind (b8 X.prog X.w)) y):=by rw [h4,OG,hy];rfl
  rw [OZ] at this;exact ⟨_,this,r.2.2⟩
end
def BO {P:Program}{w:World}{K:PySem.W.Frag}{tg:Expr}(a it:Addr)(o:Obj){es:Array DictEntry}{ep:Nat}(ho:o.data=.dict es ep):Turn P w K tg (Jz a o) [it] it (fun i h=>h.IsValIter it a i es.size ep) where
 mem:=by simp
 obj:=fun i h st b hb=>by
  have e:b=it:=by simpa using hb
  subst e;obtain ⟨o,e,c,d⟩:=st;exact ⟨o,e,fun v z=>by rw [d] at z;cases z⟩
 keep:=fun i h h' st k=>by
  obtain ⟨o,e,r⟩:=st;exact ⟨o,k it (by simp) o e,r⟩
 item:=by
  intro X hP hw hK hc i pins s σ H E I hf st hg;subst hP hw hK;obtain ⟨kvs,x,hq,hx⟩:=hg;obtain ⟨es2,ep2,d2,ea,sz,val⟩:=Cf I hq;rw [ho] at d2;cases d2;obtain ⟨e,he,re⟩:=val i x hx;obtain ⟨f0,f1,f2,f3,f4,f5⟩:=hf it (by simp)
  refine SM.DO st ea he fun h' st' sb=>?_
  have I1:Inv X pins σ H { s with heap:=h' }:=I.turned (t':=s.toks) (fun b o hb e=>(sb.2 b hb).trans e) f0 f1 f3 f4 f5
  obtain ⟨o,e,c,d⟩:=id st';refine ⟨_,rfl,uo (s:={ s with heap:=h' }) e c d (by decide) ⟨x.2,H,I1,re,⟨rfl,fun kvs2 h2=>?_⟩,st',fun b hb=>(hf b hb).1⟩⟩
  rw [hq] at h2;cases h2;rw [hx];rfl
 done:=by
  intro X hP hw hK hc i pins s σ H E I hf st hg;subst hP hw hK;obtain ⟨kvs,hq,hx⟩:=hg;obtain ⟨es2,ep2,d2,ea,sz,val⟩:=Cf I hq;rw [ho] at d2;cases d2;obtain ⟨f0,f1,f2,f3,f4,f5⟩:=hf it (by simp)
  exact SM.yd (I.ok.hd hc) st ea (by omega) fun h' eb=>⟨rfl,I.turned (t':=s.toks) (fun b o hb e=>eb b o hb e) f0 f1 f3 f4 f5⟩
 self:=fun _ _ _ _ _ st h=>wpAny_pyIter_valiter st h
inductive BP (R:(It->Hp->Prop)) (x:V)(H1:Hp):Prop
 | mk:∀ a kvs,(x=.ref a)->(H1 a=some (.dT kvs))->(∀ o,R (Jz a o) (upd H1 a (.bY o (.dT kvs))))->BP R x H1
def Mu (tl:TE):TI:=fun σ H R=>tl σ H fun x H1=>BP R x H1
section
variable {X:Cx}{tg:Expr}
def Ho {l:Expr}{tl:TE}{apos cpos:Pos}(hl:PE X l tl)(hbase:attributeBase l "values" X.env (eval l X.env)=eval l X.env:=by rfl)(hline:(apos.endLine == cpos.line)=true:=by rfl):PI X tg (.Call (.Attribute l "values" apos) [] [] cpos) (Mu tl):=by
 intro pins s σ H R I h;refine wpAny_Call_method0_late hbase hline (aF (hl pins s σ H _ I h) fun v s1 ⟨x,H1,I1,r1,q1⟩=>?_)
 obtain ⟨a,kvs,e,ha,q⟩:=q1;subst e;cases r1;obtain ⟨z,hd,xs,rel,o,es,ep,h1,h2,h3,h4,h5⟩:=(show bf X.prog X.w H1 s1.heap a (.dT kvs) from I1.hok a _ ha)
 have If:Inv X pins σ (upd H1 a (.bY o (.dT kvs))) s1:=by
  have:=I1.write (x:=a) (e:=a) (o:=.bY o (.dT kvs)) (h':=s1.heap) (t':=s1.toks) (by rw [ha];trivial) (.inl rfl) (fun _ _ _ e=>e) ⟨o,h1⟩ ⟨h1,z,hd,xs,Paired.Ad rel fun p q r=>⟨r.1,by rw [ai (zO r.2.1 ha (fun z=>nomatch z))];exact r.2.1,r.2.2⟩,o,es,ep,h1,h2,h3,h4,h5⟩
  exact this
 refine ⟨"dict","dict.values",F.plainAttrs_dict,F.slot_dict_values,F.type_dict_values,⟨o,h1,h2.1⟩,fun b e=>?_,Calls.callWith_builtin rfl (PySem.evalArgs_none (SM.Ia hd ⟨o,h1,h2,h3⟩ ?_))⟩
 ·cases e;exact ⟨o,h1,h2.2.1⟩
 have hv:(s1.heap.push { cls:=.type "dict_values",data:=.fields #[.ref a] }).IsValuesView s1.heap.objs.size a:=⟨_,Of _ rfl,rfl,rfl⟩;have I2:Inv X pins σ (upd H1 a (.bY o (.dT kvs))) { s1 with heap:=s1.heap.push { cls:=.type "dict_values",data:=.fields #[.ref a] } }:=If.kept (t':=s1.toks) fun b o e=>OF _ e
 refine SM.CN (s:={ s1 with heap:=s1.heap.push { cls:=.type "dict_values",data:=.fields #[.ref a] } }) hv ⟨o,OF _ h1,h2,h3⟩ ?_
 generalize s1.heap.push { cls:=.type "dict_values",data:=.fields #[.ref a] }=hp at hv I2 ⊢;refine ⟨hp.objs.size,[hp.objs.size],_,_,_,rfl,I2.kept (t':=s1.toks) fun b o e=>OF _ e,BO a _ o h3,⟨_,Of _ rfl,rfl,rfl⟩,fun b hb=>?_,q o⟩
 have e:b=hp.objs.size:=by simpa using hb
 subst e;exact I2.nL (O5 _) (I2.hok.fresh (O5 _))
end
end L2
namespace Dv
open PySem L2 PySem.W
def Af:DE:=fun _ E Q=>Q E (.st false) (.dict [(.none,.none)])
noncomputable def iX:List (PyData×PyData)->PyData->PyData->List (PyData×PyData)
 | [],k,d=>[(k,.list [d])]
 | (k',v)::r,k,d=>if k'=k then (k',match v with | .list es=>.list (es++[d]) | v=>v)::r else (k',v)::iX r k d
def JD:PyData->Nat
 | .list es=>es.length
 | _=>0
noncomputable def EY (i jc n:Nat):DE:=fun _ E Q=>∃ kvs kc ks k d E2,E[i]?=some (some (.st false,.dict ((.none,.none)::kvs)))/\E[jc]?=some (some (kc,.list ks))/\kc.rd=true/\ks.all jk=true/\E[n]?=some (some (k,d))/\i≠n/\cg E n=some E2/\kvs.length < sizeLine/\(kvs.all fun kv=>decide (JD kv.2 < sizeLine))=true/\Q (E2.set i (some (.st false,.dict ((.none,.none)::iX kvs (.tuple ks) d)))) .sh .none
def Dz (i:Nat):DI:=fun _ E Q=>∃ kvs,E[i]?=some (some (.st false,.dict ((.none,.none)::kvs)))/\Q (E.set i none) (kvs.map (·.2))
section
variable {K:Frag}{H H' Hm Hm':Hp}
theorem iT.len:∀ {xs:List (List Key×V)}{ds:List (PyData×PyData)}{fp:List Addr},iT K H Hm xs ds fp->xs.length=ds.length
 | _,_,_,.nil=>rfl
 | _,_,_,.own _ _ _ t=>congrArg (· + 1) t.len
def BV {k k':List Key}(h:PyData.tuple (k.map aO)=.tuple (k'.map aO)):k=k':=by
 replace h:=PyData.tuple.inj h
 induction k generalizing k' with
 | nil=>cases k' with | nil=>rfl | cons _ _=>cases h
 | cons a k ih =>
  cases k' with
  | nil=>cases h
  | cons b k' =>
   rw [OM,OM,List.cons.injEq] at h;rw [ih h.2];have h1:=h.1;cases a <;> cases b <;> first | (cases h1;rfl) | cases h1
theorem iT.find (k:List Key):∀ {xs:List (List Key×V)}{ds:List (PyData×PyData)}{fp:List Addr},iT K H Hm xs ds fp ->
  (bL xs k=none/\∀ (H':Hp) d e x,H' e=some (.lst [x])->Rp K Hm x d->(∀ a∈fp,H' a=H a)->e∉fp->iT K H' Hm (xs++[(k,.ref e)]) (iX ds (.tuple (k.map aO)) d) (fp++[e])) \/
  ∃ b ys,bL xs k=some (.ref b)/\b∈fp/\H b=some (.lst ys)/\(∃ kv∈ds,ys.length=JD kv.2)/\∀ (H':Hp) x d,Rp K Hm x d->H' b=some (.lst (ys++[x]))->(∀ a∈fp,a≠b->H' a=H a)->iT K H' Hm xs (iX ds (.tuple (k.map aO)) d) fp
 | _,_,_,.nil=>.inl ⟨rfl,fun _ d e x he r _ n=>.own he (.cons r .nil) OW .nil⟩
 | _,_,_,.own (k:=k') (b:=b) (ys:=ys) (es:=es) (kvs:=kvs) (ds:=ds) (fp:=fp) hb r nb t=>by
  by_cases c:k'=k
  ·subst c;refine .inr ⟨b,ys,?_,N9,hb,⟨_,N9,r.len⟩,fun H' x d rx h1 h2=>?_⟩
   ·unfold bL;rw [List.find?_cons_of_pos (by simp)]
    rfl
   ·unfold iX;rw [if_pos rfl];exact .own h1 (r.snoc rx) nb (t.step (af.refl _) fun a ha=>h2 a (O6 _ ha) fun z=>nb (z ▸ ha))
  ·have ne:PyData.tuple (k'.map aO)≠.tuple (k.map aO):=fun z=>c (BV z)
   have ev:bL ((k',V.ref b)::kvs) k=bL kvs k:=by
    unfold bL;rw [List.find?_cons_of_neg (by simpa using c)]
   rcases t.find k with ⟨e1,h⟩ | ⟨b',ys',e1,m1,e2,⟨kv,m2,e3⟩,h⟩
   ·refine .inl ⟨ev.trans e1,fun H' d e x h1 rx h2 n=>?_⟩
    unfold iX;rw [if_neg ne];refine .own ((h2 _ N9).trans hb) r (fun z=>?_) (h H' d e x h1 rx (fun a ha=>h2 a (O6 _ ha)) fun z=>n (O6 _ z))
    rcases OT.mp z with z | z
    ·exact nb z
    ·exact n (O8.mp z ▸ N9)
   ·refine .inr ⟨b',ys',ev.trans e1,O6 _ m1,e2,⟨kv,O6 _ m2,e3⟩,fun H' x d rx h1 h2=>?_⟩
    have nbb:b≠b':=fun z=>nb (z ▸ m1)
    unfold iX;rw [if_neg ne];exact .own ((h2 b N9 nbb).trans hb) r nb (h H' x d rx h1 fun a ha hn=>h2 a (O6 _ ha) hn)
theorem iT.vals (s:af Hm Hm'):∀ {xs:List (List Key×V)}{ds:List (PyData×PyData)}{fp:List Addr},iT K H Hm xs ds fp->(∀ a∈fp,Hm' a=H a)->au K Hm' (xs.map (·.2)) (ds.map (·.2))
 | _,_,_,.nil,_=>.nil
 | _,_,_,.own e r _ t,h=>.cons (.lst (.inl (.inl ((h _ N9).trans e))) (r.mono s)) (t.vals s fun a ha=>h a (O6 _ ha))
end
section
variable {X:Cx}{Ex:XK}{π:List Nat}{pos:Pos}{tg:Expr}
def MF:SE X Ex π (.Dict [] [] pos) Af:=by
 intro g x E σ H Hm F P Q hx R p q;refine WE.of Ff fun a ha=>?_
 have s2:=bA (o:=.dT []) ha;have R2:=R.grow (H':=upd H a (.dT [])) s2 (af.refl _) (R.sub.trans s2) (fun i b hb=>R.off i b hb) fun _ _=>.inl rfl
 refine q _ _ _ _ _ Hm F [a] p R2 (af.refl _) ⟨.st aq OW .nil,fun b hb=>?_,fun b hb i=>?_,fun b hb=>?_⟩
 ·rw [O8.mp hb];exact R.jK ha
 ·rw [O8.mp hb];exact R.fresh ha
 ·rw [O8.mp hb];exact R.dW ha
def set_same {σ:St}{i:Nat}{v:V}(h:σ[i]?=some (some v)):σ.set i (some v)=σ:=by
 refine List.ext_getElem? fun j=>?_
 rw [List.getElem?_set]
 by_cases c:i=j
 ·subst c;rw [if_pos rfl,h,if_pos (bJ h)]
 ·rw [if_neg c]
def JB {x c y:Str}{p cp yp tp lp ap1 cpos1 cpos2 ap2 cpos3:Pos}{i j jc jj n jn:Nat}(hu:X.A.units + 64 < cLine)(hg:Gl X "tuple")(hm:X.mg "tuple"=none)(hv:PE X (.Name x p) (gh j))(hj:π[j]?=some i)(hc:PE X (.Name c cp) (gh jj))(hjc:π[jj]?=some jc)
  (hy:PE X (.Name y yp) (gh jn))(hjn:π[jn]?=some n)(l1:(ap1.endLine == cpos2.line)=true)(l2:(ap2.endLine == cpos3.line)=true) :
  SE X Ex π (.Call (.Attribute (.Call (.Attribute (.Name x p) "setdefault" ap1) [.Call (.Name "tuple" tp) [.Name c cp] [] cpos1,.List [] lp] [] cpos2) "append" ap2) [.Name y yp] [] cpos3) (EY i jc n):=by
 intro g xc E σ H Hm F P Q hx R h q;obtain ⟨kvd,kc,ks,k0,d,E2,e1,ec,hkc,hks,en,ne,hf,hl,hl2,pq⟩:=h;obtain ⟨vn,Hm2,F2,hvn,s2,R2,rn⟩:=R.cg en hf;have e2:E2[i]?=some (some (.st false,.dict ((.none,.none)::kvd))):=(w9 hf ne).trans e1;obtain ⟨v,F3,hv3,R3,T3⟩:=R2.move e2 rfl;obtain ⟨vc,hvc,oc⟩:=R.slot jc _ _ ec;have rc:Rp X.K H vc (.list ks):=oc.rp hkc R.sub fun _ _=>rfl
 obtain ⟨k,rfl⟩:=iR hks;generalize hfi:F2 i=fi at T3;obtain ⟨own,toff,tdis,tnew⟩:=T3;have li:=bJ e2;have op:bP (E2.set i none) i=true:=by
  unfold bP;rw [ay li]
 cases own with
 | @st _ a kvs _ fp ha na tis =>
 cases rc with
 | @lst ca xs _ hca rxs =>
 have exs:=p8 rxs;subst exs;refine WE.of (rG PySem.F.plainAttrs_list PySem.F.slot_list_append PySem.F.type_list_append dX (rG PySem.F.plainAttrs_dict PySem.F.slot_dict_setdefault PySem.F.type_dict_setdefault (HX (by omega)) hv (cJ (iN mQ hg hm PyProof.Rows.boot_tuple (cJ hc eS)) (cJ (Br eS) eS)) rfl rfl l1 rfl rfl) (cJ hy eS) rfl rfl l2 rfl rfl) ?_
 refine ⟨_,cI hj hv3,.inr (.inr (.inl ⟨rfl,.inr ⟨_,ha⟩⟩)),_,cI hjc hvc,ca,_,rfl,.inl ⟨hca.sq,fun tp htp=>⟨Nat.zero_le _,fun e he=>?_⟩⟩⟩
 have tt:=bA (o:=.tup (k.map kV)) htp;have te:=bA (o:=.lst []) he;have st:=tt.trans te;have etp:upd (upd H tp (.tup (k.map kV))) e (.lst []) tp=some (.tup (k.map kV)):=te _ _ aq;have ee:upd (upd H tp (.tup (k.map kV))) e (.lst []) e=some (.lst []):=aq;have ne0:H e=none:=by
  cases z:H e with
  | none=>rfl
  | some o=>rw [tt _ _ z] at he;cases he
 generalize upd (upd H tp (.tup (k.map kV))) e (.lst [])=H2 at st etp ee;have R4:=R3.grow st (af.refl _) (R3.sub.trans st) R3.off fun _ _=>.inl rfl
 have ha2:=st _ _ ha;have lv:∀ b∈fp,H2 b=H b:=fun b hb=>by
  obtain ⟨ys,h⟩:=tis.live b hb;rw [h];exact st _ _ h
 have tis2:=tis.step (H':=H2) (af.refl Hm2) lv;have nae:a≠e:=fun z=>by rw [z,ne0] at ha;cases ha
 have nfe:e∉fp:=fun z=>by
  obtain ⟨ys,h⟩:=tis.live e z;rw [ne0] at h;cases h
 refine ⟨a,tp,kvs,k,.ref e,rfl,rfl,ha2,etp,by rw [tis.len];exact hl,?_⟩
 rcases tis2.find k with ⟨ev,h⟩ | ⟨b,ys,ev,mb,hb,⟨kv,mk,lk⟩,h⟩
 ·rw [ev];have ee3:upd H2 a (.dT (kvs++[(k,.ref e)])) e=some (.lst []):=by rw [ai nae.symm];exact ee
  refine ⟨.inl ⟨rfl,_,bI.of ee3⟩,_,cI hjn hvn,e,[],vn,rfl,rfl,ee3,by show 0 < sizeLine;decide,?_⟩
  have A1:iO g F3 H2 Hm2 [a]:=⟨fun b hb=>by rw [O8.mp hb];exact ⟨_,ha2,pB⟩,fun b hb=>by rw [O8.mp hb];exact toff a N9,fun b hb i=>by rw [O8.mp hb];exact tdis a N9 i,fun b hb=>by rw [O8.mp hb];exact tnew a N9⟩
  have R5:=R4.qD (o:=.dT (kvs++[(k,.ref e)])) A1;have A2:iO g F3 (upd H2 a (.dT (kvs++[(k,.ref e)]))) Hm2 [e]:=⟨fun b hb=>by rw [O8.mp hb];exact ⟨_,ee3,jY⟩,fun b hb=>by rw [O8.mp hb];exact R3.jK ne0,fun b hb i=>by rw [O8.mp hb];exact R3.fresh ne0,fun b hb=>by rw [O8.mp hb];exact R3.dW ne0⟩
  have R6:=R5.qD (o:=.lst [vn]) A2;have T6:Tm X.K g F3 (upd (upd H2 a (.dT (kvs++[(k,.ref e)]))) e (.lst [vn])) Hm2 (.st false) (.ref a) (.dict ((.none,.none)::iX kvd (.tuple (k.map aO)) d)) (a::(fp++[e])):=by
   refine ⟨.st (by rw [ai nae,aq]) (fun z=>?_) (h _ d e vn aq rn (fun b hb=>?_) nfe),fun b hb=>?_,fun b hb i=>?_,fun b hb=>?_⟩
   ·rcases OT.mp z with z | z
    ·exact na z
    ·exact nae (O8.mp z)
   ·rw [ai (fun z:b=e=>nfe (z ▸ hb)),ai fun z:b=a=>na (z ▸ hb)]
   ·rcases O9.mp hb with rfl | hb
    ·exact toff _ N9
    ·rcases OT.mp hb with hb | hb
     ·exact toff _ (O6 _ hb)
     ·rw [O8.mp hb];exact R3.jK ne0
   ·rcases O9.mp hb with rfl | hb
    ·exact tdis _ N9 i
    ·rcases OT.mp hb with hb | hb
     ·exact tdis _ (O6 _ hb) i
     ·rw [O8.mp hb];exact R3.fresh ne0
   ·rcases O9.mp hb with rfl | hb
    ·exact tnew _ N9
    ·rcases OT.mp hb with hb | hb
     ·exact tnew _ (O6 _ hb)
     ·rw [O8.mp hb];exact R3.dW ne0
  have R7:=R6.put T6 op;rw [List.set_set,set_same hv3] at R7;exact q _ _ _ _ _ _ _ [] pq R7 s2 (Tm.sh .aY)
 ·rw [ev];have ly:ys.length < sizeLine:=by
   rw [lk];exact OS (OC.mp hl2 kv mk)
  refine ⟨.inl ⟨rfl,_,bI.of hb⟩,_,cI hjn hvn,b,ys,vn,rfl,rfl,hb,ly,?_⟩;have A1:iO g F3 H2 Hm2 [b]:=⟨fun c hc=>by rw [O8.mp hc];exact ⟨_,hb,jY⟩,fun c hc=>by rw [O8.mp hc];exact toff b (O6 _ mb),fun c hc i=>by rw [O8.mp hc];exact tdis b (O6 _ mb) i,fun c hc=>by rw [O8.mp hc];exact tnew b (O6 _ mb)⟩
  have R6:=R4.qD (o:=.lst (ys++[vn])) A1;have T6:Tm X.K g F3 (upd H2 b (.lst (ys++[vn]))) Hm2 (.st false) (.ref a) (.dict ((.none,.none)::iX kvd (.tuple (k.map aO)) d)) (a::fp):=
   ⟨.st (by rw [ai (fun z:a=b=>na (z ▸ mb))];exact ha2) na (h _ vn d rn aq fun c _ hc=>ai hc),toff,tdis,tnew⟩
  have R7:=R6.put T6 op;rw [List.set_set,set_same hv3] at R7;exact q _ _ _ _ _ _ _ [] pq R7 s2 (Tm.sh .aY)
def Nq (j jj jn:Nat){i jc n:Nat}{x c y:Str}{p cp yp tp lp ap1 cpos1 cpos2 ap2 cpos3:Pos}(hu:X.A.units + 64 < cLine)(hm:X.mg "tuple"=none)(hg:Gl X "tuple":=by rfl)(hN:X.N[j]?=some x:=by rfl)(hv:gZ X.env.scope x:=by first | exact Or.inl rfl | exact Or.inr (Or.inl rfl) | exact Or.inr (Or.inr rfl))(hj:π[j]?=some i:=by rfl)
  (hNc:X.N[jj]?=some c:=by rfl)(hvc:gZ X.env.scope c:=by first | exact Or.inl rfl | exact Or.inr (Or.inl rfl) | exact Or.inr (Or.inr rfl))(hjc:π[jj]?=some jc:=by rfl)(hNn:X.N[jn]?=some y:=by rfl)(hvn:gZ X.env.scope y:=by first | exact Or.inl rfl | exact Or.inr (Or.inl rfl) | exact Or.inr (Or.inr rfl))(hjn:π[jn]?=some n:=by rfl)
  (l1:(ap1.endLine == cpos2.line)=true:=by rfl)(l2:(ap2.endLine == cpos3.line)=true:=by rfl)(b1:(x == ("__debug__":Str))=false:=by decide)(b2:(x == ("__classdict__":Str))=false:=by decide)(b3:(c == ("__debug__":Str))=false:=by decide)(b4:(c == ("__classdict__":Str))=false:=by decide)(b5:(y == ("__debug__":Str))=false:=by decide)(b6:(y == ("__classdict__":Str))=false:=by decide) :
  SE X Ex π (.Call (.Attribute (.Call (.Attribute (.Name x p) "setdefault" ap1) [.Call (.Name "tuple" tp) [.Name c cp] [] cpos1,.List [] lp] [] cpos2) "append" ap2) [.Name y yp] [] cpos3) (EY i jc n):=JB hu hg hm (dG hN hv b1 b2) hj (dG hNc hvc b3 b4) hjc (dG hNn hvn b5 b6) hjn l1 l2
def D5 {a:Addr}{o:Obj}{K:Frag}{kvs:List (List Key×V)}{ds:List PyData}{cY:Hp}(h:cY a=some (.bY o (.dT kvs)))(r:au K cY (kvs.map (·.2)) ds):sI K (Jz a o) ds cY:=by
 intro i H Hm s1 s2;have q:H a=some (.bY o (.dT kvs)):=s2 _ _ (s1 _ _ h);have hlen:=r.len;rw [O7] at hlen;refine ⟨fun d e=>?_,fun l=>⟨kvs,q,by omega⟩⟩
 obtain ⟨v,e1,r1⟩:=r.get e;rw [OG] at e1;obtain ⟨kv,e2,rfl⟩:=Option.map_eq_some_iff.mp e1;refine ⟨⟨kvs,kv,q,e2⟩,fun x H' y=>?_⟩
 obtain ⟨rfl,y⟩:=y;have:=y kvs q;rw [e2] at this;cases this;exact ⟨Hm,af.refl _,s2,af.refl _,fun _ _=>.inl rfl,r1.mono s1⟩
def KL {x:Str}{p apos cpos:Pos}{i j:Nat}(hv:PE X (.Name x p) (gh j))(hj:π[j]?=some i)(hline:(apos.endLine == cpos.line)=true):SI X Ex π tg (.Call (.Attribute (.Name x p) "values" apos) [] [] cpos) (Dz i):=by
 refine ⟨_,Ho hv rfl hline,?_⟩;intro g xc E σ H Hm F P RR hx R h q;obtain ⟨kvd,e1,pq⟩:=h;obtain ⟨v,F3,hv3,R3,T3⟩:=R.move e1 rfl;generalize hfi:F i=fi at T3;obtain ⟨own,toff,tdis,tnew⟩:=T3;cases own with
 | @st _ a kvs _ fp ha na tis =>
 refine ⟨_,cI hj hv3,a,kvs,rfl,ha,fun o=>?_⟩
 have A1:iO g F3 H Hm [a]:=⟨fun b hb=>by rw [O8.mp hb];exact ⟨_,ha,pB⟩,fun b hb=>by rw [O8.mp hb];exact toff a N9,fun b hb i=>by rw [O8.mp hb];exact tdis a N9 i,fun b hb=>by rw [O8.mp hb];exact tnew a N9⟩
 have R5:=R3.qD (o:=.bY o (.dT kvs)) A1;have tis2:=tis.step (H':=upd H a (.bY o (.dT kvs))) (af.refl Hm) fun b hb=>ai fun z=>na (z ▸ hb)
 have ha5:upd H a (.bY o (.dT kvs)) a=some (.bY o (.dT kvs)):=aq;generalize upd H a (.bY o (.dT kvs))=H5 at R5 tis2 ha5 ⊢;have up:=gi (Hm:=Hm) (H:=H5) toff;have R6:=R5.more up (ir R5.sub) (fun j b hb=>by rw [cz fun z=>tdis b z j hb];exact R5.off j b hb) fun b hb=>.inl (cz fun z=>hb (tnew b z))
 exact q _ _ _ _ (lend Hm H5 (a::fp)) _ pq R6 up (D5 ((dD N9).trans ha5) (tis2.vals up fun b hb=>dD (O6 _ hb)))
def JX (j:Nat){i:Nat}{x:Str}{p apos cpos:Pos}(hN:X.N[j]?=some x:=by rfl)(hv:gZ X.env.scope x:=by first | exact Or.inl rfl | exact Or.inr (Or.inl rfl) | exact Or.inr (Or.inr rfl))(hj:π[j]?=some i:=by rfl)(hline:(apos.endLine == cpos.line)=true:=by rfl)(b1:(x == ("__debug__":Str))=false:=by decide)(b2:(x == ("__classdict__":Str))=false:=by decide) :
  SI X Ex π tg (.Call (.Attribute (.Name x p) "values" apos) [] [] cpos) (Dz i):=KL (dG hN hv b1 b2) hj hline
end
def Rec (K:Frag) (x:Str)(st:Stmt):Prop:=∃ (f:Addr)(fd:FuncData),nsIn K mainGlobals x=some (some (.ref f))/\cH K x x st f fd
def JU {K:Frag}{x:Str}{st:Stmt}{f:Addr}{oc:Value}{od an:Option Addr}{osl:Array (Option Value)}{kV doc pm cdv ct:Value}(n:nsIn K mainGlobals x=some (some (.ref f)))(l:K.lookup f=some ⟨oc,od,.func (fnOf x x (ju st) (gu st) (ao st) .none kV doc pm an cdv ct),osl⟩)
  (c:codeIn K cdv x=true)(k:keepIn K (.ref f)=true):Rec K x st:=⟨f,_,n,K9 l c k⟩
def zW (K:Frag) (x:Str):Prop:=∃ C,nsIn K mainGlobals x=some (some (.ref C))/\gU K C uz "ValueError.__new__" none=true
def GX {K:Frag}{x:Str}{C:Addr}(h1:nsIn K mainGlobals x=some (some (.ref C)))(h2:gU K C uz "ValueError.__new__" none=true):zW K x:=⟨C,h1,h2⟩
def bq {P:Program}{w:World}{K:Frag}{h base:Heap}{mg:Str->Option Value}{k:Nat}{x:Str}{ps:List Str}{sp:Sp}{st:Stmt}(X:K.In h)(G:h.Ns mainGlobals mg)(r:Rec K x st)
  (b:∀ (kV doc pm:Value)(an:Option Addr)(cdv ct:Value)(us:List Value),us.length=ps.length->bindArgs (fnOf x x (ju st) (gu st) (ao st) .none kV doc pm an cdv ct) ⟨us,[]⟩=pure (ps.zip us))
  (ok:∀ {f:Addr}{fd:FuncData},cH K x x st f fd->aX P w K mg base (bF P w) k f fd ps sp):bZ P w K mg base k x ps sp:=by
 obtain ⟨f,fd,n,F⟩:=r;exact ⟨f,fd,mg_of X G n,F.kp,F.binds b,ok F⟩
noncomputable def uY:DR:=fun ds P=>∃ kss:List (List Int),ds=[.list (kss.map fun ks=>.tuple (ks.map .int))]/\kss.length<=126/\∀ n:Nat,n<=kss.length->(n=kss.length↔kss.Nodup)->P .sh (.int n)
def zI {H H2:Hp}(s:af H H2){a:Addr}(h:H2 a=none):H a=none:=by
 cases e:H a with
 | none=>rfl
 | some o=>rw [s _ _ e] at h;cases h
def bu.up {K:Frag}{H H2 Hm:Hp}{P:Kd->PyData->Prop}{Q:VK}(q:bu K H Hm P Q)(s:af H H2):bu K H2 Hm P Q:=fun k v u H' Hm' fp pp s1 s2 s3 od o fr =>
 q k v u H' Hm' fp pp (s.trans s1) s2 s3 (fun a ha=>od a fun z=>ha (zI s z)) o fun a ha=>⟨zI s (fr a ha).1,(fr a ha).2⟩
def Kn (kss:List (List Int)):dn kss=kss.length↔kss.Nodup:=by
 have key:∀ (f:Nat->List Int) (n:Nat),(SM.met f n).length=n↔∀ i j,i < j->j < n->f i≠f j:=by
  intro f n
  induction n with
  | zero=>exact ⟨fun _ i j _ h=>by omega,fun _=>rfl⟩
  | succ n ih =>
   have hl:=SM.om f n;have hm:=SM.yT f (f n) n;rw [show SM.met f (n + 1)=if f n∈SM.met f n then SM.met f n else SM.met f n++[f n] from rfl]
   split
   ·rename_i c;refine ⟨fun h=>by omega,fun h=>?_⟩
    obtain ⟨j,hj,e⟩:=hm.mp c;exact absurd e (h j n hj (Nat.lt_succ_self n))
   ·rename_i c;rw [OR,List.length_singleton];constructor
    ·intro h i j l1 l2
     by_cases e:j=n
     ·subst e;exact fun z=>c (hm.mpr ⟨i,l1,z⟩)
     ·exact ih.mp (by omega) i j l1 (by omega)
    ·intro h;have:=ih.mpr fun i j l1 l2=>h i j l1 (by omega)
     omega
 unfold dn;rw [key,List.nodup_iff_pairwise_ne,List.pairwise_iff_getElem];constructor
 ·intro h i j hi hj l;have:=h i j l hj;rwa [List.getD_eq_getElem?_getD,List.getD_eq_getElem?_getD,OQ hi,OQ hj] at this
 ·intro h i j l hj;have:=h i j (by omega) hj l
  rw [List.getD_eq_getElem?_getD,List.getD_eq_getElem?_getD,OQ (show i < kss.length by omega),OQ hj]
  exact this
section
variable {X:Cx}{Ex:XK}{π:List Nat}{a:Expr}{as:List Arg}{p p2 pos pos2:Pos}
abbrev Gq (X:Cx):List V->Hp->VK->Prop:=fun xs H Q=>∃ a ys kss,xs=[.ref a]/\bI X.K H a ys/\uP X.K H ys kss/\kss.length<=126/\∀ p,H p=none->Q (.ref p) (upd H p (rO p (dn kss)))
abbrev FA:List V->Hp->VK->Prop:=fun xs H Q=>∃ a n,xs=[.ref a]/\H a=some (rO a n)/\n < 1000/\Q (.int n) H
def HS {K:Frag}{H H':Hp}(s:af H H'){vs:List V}{kss:List (List Int)}(r:au K H vs (kss.map fun ks=>.tuple (ks.map .int))):uP K H' vs kss:=by
 refine ⟨by rw [r.len,O7],fun i x ks h1 h2=>?_⟩
 obtain ⟨d,hd,rd⟩:=r.DA h1;rw [OG,h2] at hd;cases hd;cases rd with
 | tup e rs =>
  cases pY rs;exact ⟨_,rfl,bW.of (s _ _ e)⟩
def BY:cM X.K uY fun vs H Q=>Gq X vs H fun v H1=>FA [v] H1 Q:=by
 rintro H Hm vs ds P Q s r ⟨kss,rfl,hn,h⟩ q;obtain ⟨x,rfl,h1⟩:=c7 r;obtain ⟨a,xs,rfl,ha,r1⟩:=ie h1;have hl:dn kss<=kss.length:=SM.om _ _;refine ⟨a,xs,kss,rfl,(b9.mono s ha).sq,HS s r1,hn,fun p hp=>?_⟩
 have sH:=bA (o:=rO p (dn kss)) hp;exact ⟨p,dn kss,rfl,aq,by omega,bu.sc (bu.up q sH) (s.trans sH) (h (dn kss) hl (Kn kss)) (.int _)⟩
def Lf (hu:X.A.units + 64 < cLine)(hm:X.mg "len"=none)(hm2:X.mg "set"=none)(S:aL X Ex π [a] as)(hc:X.calm=true:=by rfl)(hg:Gl X "len":=by rfl)(hg2:Gl X "set":=by rfl)(ns:noStar a=true:=by rfl):SE X Ex π (.Call (.Name "len" p) [.Call (.Name "set" p2) [a] [] pos2] [] pos) (aa uY as) :=
 eL (r:=fun vs H Q=>Gq X vs H fun v H1=>FA [v] H1 Q) S (fun σ H Q h=>WE.of (mF Co hg hm PySem.boot_len (cJ (iN (Bh hc (by omega)) hg2 hm2 PyProof.Rows.boot_set (dF (es:=[a]) (by rw [OH,ns];rfl)) (by decide) (by decide) (aS ns) (fX rfl)) eS) (by decide) (by decide) rfl rfl) h) BY
end
end Dv
namespace L2
open PySem PySem.Spec PyProof.Rows PySem.W
section
variable {X:Cx}
theorem uK {h:Heap}:∀ {vs:List Value}{ds:List PyData}{as:List Addr},ReadsAll h vs ds as->∀ {i:Nat}{v:Value},vs[i]?=some v->∃ d bs,ds[i]?=some d/\Reads h v d bs
 | _,_,_,.nil,_,_,e=>nomatch e
 | _,_,_,.cons r _,0,_,e=>by
  cases e;exact ⟨_,_,rfl,r⟩
 | _,_,_,.cons _ t,i + 1,_,e=>uK t (i:=i) e
end
section
variable {X:Cx}
def Bm:cj X (.builtin "isinstance") (fun xs H Q=>∃ x t ty ys b,xs=[x,.ref t]/\((∃ i,x=.int i/\ty=.type "int")\/∃ a zs,x=.ref a/\H a=some (.tup zs)/\ty=.type "tuple")/\H t=some (.tup ys)/\(∀ us,Vals ys us->kitAny X.K ty us=some b)/\Q (.bl b) H):=by
 intro pins s σ H xs us Q I r h;obtain ⟨x,t,ty,ys,b,rfl,tx,ht,k,q⟩:=h;obtain ⟨u1,u2,rfl,ru1,ru2⟩:=r.two;cases ru2;obtain ⟨its,rv,p,_⟩:=I.tuple (.inl (.inl ht));obtain ⟨o,ho,hc,n,hd⟩:=p;obtain ⟨oc,od,odt,osl⟩:=o;dsimp only at hc hd;subst hc hd;rcases tx with ⟨i,rfl,rfl⟩ | ⟨a,zs,rfl,ea,rfl⟩
 ·obtain ⟨tk,rfl⟩:=ru1;exact kia_tup kitx_int I.fE True.intro ho (k _ rv) (fun z=>nomatch z) fun tk=>⟨.bl b,H,I.tok tk,rfl,q⟩
 ·cases ru1;obtain ⟨_,_,_,p⟩:=(show bf X.prog X.w H s.heap a (.tup zs) from I.hok a _ ea)
  obtain ⟨o,h1,h2,_⟩:=p;exact kia_tup kitx_tuple I.fE ⟨o,h1,h2⟩ ho (k _ rv) (fun z=>nomatch z) fun tk=>⟨.bl b,H,I.tok tk,rfl,q⟩
end
end L2
namespace Dv
open PySem L2 PySem.Spec PyProof.Rows PySem.W
def E8 (i n:Nat):DE:=fun _ E Q=>∃ (k:Kd)(ds:List PyData)(k':Kd)(d:PyData) (j:Nat),E[i]?=some (some (k,.list ds))/\k.rd=true/\E[n]?=some (some (k',d))/\k'.rd=true/\ds.all (dl 8)=true/\dl 8 d=true/\ds[j]?=some d/\(∀ (m:Nat) e,m < j->ds[m]?=some e->e≠d)/\Q E .sh (.int j)
inductive xh (K:Frag) (x:V)(vs:List V)(H:Hp)(Q:VK):Prop
 | mk:∀ (p:Addr) (y:V)(xs:List V)(ds:List PyData)(d:PyData) (j:Nat),(x=.ref p)->(vs=[y])->(b9 K H p xs)->(jV K H y d)->(mD K H xs ds)->(ds.all (dl 8)=true)->(dl 8 d=true)->(ds[j]?=some d)->((∀ (m:Nat) e,m < j->ds[m]?=some e->e≠d))->(Q (.int j) H)->xh K x vs H Q
def HZ (K:Frag):V->List V->Hp->VK->Prop:=fun x vs H Q=>xh K x vs H Q
section
variable {X:Cx}{Ex:XK}{π:List Nat}
theorem vq {K:Frag}{H:Hp}:∀ {xs:List V}{ds:List PyData},mD K H xs ds->xs.length=ds.length
 | _,_,.nil=>rfl
 | _,_,.cons _ r=>congrArg (· + 1) (vq r)
def BN (hu:X.A.units + 64 < cLine):qK X "list.index" (HZ X.K):=by
 intro pins s σ H x vs v us Q I rx rv h;obtain ⟨p,y,xs,ds,d,j,rfl,rfl,hH,hy,hx,la,ld,hj,hno,q⟩:=h;cases rx;obtain ⟨u,rfl,ru⟩:=rv.one;obtain ⟨hz,its,n,r,e⟩:=hH.get I;obtain ⟨as,ra⟩:=I.readsAll hx r;obtain ⟨bs,rb⟩:=I.reads hy ru;have l1:=vq hx;have l2:=r.length;have hlt:j < its.length:=by
  have:=(List.getElem?_eq_some_iff.mp hj).1;omega
 have line:sizeLine < 2 ^ 62:=by decide
 have val:∀ (m:Nat)(w:Value) e,its[m]?=some w->ds[m]?=some e->PyData.eqv (SeqAt.readOf s.heap w) d=decide (e=d):=fun m w e' h1 h2=>by
  obtain ⟨d',cs,h3,h4⟩:=uK ra h1;rw [h2] at h3;cases h3;have l3:=OC.mp la e' (OO h2);rw [SeqAt.readOf_eq (eB l3).1 h4,wI l3 ld]
 refine call_meets F.slot_list_index ⟨_,e,rfl⟩ F.entry_list_index (F.args_list_index_2 _ _) (SeqAt.list_indexAt p its.toArray n none #[] u (fun y=>PyData.eqv (SeqAt.readOf s.heap y) d) j (by simpa using hlt) (by omega) ?_ ?_) ⟨e,?_,⟨.int j,H,I.tok _,⟨_,rfl⟩,q⟩⟩
 ·show PyData.eqv (SeqAt.readOf s.heap its.toArray[j]) d=true;rw [val j _ d (by simp [hlt]) hj]
  exact decide_eq_true rfl
 ·intro m hm hmj;have hm':m < its.length:=by simpa using hm
  have hn:m < ds.length:=by omega
  show PyData.eqv (SeqAt.readOf s.heap its.toArray[m]) d=false;rw [val m _ ds[m] (by simp [hm']) (OQ hn)]
  exact decide_eq_false (hno m _ hmj (OQ hn))
 ·refine SeqAt.items_eqAt (xs:=ds) (by simpa using ra) rb (jv fun e he=>(eB (OC.mp la e he)).1) (eB ld).1 ?_
  have:=(eB ld).2;omega
def JV {x y:Str}{p yp apos cpos:Pos}{i j n jn:Nat}(hu:X.A.units + 64 < cLine)(hv:PE X (.Name x p) (gh j))(hj:π[j]?=some i)(hy:PE X (.Name y yp) (gh jn))(hjn:π[jn]?=some n)(hline:(apos.endLine == cpos.line)=true) :
  SE X Ex π (.Call (.Attribute (.Name x p) "index" apos) [.Name y yp] [] cpos) (E8 i n):=by
 intro g xc E σ H Hm F P Q hx R h q;obtain ⟨k,ds,k',d,m,e1,hk,e2,hk',la,ld,hm,hno,pq⟩:=h;obtain ⟨v,h1,o1⟩:=R.slot i _ _ e1;obtain ⟨u,h2,o2⟩:=R.slot n _ _ e2;obtain ⟨a,xs,rfl,ha,rx⟩:=ie (o1.rp (Hm':=H) hk R.sub fun _ _=>rfl)
 have ru:Rp X.K H u d:=o2.rp hk' R.sub fun _ _=>rfl
 refine WE.of (rG PySem.F.plainAttrs_list PySem.F.slot_list_index PySem.F.type_list_index (BN hu) hv (cJ hy eS) rfl rfl hline rfl rfl) ?_;refine ⟨_,cI hj h1,.inl ⟨rfl,_,ha.sq⟩,_,cI hjn h2,?_⟩;exact ⟨a,u,xs,ds,d,m,rfl,rfl,ha,ru.lF (iH ld),rx.lF (k7 fun d hd=>iH (OC.mp la d hd)),la,ld,hm,hno,q _ _ _ _ _ _ _ [] pq R (af.refl _) (Tm.sh (.int _))⟩
def xIdx (j jn:Nat){i n:Nat}{x y:Str}{p yp apos cpos:Pos}(hu:X.A.units + 64 < cLine)(hN:X.N[j]?=some x:=by rfl)(hv:gZ X.env.scope x:=by first | exact Or.inl rfl | exact Or.inr (Or.inl rfl) | exact Or.inr (Or.inr rfl))(hj:π[j]?=some i:=by rfl)(hNn:X.N[jn]?=some y:=by rfl)(hvn:gZ X.env.scope y:=by first | exact Or.inl rfl | exact Or.inr (Or.inl rfl) | exact Or.inr (Or.inr rfl))(hjn:π[jn]?=some n:=by rfl)
  (hline:(apos.endLine == cpos.line)=true:=by rfl)(b1:(x == ("__debug__":Str))=false:=by decide)(b2:(x == ("__classdict__":Str))=false:=by decide)(b3:(y == ("__debug__":Str))=false:=by decide)(b4:(y == ("__classdict__":Str))=false:=by decide) :
  SE X Ex π (.Call (.Attribute (.Name x p) "index" apos) [.Name y yp] [] cpos) (E8 i n):=JV hu (dG hN hv b1 b2) hj (dG hNn hvn b3 b4) hjn hline
def uq:DR:=fun ds P=>match ds with
 | [.int _]=>P .sh (.bool true)
 | [.tuple _]=>P .sh (.bool true)
 | _=>False
def ML {p p2 p3 tp pos:Pos}{k:Nat}{a:Expr}{as:List Arg}(k1:kitAny X.K (.type "int") [.type "int",.type "tuple"]=some true)(k2:kitAny X.K (.type "tuple") [.type "int",.type "tuple"]=some true)(hm:X.mg "isinstance"=none)(hm2:X.mg "int"=none)(hm3:X.mg "tuple"=none)(S:aL X Ex π [a] as)
  (hg:Gl X "isinstance":=by rfl)(hg2:Gl X "int":=by rfl)(hg3:Gl X "tuple":=by rfl)(ns:noStar a=true:=by rfl):SE X Ex π (.Call (.Name "isinstance" p) [a,.Tuple [.Name "int" p2,.Name "tuple" p3] k tp] [] pos) (aa uq as):=by
 refine eL (r:=fun vs H Q=>∃ v,vs=[v]/\((∃ i,v=.int i)\/∃ b zs,v=.ref b/\H b=some (.tup zs))/\∀ t,H t=none->Q (.bl true) (upd H t (.tup [.ty "int",.ty "tuple"]))) S (fun σ H Q h=>WE.of (mF Bm hg hm PyProof.Rows.boot_isinstance (cJ bE (cJ (CK (cJ (rR (v:=.ty "int") hg2 hm2 PyProof.Rows.boot_int rfl (by decide) (by decide)) (cJ (rR (v:=.ty "tuple") hg3 hm3 PyProof.Rows.boot_tuple rfl (by decide) (by decide)) eS))) eS) (aS ns)) (by decide) (by decide) (aS ns) (by rfl)) ?_) ?_
 ·refine fun pins s I=>aF (h pins s I) fun v s1 ⟨y,H1,I1,r1,w,e,ty,q⟩=>⟨y,H1,I1,r1,?_⟩
  cases e;refine ⟨by show 2<=sizeLine;decide,fun t ht=>?_⟩
  have st:=bA (o:=.tup [.ty "int",.ty "tuple"]) ht;rcases ty with ⟨i,rfl⟩ | ⟨b,zs,rfl,hb⟩
  ·refine ⟨_,t,_,_,true,rfl,.inl ⟨i,rfl,rfl⟩,aq,fun us hu=>?_,q t ht⟩
   obtain ⟨u1,u2,rfl,e1,e2⟩:=hu.two;cases e1;cases e2;exact k1
  ·refine ⟨_,t,_,_,true,rfl,.inr ⟨b,zs,rfl,st _ _ hb,rfl⟩,aq,fun us hu=>?_,q t ht⟩
   obtain ⟨u1,u2,rfl,e1,e2⟩:=hu.two;cases e1;cases e2;exact k2
 ·intro H Hm vs ds P Q s r h q;unfold uq at h;split at h
  ·obtain ⟨v,rfl,h1⟩:=c7 r;cases h1;refine ⟨_,rfl,.inl ⟨_,rfl⟩,fun t ht=>?_⟩
   have st:=bA (o:=.tup [.ty "int",.ty "tuple"]) ht;exact bu.sc (bu.up q st) (s.trans st) h (.bl _)
  ·obtain ⟨v,rfl,h1⟩:=c7 r;cases h1 with
   | tup e _ =>
    refine ⟨_,rfl,.inr ⟨_,_,rfl,s _ _ e⟩,fun t ht=>?_⟩
    have st:=bA (o:=.tup [.ty "int",.ty "tuple"]) ht;exact bu.sc (bu.up q st) (s.trans st) h (.bl _)
  ·exact h.elim
end
end Dv
namespace PB
open PySem L2 Dv
noncomputable def fJ:DS:=av (m6 [1,2] (aT 0)) (av (aJ 3 (nC sizeLine [6] (ku pC [.pk 1]) (.nm 6) (eX) (aa dm []))) (av (eY (iE (aT 2)) (.tp [4,5]) (av (d9 (qd dB 3 (aT 4) 5)) (d9 (qd dB 3 (aT 5) 4)))) (iJ 3)))
noncomputable def ig (sp_neighbour_lists:bC):DS:=av (aJ 2 (aH sp_neighbour_lists [false] [.pk 0])) (av (aJ 3 (aa iw [.ev (aa dm [.ev (dC .none)]),.ev (aa aA [.pk 0,.ev (dC (.int 0))])])) (av (f7 3 (aT 1) (dC (.int 0))) (av (aJ 4 (aa dm [.pk 1])) (av (nO (xC 4) (av (aJ 5 (aa dm [])) (av (eY (iE (aT 4)) (.nm 6) (eY (iE (aa aA [.pk 2,.pk 6])) (.nm 7) (dQ (cK (aa (dR false) [.ev (aa aA [.pk 3,.pk 7]),.ev (dC .none)])) (av (f7 3 (aT 7) (aa c9 [.ev (aa aA [.pk 3,.pk 6]),.ev (dC (.int 1))])) (d9 (oY dB 5 [aT 7]))) (eO)))) (aJ 4 (aT 5))))) (iJ 3)))))
noncomputable def fH:DS:=dQ (v7 (cK (lP (fun i j=>decide (i<=j)) (fun i j=>decide (i < j)) (dC (.int 0)) (aT 1) (aa aA [.pk 0,.ev (dC (.int 0))])))) (nj "NoPlace") (eO)
noncomputable def kP (sp_refuse_no_place sp_fars_or_none:bC):DS:=av (d9 (aH sp_refuse_no_place [false,false] [.pk 0,.pk 1])) (bR (aH sp_fars_or_none [false,false] [.pk 0,.pk 1]))
noncomputable def j6:DS:=bR (aa oq [.ev (aa aA [.pk 0,.ev (aa aA [.pk 1,.ev (dC (.int 0))])]),.ev (aa aA [.pk 0,.ev (aa aA [.pk 1,.ev (dC (.int 1))])])])
noncomputable def kW:DS:=av (m6 [2,3] (aT 0)) (av (aJ 4 (CU (cK (aa iU [.pk 1,.ev (dC (.str "ties"))])) (aa dm []) (aa iQ [.pk 2]))) (av (aJ 5 (CU (cK (aa iU [.pk 1,.ev (dC (.str "places"))])) (aa dm []) (aa gX [.pk 3]))) (bR (aa c9 [.pk 4,.pk 5]))))
noncomputable def kM:DS:=av (aJ 2 (aa vP [.ev (dC (.int 1))])) (av (eY (iE (aT 1)) (.nm 3) (av (dQ (v7 (cK (lP (fun i j=>decide (i < j)) (fun i j=>decide (i < j)) (aT 2) (aT 3) (aa aA [.pk 0,.ev (dC (.int 0))])))) (bR (dC (.bool false))) (eO)) (aJ 2 (aT 3)))) (bR (dC (.bool true))))
noncomputable def d8 (sp_are_looks:bC):DS:=dQ (v7 (cK (aH sp_are_looks [false,false] [.pk 0,.pk 1]))) (nj "NoLooks") (eO)
noncomputable def kE (sp_nearer_end:bC):DS:=av (dQ (cK (aa (qJ "int") [.pk 1])) (bR (aa aA [.pk 0,.pk 1])) (eO)) (bR (aH sp_nearer_end [false,false] [.pk 0,.pk 1]))
noncomputable def mC (sp_fars_from sp_thing_far:bC):DS:=av (aJ 3 (cu [4] (iE (aT 1)) (.nm 4) (eX) (cF sizeLine (aH sp_fars_from [false,false] [.pk 0,.pk 4])))) (bR (cu [4] (iE (aT 2)) (.nm 4) (eX) (cF sizeLine (cu [5] (iE (aT 3)) (.nm 5) (eX) (cF sizeLine (aH sp_thing_far [false,false] [.pk 5,.pk 4]))))))
noncomputable def l8 (sp_refuse_wrong_looks sp_things_of sp_codes_of:bC):DS:=av (d9 (aH sp_refuse_wrong_looks [false,false] [.pk 0,.pk 1])) (av (aJ 3 (aH sp_things_of [false,false] [.pk 0,.pk 2])) (av (aJ 4 (Af)) (av (eY (yz (aT 3) (aH sp_codes_of [false,false,false] [.pk 0,.pk 1,.pk 3])) (.tp [5,6]) (d9 (EY 4 6 5))) (bR (cu [7] (Dz 4) (.nm 7) (cK (aa zv [.ev (aa dH [.pk 7]),.ev (dC (.int 1))])) (cF sizeLine (aT 7)))))))
noncomputable def nF:DS:=av (m6 [1,2] (aT 0)) (bR (aa iU [.ev (aa dH [.pk 2]),.ev (aa l9 [.pk 1,.ev (dC (.int 1))])]))
noncomputable def f6 (sp_is_tree:bC):DS:=dQ (v7 (cK (aH sp_is_tree [false] [.pk 0]))) (nj "NoTree") (eO)
noncomputable def jS (sp_refuse_no_tree sp_likes_by:bC):DS:=av (d9 (aH sp_refuse_no_tree [false] [.pk 0])) (av (aJ 3 (aH sp_likes_by [false,false,false] [.pk 0,.pk 1,.pk 2])) (bR (CU (xC 3) (aa kR [.ev (aa aA [.ev (aa aA [.pk 3,.ev (dC (.int 0))]),.ev (dC (.int 0))]),.ev (aa aA [.ev (aa aA [.pk 3,.ev (dC (.int 0))]),.ev (dC (.int 1))])]) (dC .none))))
end PB
namespace Dv
open PySem L2
def yC (xs:List PyData)(tg:Tg)(b:DS)(D:bO)(E1:En):Prop:=∃ I:Nat->En->Prop,I 0 E1/\(∀ i d E,xs[i]?=some d->I i E->∃ E2,b7 tg d E=some E2/\b { D with nx:=I (i + 1) } E2)/\∀ E,I xs.length E->D.nx E
def wz (cs:List Nat)(xs:List PyData)(tg:Tg)(c:DT)(r:DC)(E1:En)(Q:En->Kd->PyData->Prop):Prop:=∃ (E0:En)(I:Nat->List PyData->En->Prop),aU cs E1=some E0/\I 0 [] E0/\(∀ i d ys E,xs[i]?=some d->I i ys E->∃ E2,b7 tg d E=some E2/\c xF E2 fun E3 b=>if b=true then r xF ys E3 (I (i + 1)) else I (i + 1) ys E3)/\∀ ys E,I xs.length ys E->∃ E2,aU cs E=some E2/\Q E2 (.ow false) (.list ys)
def MV (most:Nat)(cs:List Nat)(xs:List PyData)(tg:Tg)(c:DT)(e:DE)(E1:En)(Q:En->Kd->PyData->Prop):Prop:=∃ (E0:En)(I:Nat->List PyData->En->Prop),aU cs E1=some E0/\I 0 [] E0/\(∀ i d ys E,xs[i]?=some d->I i ys E->∃ E2,b7 tg d E=some E2/\c xF E2 fun E3 b=>if b=true then e xF E3 (fun E4 k v=>(∃ p,k=.ow p)/\ys.length < most/\I (i + 1) (ys++[v]) E4) else I (i + 1) ys E3)/\∀ ys E,I xs.length ys E->∃ E2,aU cs E=some E2/\Q E2 (.dp false) (.list ys)
def NP (xs:List PyData)(tg:Tg)(c:DT)(r:DC)(x:XC)(ys:List PyData)(E1:En)(Q:List PyData->En->Prop):Prop:=∃ I:Nat->List PyData->En->Prop,I 0 ys E1/\(∀ i d ys E,xs[i]?=some d->I i ys E->∃ E2,b7 tg d E=some E2/\c x E2 fun E3 b=>if b=true then r x ys E3 (I (i + 1)) else I (i + 1) ys E3)/\∀ ys E,I xs.length ys E->Q ys E
def dy :
 (∀ {it:DI}{tg:Tg}{b:DS}{D:bO}{o:Option (Kd×PyData)}{E:En},eY it tg b D (o::E)=it D.xc (o::E) fun E1 xs=>yC xs tg b D E1) /\
 (∀ {cs:List Nat}{it:DI}{tg:Tg}{c:DT}{r:DC}{x:XC}{o:Option (Kd×PyData)}{E:En}{Q:En->Kd->PyData->Prop},cu cs it tg c r x (o::E) Q=it x (o::E) fun E1 xs=>wz cs xs tg c r E1 Q) /\
 (∀ {most:Nat}{cs:List Nat}{it:DI}{tg:Tg}{c:DT}{e:DE}{x:XC}{o:Option (Kd×PyData)}{E:En}{Q:En->Kd->PyData->Prop},nC most cs it tg c e x (o::E) Q=it x (o::E) fun E1 xs=>MV most cs xs tg c e E1 Q) /\
 (∀ {it:DI}{tg:Tg}{c:DT}{r:DC}{x:XC}{ys:List PyData}{o:Option (Kd×PyData)}{E:En}{Q:List PyData->En->Prop},NK it tg c r x ys (o::E) Q=it x (o::E) fun E1 xs=>NP xs tg c r x ys E1 Q):=⟨rfl,rfl,rfl,rfl⟩
def Ie {a b:DS}{D:bO}{E:En}(h:av a b D E):AL a b D E:=⟨b D,h,fun _ z=>z⟩
theorem sC {i:Nat}{z:Option (Kd×PyData)}:∀ {cs:List Nat}{E E0:En},i∉cs->aU cs (E.set i none)=some E0->aU cs (E.set i z)=some (E0.set i z)
 | [],E,E0,_,h=>by
  have h:E.set i none=E0:=Option.some.inj h;show some _=some _;rw [<- h,List.set_set]
 | c::cs,E,E0,n,h=>by
  have nc:i≠c:=fun e=>n (e ▸ N9)
  have ns:i∉cs:=fun m=>n (O6 _ m)
  have ho:∀ y:Option (Kd×PyData),bP (E.set i y) c=bP E c:=fun y=>by
   unfold bP;rw [List.getElem?_set_ne nc]
  unfold aU at h ⊢;rw [ho] at h ⊢;split at h
  ·rename_i hc;rw [if_pos hc];rw [List.set_comm _ _ nc] at h ⊢;exact sC ns h
  ·cases h
theorem uZ:∀ {cs:List Nat}{ds:List PyData}{E E' E0:En},cs.Nodup->aU cs E=some E0->aU cs E'=some E0->bQ cs ds E=bQ cs ds E'
 | [],ds,E,E',E0,_,h,h'=>by
  have h:E=E0:=Option.some.inj h;have h':E'=E0:=Option.some.inj h';rw [h,h']
 | c::cs,[],E,E',E0,_,h,h'=>rfl
 | c::cs,d::ds,E,E',E0,nd,h,h'=>by
  have n1:=(List.nodup_cons.mp nd).1;unfold aU at h h';unfold bQ;split at h
  ·rename_i hc;split at h'
   ·rename_i hc';rw [if_pos hc,if_pos hc'];exact uZ (List.nodup_cons.mp nd).2 (sC n1 h) (sC n1 h')
   ·cases h'
  ·cases h
def yK {cs:List Nat}{ds:List PyData}{E E' E0:En}(nd:jM cs=true)(h:aU cs E=some E0)(h':aU cs E'=some E0):bQ cs ds E=bQ cs ds E':=uZ (gw nd) h h'
def pJ {tg:Tg}{cs:List Nat}{d:PyData}{E E' E0:En}(hs:tg.slots=cs)(nd:jM cs=true)(h:aU cs E=some E0)(h':aU cs E'=some E0):b7 tg d E=b7 tg d E':=by
 subst hs;cases tg with
 | nm i=>exact yK nd h h'
 | tp is =>
  cases d with
  | tuple ds=>exact yK nd h h'
  | _=>rfl
theorem jz:∀ {cs:List Nat}{E E0:En},cs.Nodup->aU cs E=some E0->aU cs E0=some E0/\∀ c∈cs,E0[c]?=some none
 | [],E,E0,_,h=>⟨rfl,fun _ z=>by cases z⟩
 | c::cs,E,E0,nd,h=>by
  have n1:=(List.nodup_cons.mp nd).1;have n2:=(List.nodup_cons.mp nd).2;unfold aU at h;split at h
  ·rename_i hc;obtain ⟨h1,h2⟩:=jz n2 h;have hlen:c < E.length:=by
    unfold bP at hc;rcases Nat.lt_or_ge c E.length with z | z
    ·exact z
    ·rw [List.getElem?_eq_none z] at hc;cases hc
   have hcl:∀ {cs:List Nat}{E E0:En},c∉cs->aU cs E=some E0->E0[c]?=E[c]?:=by
    intro cs
    induction cs with
    | nil=>intro E E0 _ h;cases h;rfl
    | cons a cs ih =>
     intro E E0 n h;unfold aU at h;split at h
     ·rw [ih (fun m=>n (O6 _ m)) h,List.getElem?_set_ne (fun e=>n (by rw [e];exact N9))]
     ·cases h
   have e0:E0[c]?=some none:=by rw [hcl n1 h,List.getElem?_set_self hlen]
   refine ⟨?_,fun x hx=>?_⟩
   ·unfold aU;rw [if_pos (by unfold bP;rw [e0])]
    have:E0.set c none=E0:=by
     refine List.ext_getElem? fun j=>?_
     by_cases e:c=j
     ·subst e;have:c < E0.length:=by
       rcases Nat.lt_or_ge c E0.length with z | z
       ·exact z
       ·rw [List.getElem?_eq_none z] at e0;cases e0
      rw [List.getElem?_set_self this,e0]
     ·rw [List.getElem?_set_ne e]
    rw [this];exact h1
   ·cases hx with
    | head=>exact e0
    | tail _ m=>exact h2 x m
  ·cases h
def bw {α:Type}{l:List α}{i:Nat}{a:α}(ha:l[i]?=some a):i < l.length:=by
 rcases Nat.lt_or_ge i l.length with z | z
 ·exact z
 ·rw [List.getElem?_eq_none z] at ha;cases ha
def take_snoc {α:Type}{l:List α}{i:Nat}{a:α}(ha:l[i]?=some a):l.take (i + 1)=l.take i++[a]:=by rw [List.take_add_one,ha];rfl
def Di {α:Type}{l:List α}{enc:α->PyData}{cs:List Nat}{tg:Tg}{e:DE}{most:Nat}{E1 E0:En}{Q:En->Kd->PyData->Prop}(g:α->PyData)(h0:aU cs E1=some E0)(h2:∀ a,a∈l->∀ I:En->PyData->Prop,(∀ E4,aU cs E4=some E0->I E4 (g a))->∃ E2,b7 tg (enc a) E0=some E2/\e xF E2 (fun E4 k v=>(∃ p,k=.ow p)/\I E4 v))
  (h3:Q E0 (.dp false) (.list (l.map g)))(hl:l.length<=most)(hs:tg.slots=cs:=by rfl)(nd:jM cs=true:=by rfl):MV most cs (l.map enc) tg eX e E1 Q:=by
 obtain ⟨hc0,_⟩:=jz (gw nd) h0;refine ⟨E0,fun i ys E=>ys=(l.take i).map g/\aU cs E=some E0,h0,⟨rfl,hc0⟩,?_,?_⟩
 ·rintro i d ys E hd ⟨rfl,hE⟩;rw [OG] at hd;obtain ⟨a,ha,rfl⟩:=Option.map_eq_some_iff.mp hd;have hi:=bw ha;obtain ⟨E2,hE2,hb⟩:=h2 a (OO ha) (fun E4 v=>((l.take i).map g).length < most/\((l.take i).map g++[v]=(l.take (i + 1)).map g/\aU cs E4=some E0)) (fun E4 hE4=>by
   refine ⟨?_,?_,hE4⟩
   ·rw [O7,List.length_take];omega
   ·rw [take_snoc ha,List.map_append];rfl)
  exact ⟨E2,(pJ hs nd hE hc0).trans hE2,hb⟩
 ·rintro ys E ⟨rfl,hE⟩;rw [O7,List.take_length];exact ⟨E0,hE,h3⟩
def kh {α:Type}{l:List α}{enc:α->PyData}{tg:Tg}{b:DS}{D:bO}{E1:En}(I:Nat->En->Prop)(h0:I 0 E1)(hs:∀ i a E,l[i]?=some a->I i E->∃ E2,b7 tg (enc a) E=some E2/\b { D with nx:=I (i + 1) } E2)(he:∀ E,I l.length E->D.nx E):yC (l.map enc) tg b D E1:=by
 refine ⟨I,h0,fun i d E hd hi=>?_,by rw [O7];exact he⟩
 rw [OG] at hd;obtain ⟨a,ha,rfl⟩:=Option.map_eq_some_iff.mp hd;exact hs i a E ha hi
def AH {α:Type}{l:List α}{enc:α->PyData}{cs:List Nat}{tg:Tg}{c:DT}{r:DC}{E1:En}{Q:En->Kd->PyData->Prop}(E0:En)(I:Nat->List PyData->En->Prop)(h0:aU cs E1=some E0)(h1:I 0 [] E0)(hs:∀ i a ys E,l[i]?=some a->I i ys E->∃ E2,b7 tg (enc a) E=some E2/\c xF E2 fun E3 b=>if b=true then r xF ys E3 (I (i + 1)) else I (i + 1) ys E3)
  (he:∀ ys E,I l.length ys E->∃ E2,aU cs E=some E2/\Q E2 (.ow false) (.list ys)):wz cs (l.map enc) tg c r E1 Q:=by
 refine ⟨E0,I,h0,h1,fun i d ys E hd hi=>?_,by rw [O7];exact he⟩
 rw [OG] at hd;obtain ⟨a,ha,rfl⟩:=Option.map_eq_some_iff.mp hd;exact hs i a ys E ha hi
def CW {n i k:Nat}(h:(List.range n)[i]?=some k):i < n/\k=i:=by
 have hi:=bw h;rw [OP] at hi;rw [List.getElem?_range hi] at h;cases h;exact ⟨hi,rfl⟩
def J7 {n:Nat}{enc:Nat->PyData}{tg:Tg}{b:DS}{D:bO}{E1:En}(I:Nat->En->Prop)(h0:I 0 E1)(hs:∀ i E,i < n->I i E->∃ E2,b7 tg (enc i) E=some E2/\b { D with nx:=I (i + 1) } E2)(he:∀ E,I n E->D.nx E):yC ((List.range n).map enc) tg b D E1 :=
 kh I h0 (fun i a E ha hi=>by obtain ⟨l,rfl⟩:=CW ha;exact hs a E l hi) (by rw [OP];exact he)
def yX {α:Type}{l:List α}{enc:α->PyData}{cs:List Nat}{tg:Tg}{e:DE}{most:Nat}{E1 E0:En}{Q:En->Kd->PyData->Prop}(S:En->Prop)(g:α->PyData)(h0:aU cs E1=some E0)(hS:S E0)(h2:∀ a,a∈l->∀ E0',S E0'->∀ I:En->PyData->Prop,(∀ E4 E5,aU cs E4=some E5->S E5->I E4 (g a))->∃ E2,b7 tg (enc a) E0'=some E2/\e xF E2 (fun E4 k v=>k.fz=true/\I E4 v))
  (h3:∀ E0',S E0'->Q E0' (.ow false) (.list (l.map g)))(hl:l.length<=most)(hs:tg.slots=cs:=by rfl)(nd:jM cs=true:=by rfl):wz cs (l.map enc) tg eX (cF most e) E1 Q:=by
 obtain ⟨hc0,_⟩:=jz (gw nd) h0;refine ⟨E0,fun i ys E=>ys=(l.take i).map g/\∃ E5,aU cs E=some E5/\S E5,h0,⟨rfl,E0,hc0,hS⟩,?_,?_⟩
 ·rintro i d ys E hd ⟨rfl,E5,hE,hS5⟩;rw [OG] at hd;obtain ⟨a,ha,rfl⟩:=Option.map_eq_some_iff.mp hd;have hi:=bw ha;obtain ⟨hc5,_⟩:=jz (gw nd) hE;obtain ⟨E2,hE2,hb⟩:=h2 a (OO ha) E5 hS5 (fun E4 v=>((l.take i).map g).length < most/\((l.take i).map g++[v]=(l.take (i + 1)).map g/\∃ E5,aU cs E4=some E5/\S E5)) (fun E4 E6 hE4 hS6=>by
   refine ⟨?_,?_,E6,hE4,hS6⟩
   ·rw [O7,List.length_take];omega
   ·rw [take_snoc ha,List.map_append];rfl)
  exact ⟨E2,(pJ hs nd hE hc5).trans hE2,hb⟩
 ·rintro ys E ⟨rfl,E5,hE,hS5⟩;rw [O7,List.take_length];exact ⟨E5,hE,h3 E5 hS5⟩
def Hr {α:Type}{l:List α}{enc:α->PyData}{cs:List Nat}{tg:Tg}{c:DT}{e:DE}{most:Nat}{E1 E0:En}{Q:En->Kd->PyData->Prop}(S:En->Prop)(g:α->Option PyData)(h0:aU cs E1=some E0)(hS:S E0)(h2:∀ a,a∈l->∀ E0',S E0'->∀ I:En->Option PyData->Prop,(∀ E4 E5,aU cs E4=some E5->S E5->I E4 (g a))->∃ E2,b7 tg (enc a) E0'=some E2/\c xF E2 fun E3 b=>if b=true then e xF E3 (fun E4 k v=>k.fz=true/\I E4 (some v)) else I E3 none)
  (h3:∀ E0',S E0'->Q E0' (.ow false) (.list (l.filterMap g)))(hl:l.length<=most)(hs:tg.slots=cs:=by rfl)(nd:jM cs=true:=by rfl):wz cs (l.map enc) tg c (cF most e) E1 Q:=by
 obtain ⟨hc0,_⟩:=jz (gw nd) h0;refine ⟨E0,fun i ys E=>ys=(l.take i).filterMap g/\∃ E5,aU cs E=some E5/\S E5,h0,⟨rfl,E0,hc0,hS⟩,?_,?_⟩
 ·rintro i d ys E hd ⟨rfl,E5,hE,hS5⟩;rw [OG] at hd;obtain ⟨a,ha,rfl⟩:=Option.map_eq_some_iff.mp hd;have hi:=bw ha;obtain ⟨hc5,_⟩:=jz (gw nd) hE;have hlen:((l.take i).filterMap g).length < most:=by
   have:=List.length_filterMap_le g (l.take i);rw [List.length_take] at this;omega
  obtain ⟨E2,hE2,hb⟩:=h2 a (OO ha) E5 hS5 (fun E4 o=>match o with
   | some v=>((l.take i).filterMap g).length < most/\((l.take i).filterMap g++[v]=(l.take (i + 1)).filterMap g/\∃ E5,aU cs E4=some E5/\S E5)
   | none=>(l.take i).filterMap g=(l.take (i + 1)).filterMap g/\∃ E5,aU cs E4=some E5/\S E5) (fun E4 E6 hE4 hS6=>by
   cases hg:g a with
   | none =>
    refine ⟨?_,E6,hE4,hS6⟩;rw [take_snoc ha,List.filterMap_append,List.filterMap_cons,hg];exact (List.append_nil _).symm
   | some v =>
    refine ⟨hlen,?_,E6,hE4,hS6⟩;rw [take_snoc ha,List.filterMap_append,List.filterMap_cons,hg];rfl)
  exact ⟨E2,(pJ hs nd hE hc5).trans hE2,hb⟩
 ·rintro ys E ⟨rfl,E5,hE,hS5⟩;rw [O7,List.take_length];exact ⟨E5,hE,h3 E5 hS5⟩
def iM {α:Type}{l:List α}{enc:α->PyData}{cs:List Nat}{tg:Tg}{e:DE}{most:Nat}{E1 E0:En}{Q:En->Kd->PyData->Prop}(g:α->PyData)(h0:aU cs E1=some E0)(h2:∀ a,a∈l->∀ I:En->PyData->Prop,(∀ E4,aU cs E4=some E0->I E4 (g a))->∃ E2,b7 tg (enc a) E0=some E2/\e xF E2 (fun E4 k v=>k.fz=true/\I E4 v))
  (h3:Q E0 (.ow false) (.list (l.map g)))(hl:l.length<=most)(hs:tg.slots=cs:=by rfl)(nd:jM cs=true:=by rfl):wz cs (l.map enc) tg eX (cF most e) E1 Q :=
 yX (·=E0) g h0 rfl (fun a ha E0' e I hI=>by subst e;exact h2 a ha I fun E4 h=>hI E4 _ h rfl) (fun E0' e=>by subst e;exact h3) hl hs nd
def uG {α:Type}{l:List α}{enc:α->PyData}{cs:List Nat}{tg:Tg}{c:DT}{e:DE}{most:Nat}{E1 E0:En}{Q:En->Kd->PyData->Prop}(g:α->Option PyData)(h0:aU cs E1=some E0)(h2:∀ a,a∈l->∀ I:En->Option PyData->Prop,(∀ E4,aU cs E4=some E0->I E4 (g a))->∃ E2,b7 tg (enc a) E0=some E2/\c xF E2 fun E3 b=>if b=true then e xF E3 (fun E4 k v=>k.fz=true/\I E4 (some v)) else I E3 none)
  (h3:Q E0 (.ow false) (.list (l.filterMap g)))(hl:l.length<=most)(hs:tg.slots=cs:=by rfl)(nd:jM cs=true:=by rfl):wz cs (l.map enc) tg c (cF most e) E1 Q :=
 Hr (·=E0) g h0 rfl (fun a ha E0' e I hI=>by subst e;exact h2 a ha I fun E4 h=>hI E4 _ h rfl) (fun E0' e=>by subst e;exact h3) hl hs nd
abbrev iD (n:Nat):PyData:=.int (n:Int)
abbrev nD (l:List Nat):PyData:=.list (l.map iD)
abbrev gk (e:Nat×Nat):PyData:=.tuple [iD e.1,iD e.2]
abbrev wD (m:Nat)(es:List (Nat×Nat)):PyData:=.tuple [iD m,.tuple (es.map gk)]
def Ji {n:Nat}:ji 0 n=(List.range n).map iD:=by
 unfold ji;refine List.map_congr_left fun i _=>?_
 rw [Int.zero_add]
def KW {n:Nat}:ji 1 n=(List.range n).map fun i=>iD (i + 1):=by
 unfold ji;refine List.map_congr_left fun i _=>?_
 show PyData.int _=PyData.int _;congr 1;omega
def wm {xs:List PyData}{i:Nat}:dg xs (i:Int)=xs[i]?:=by
 unfold dg nS;rw [if_pos (by omega)]
 split
 ·exact rfl
 ·rw [List.getElem?_eq_none (by omega)];rfl
def A7 {n i:Nat}(h:i < n):kC n (i:Int)=some i:=by
 unfold kC;rw [if_pos (by omega),if_pos (by omega)]
 rfl
def sr {n i:Nat}{Q:Nat->Prop}(h:i < n)(q:Q i):aI (kC n (i:Int)) Q:=by rw [A7 h];exact q
def qM {α β:Type}{o:Option α}{f:α->β}{Q:β->Prop}:aI (o.map f) Q=aI o fun a=>Q (f a):=by cases o <;> rfl
def mY {α:Type}{l:List α}{f:α->PyData}{i:Nat}{Q:PyData->Prop}:aI (dg (l.map f) (i:Int)) Q=aI l[i]? fun a=>Q (f a):=by rw [wm,OG,qM]
def BK {α:Type}{l:List α}{f:α->PyData}{a:Nat}:cutD (l.map f) (some (a:Int)) none=(l.drop a).map f:=by
 unfold cutD;have e1:HT.aC (l.map f).length 0 (some (a:Int))=min a (l.map f).length:=HT.oz _ _ a;have e2:HT.aC (l.map f).length (l.map f).length none=(l.map f).length:=rfl;rw [e1,e2,O7,<- List.map_drop,<- List.map_take];congr 1;rw [List.take_of_length_le (by rw [List.length_drop];omega)]
 rcases Nat.le_total a l.length with h | h
 ·rw [Nat.min_eq_left h]
 ·rw [Nat.min_eq_right h,List.drop_length,List.drop_of_length_le h]
def vS {α:Type}{l:List α}{f:α->PyData}{b:Nat}:cutD (l.map f) none (some (b:Int))=(l.take b).map f:=by
 unfold cutD;have e1:HT.aC (l.map f).length (l.map f).length (some (b:Int))=min b (l.map f).length:=HT.oz _ _ b;have e2:HT.aC (l.map f).length 0 none=0:=rfl;rw [e1,e2,O7,List.drop_zero,Nat.sub_zero,<- List.map_take];congr 1;rcases Nat.le_total b l.length with h | h
 ·rw [Nat.min_eq_left h]
 ·rw [Nat.min_eq_right h,List.take_length,List.take_of_length_le h]
def wZ {α:Type}{l:List α}{f:α->PyData}{a b:Nat}:cutD (l.map f) (some (a:Int)) (some (b:Int))=((l.take b).drop a).map f:=by
 unfold cutD;have e1:HT.aC (l.map f).length 0 (some (a:Int))=min a (l.map f).length:=HT.oz _ _ a;have e2:HT.aC (l.map f).length (l.map f).length (some (b:Int))=min b (l.map f).length:=HT.oz _ _ b;rw [e1,e2,O7,<- List.map_drop,<- List.map_take];congr 1;rw [List.drop_take];rcases Nat.le_total a l.length with h | h
 ·rw [Nat.min_eq_left h];rcases Nat.le_total b l.length with g | g
  ·rw [Nat.min_eq_left g]
  ·rw [Nat.min_eq_right g,List.take_of_length_le (by rw [List.length_drop];omega),List.take_of_length_le (by rw [List.length_drop];omega)]
 ·rw [Nat.min_eq_right h,List.drop_length,List.drop_of_length_le h,List.take_nil,List.take_nil]
def pU {α:Type}{l:List α}{f:α->PyData}:iG (l.map f)=l.zipIdx.map fun p=>.tuple [iD p.2,f p.1]:=by
 unfold iG;rw [List.zipIdx_map,List.map_map];rfl
theorem zip_map {α β:Type}{l:List α}{m:List β}{f:α->PyData}{g:β->PyData}:((l.map f).zip (m.map g)).map (fun p=>PyData.tuple [p.1,p.2])=(l.zip m).map fun p=>.tuple [f p.1,g p.2]:=by
 rw [List.zip_map,List.map_map];rfl
def yW {α:Type}{l:List α}{f:α->PyData}{Q:PyData->Prop}:aI (dg (l.map f) 0) Q=aI l[0]? fun a=>Q (f a):=mY (i:=0)
def zJ {α:Type}{l:List α}{f:α->PyData}{Q:PyData->Prop}:aI (dg (l.map f) 1) Q=aI l[1]? fun a=>Q (f a):=mY (i:=1)
def bN {α:Type}{o:Option α}{a:α}{Q:α->Prop}(h:o=some a)(q:Q a):aI o Q:=by rw [h];exact q
def w5 {a b:Nat}:(a:Int) % (b:Int)=((a % b:Nat):Int):=(Int.natCast_emod a b).symm
def uU {a b:Nat}:(a:Int) / (b:Int)=((a / b:Nat):Int):=(Int.natCast_ediv a b).symm
def zx {a b:Nat}:((a:Int) < (b:Int))=(a < b):=propext Int.ofNat_lt
def zy {a b:Nat}:((a:Int)<=(b:Int))=(a<=b):=propext Int.ofNat_le
def cast_eq {a b:Nat}:((a:Int)=(b:Int))=(a=b):=propext Int.ofNat_inj
def cast_pos {a:Nat}:((0:Int) < (a:Int))=(0 < a):=propext Int.natCast_pos
def Fw {a b:Nat}:(if b < a then (b:Int) else (a:Int))=((min a b:Nat):Int):=by split <;> omega
def FF {a b:Nat}:(if a < b then (b:Int) else (a:Int))=((max a b:Nat):Int):=by split <;> omega
def Gj {a b:Nat}:(if b > a then (b:Int) else (a:Int))=((max a b:Nat):Int):=by split <;> omega
def qZ {ds:List PyData}:lf (.tuple ds)=ds.all lf:=oE ds
def yN {p:Bool}{ds:List PyData}:flat (.ow p) (.list ds)=ds.all lf:=rfl
def qe {α β:Type}{l:List α}{f:α->β}{p:β->Bool}:(l.map f).all p=l.all fun a=>p (f a):=by rw [List.all_map];rfl
def CY {α:Type}{l:List α}:(l.all fun _=>true)=true:=by rw [OC];exact fun _ _=>rfl
def z7 {n:Nat}:lf (iD n)=true:=rfl
def vf {e:Nat×Nat}:lf (gk e)=true:=rfl
def Gp {m:Nat}{es:List (Nat×Nat)}:lf (wD m es)=true:=by
 rw [qZ];show (lf (iD m) && (lf (.tuple (es.map gk)) && true))=true;rw [qZ,qe];simp [z7,vf]
def M1:type_of% @qZ/\type_of% @yN/\type_of% @qe/\type_of% @CY/\type_of% @z7/\type_of% @vf/\type_of% @Gp/\(decide True=true)/\(∀ {ds:List PyData},lf (.list ds)=false)/\(∀ {α:Type}{l m:List α}{p:α->Bool},(l++m).all p=(l.all p && m.all p)):=⟨@qZ,@yN,@qe,@CY,@z7,@vf,@Gp,rfl,rfl,(by intros;exact List.all_append)⟩
def dz:(type_of% M1)/\type_of% @Ji/\type_of% @KW/\type_of% @mY/\type_of% @yW/\type_of% @zJ/\type_of% @qM/\type_of% @BK/\type_of% @vS/\type_of% @wZ/\type_of% @pU/\type_of% @zip_map/\type_of% @w5/\type_of% @uU/\type_of% @zx/\type_of% @zy/\type_of% @cast_eq/\type_of% @cast_pos/\type_of% @bU/\type_of% @Fw/\type_of% @FF/\type_of% @Gj /\
 (∀ {α β:Type}{f:α->β}{l:List α},(l.map f).length=l.length)/\(∀ {n:Nat},(List.range n).length=n)/\(∀ {n:Nat},(n:Int).toNat=n) :=
 ⟨M1,@Ji,@KW,@mY,@yW,@zJ,@qM,@BK,@vS,@wZ,@pU,@zip_map,@w5,@uU,@zx,@zy,@cast_eq,@cast_pos,@bU,@Fw,@FF,@Gj,(by intros;exact O7 ..),(by intros;exact OP),(by intros;exact Int.toNat_natCast _)⟩
end Dv
local macro_rules | `(tactic| and_intros) => `(tactic| simp only [Dv.dv,Dv.dw,Dv.dx,Dv.dy,Dv.dz,Nat.reduceBEq])
namespace Dv
open PySem L2
def pA {α β:Type}(f:α->β){l:List α}:∀ {m:List β},m.Perm (l.map f)->∃ l':List α,l'.Perm l/\m=l'.map f:=by
 have:∀ {a b:List β},a.Perm b->∀ l:List α,b=l.map f->∃ l':List α,l'.Perm l/\a=l'.map f:=by
  intro a b h
  induction h with
  | nil=>intro l e;exact ⟨l,.refl _,e⟩
  | cons x _ ih =>
   intro l e;cases l with
   | nil=>cases e
   | cons y l =>
    rw [OM,List.cons.injEq] at e;obtain ⟨l',p,e'⟩:=ih l e.2;exact ⟨y::l',p.cons _,by rw [e.1,e',OM]⟩
  | swap x y z =>
   intro l e
   match l,e with
   | [],e=>cases e
   | [_],e=>rw [OM,List.cons.injEq] at e;cases e.2
   | u::v::l,e =>
    rw [OM,OM,List.cons.injEq,List.cons.injEq] at e;exact ⟨v::u::l,List.Perm.swap _ _ _,by rw [OM,OM,e.1,e.2.1,e.2.2]⟩
  | trans _ _ ih1 ih2 =>
   intro l e;obtain ⟨l1,p1,e1⟩:=ih2 l e;obtain ⟨l2,p2,e2⟩:=ih1 l1 e1;exact ⟨l2,p2.trans p1,e2⟩
 intro m h;exact this h l rfl
def GZ {ns:List Nat}{P:Kd->PyData->Prop}(h:ns.length < 64)(q:∀ ms:List Nat,ms.Perm ns->ms.Pairwise (·<=·)->P (.ow false) (nD ms)):nJ [nD ns] P:=by
 refine ⟨ns.map (fun n:Nat=>(n:Int)),by rw [List.map_map];rfl,by rw [O7];exact h,fun ms p s=>?_⟩
 obtain ⟨l,hl,rfl⟩:=pA _ p;rw [List.pairwise_map] at s;have:=q l hl (List.Pairwise.imp (S:=(·<=·)) (fun {a b} h=>by omega) s)
 rw [List.map_map];exact this
def HL {ps:List (Nat×Nat)}{P:Kd->PyData->Prop}(h:ps.length<=1000)(q:∀ qs:List (Nat×Nat),qs.Perm ps->P (.ow false) (.list (qs.map gk))):qU [.list (ps.map gk)] P:=by
 refine ⟨ps.map (fun e:Nat×Nat=>((e.1:Int),(e.2:Int))),by rw [List.map_map];rfl,by rw [O7];exact h,fun ms p=>?_⟩
 obtain ⟨l,hl,rfl⟩:=pA _ p;have:=q l hl;rw [List.map_map];exact this
def q9 {a b:Nat}:iD a=iD b↔a=b:=⟨fun h=>by cases h;rfl,fun h=>by rw [h]⟩
def Hv {a b:Nat×Nat}:gk a=gk b↔a=b:=by
 refine ⟨fun h=>?_,fun h=>by rw [h]⟩
 rw [PyData.tuple.injEq,List.cons.injEq,List.cons.injEq,PyData.int.injEq,PyData.int.injEq] at h;exact Prod.ext (by have:=h.1;omega) (by have:=h.2.1;omega)
end Dv
namespace Gr
inductive R (E:Nat->Nat->Prop) (p:Nat):Nat->Nat->Prop
 | zero:R E p 0 p
 | step {d x y:Nat}:R E p d x->E x y->R E p (d + 1) y
def uO (E:Nat->Nat->Prop) (p x d:Nat):Prop:=R E p d x/\∀ e,e < d->¬ R E p e x
section
variable {E:Nat->Nat->Prop}{p:Nat}
def uO.eq {x d e:Nat}(h:uO E p x d)(g:uO E p x e):d=e:=by
 rcases Nat.lt_trichotomy d e with l | l | l
 ·exact absurd h.1 (g.2 d l)
 ·exact l
 ·exact absurd g.1 (h.2 e l)
open Classical in
noncomputable def dst (E:Nat->Nat->Prop) (p x:Nat):Nat:=if h:∃ d,uO E p x d then Classical.choose h else 0
def Jv {x d:Nat}(h:uO E p x d):dst E p x=d:=by
 have h':∃ d,uO E p x d:=⟨d,h⟩;unfold dst;rw [dif_pos h'];exact (Classical.choose_spec h').eq h
def R.trans {q:Nat}{d e x:Nat}(h:R E p d q)(g:R E q e x):R E p (d + e) x:=by
 induction g with
 | zero=>exact h
 | step _ s ih=>exact ih.step s
def R.head {q d x:Nat}(h:E p q)(g:R E q d x):R E p (1 + d) x:=R.trans (R.step .zero h) g
def R.symm (sy:∀ x y,E x y->E y x){d x:Nat}(h:R E p d x):R E x d p:=by
 induction h with
 | zero=>exact .zero
 | step _ s ih =>
  have:=R.head (sy _ _ s) ih;rwa [Nat.add_comm] at this
structure jJ (E:Nat->Nat->Prop) (p r:Nat)(f:Nat->Option Nat)(cV:List Nat):Prop where
 sound:∀ x d,f x=some d->uO E p x d
 upto:∀ x d,d<=r->R E p d x->∃ e,f x=some e
 low:∀ x d,f x=some d->d<=r
 cV:∀ x,x∈cV↔f x=some r
structure dZ (E:Nat->Nat->Prop) (r:Nat)(f:Nat->Option Nat)(cV:List Nat)(g:Nat->Option Nat)(reached:List Nat):Prop where
 ext:∀ x d,f x=some d->g x=some d
 new:∀ x d,g x=some d->f x=some d\/(f x=none/\d=r + 1/\∃ h,h∈cV/\E h x)
 got:∀ x,x∈reached↔(f x=none/\g x=some (r + 1))
def jJ.start:jJ E p 0 (fun x=>if x=p then some 0 else none) [p]:=by
 refine ⟨fun x d h=>?_,fun x d l h=>?_,fun x d h=>?_,fun x=>?_⟩
 ·by_cases c:x=p
  ·rw [if_pos c] at h;cases h;rw [c];exact ⟨.zero,fun e he=>absurd he (Nat.not_lt_zero e)⟩
  ·rw [if_neg c] at h;cases h
 ·obtain rfl:d=0:=by omega
  cases h;exact ⟨0,if_pos rfl⟩
 ·by_cases c:x=p
  ·rw [if_pos c] at h;cases h;exact O5 _
  ·rw [if_neg c] at h;cases h
 ·rw [O8];constructor
  ·intro e;exact if_pos e
  ·intro h
   by_cases c:x=p
   ·exact c
   ·rw [if_neg c] at h;cases h
def dZ.start {r:Nat}{f:Nat->Option Nat}{cV:List Nat}:dZ E r f cV f []:=by
 refine ⟨fun x d h=>h,fun x d h=>.inl h,fun x=>?_⟩
 constructor
 ·intro h;cases h
 ·rintro ⟨h1,h2⟩;rw [h1] at h2;cases h2
def dZ.put {r:Nat}{f g:Nat->Option Nat}{cV reached:List Nat}{h y:Nat}(B:dZ E r f cV g reached)(he:h∈cV)(hy:E h y)(n:g y=none):dZ E r f cV (fun x=>if x=y then some (r + 1) else g x) (reached++[y]):=by
 have fy:f y=none:=by
  cases e:f y with
  | none=>rfl
  | some d =>
   rw [B.ext y d e] at n;cases n
 refine ⟨fun x d e=>?_,fun x d e=>?_,fun x=>?_⟩
 ·by_cases c:x=y
  ·rw [c,fy] at e;cases e
  ·show (if x=y then _ else _)=_
   rw [if_neg c];exact B.ext x d e
 ·by_cases c:x=y
  ·rw [if_pos c] at e;cases e;rw [c];exact .inr ⟨fy,rfl,h,he,hy⟩
  ·rw [if_neg c] at e;exact B.new x d e
 ·rw [OT,O8,B.got x];constructor
  ·rintro (⟨h1,h2⟩ | rfl)
   ·refine ⟨h1,?_⟩
    by_cases c:x=y
    ·exact if_pos c
    ·show (if x=y then _ else _)=_
     rw [if_neg c];exact h2
   ·exact ⟨fy,if_pos rfl⟩
  ·rintro ⟨h1,h2⟩
   by_cases c:x=y
   ·exact .inr c
   ·rw [if_neg c] at h2;exact .inl ⟨h1,h2⟩
theorem dZ.none {r:Nat}{f g:Nat->Option Nat}{cV reached:List Nat}(B:dZ E r f cV g reached){x:Nat}(h:g x=.none):f x=.none:=by
 cases e:f x with
 | none=>rfl
 | some d =>
  rw [B.ext x d e] at h;cases h
def dZ.at {r:Nat}{f g:Nat->Option Nat}{cV reached:List Nat}(B:dZ E r f cV g reached)(A:jJ E p r f cV){h:Nat}(he:h∈cV):g h=some r:=B.ext h r ((A.cV h).mp he)
def jJ.next {r:Nat}{f g:Nat->Option Nat}{cV reached:List Nat}(A:jJ E p r f cV)(B:dZ E r f cV g reached)(all:∀ h,h∈cV->∀ x,E h x->g x≠none):jJ E p (r + 1) g reached:=by
 refine ⟨fun x d e=>?_,fun x d l h=>?_,fun x d e=>?_,fun x=>?_⟩
 ·rcases B.new x d e with h | ⟨h1,rfl,h,he,hx⟩
  ·exact A.sound x d h
  ·have rh:=(A.sound h r ((A.cV h).mp he)).1;refine ⟨rh.step hx,fun e he hr=>?_⟩
   obtain ⟨d,hd⟩:=A.upto x e (by omega) hr
   rw [h1] at hd;cases hd
 ·by_cases c:d<=r
  ·obtain ⟨e,he⟩:=A.upto x d c h;exact ⟨e,B.ext x e he⟩
  ·obtain rfl:d=r + 1:=by omega
   cases h with
   | @step _ y _ hy hyx =>
    obtain ⟨e,he⟩:=A.upto y r (O5 _) hy;have el:=A.low y e he
    by_cases ce:e=r
    ·have:=all y ((A.cV y).mpr (ce ▸ he)) x hyx;cases e':g x with
     | none=>exact absurd e' this
     | some d=>exact ⟨d,rfl⟩
    ·obtain ⟨e',he'⟩:=A.upto x (e + 1) (by omega) ((A.sound y e he).1.step hyx)
     exact ⟨e',B.ext x e' he'⟩
 ·rcases B.new x d e with h | ⟨_,rfl,_⟩
  ·have:=A.low x d h;omega
  ·exact O5 _
 ·rw [B.got x];constructor
  ·exact fun h=>h.2
  ·intro h;refine ⟨?_,h⟩;rcases B.new x (r + 1) h with h' | ⟨h',_⟩
   ·have:=A.low x _ h';omega
   ·exact h'
def jJ.done {r:Nat}{f:Nat->Option Nat}(A:jJ E p r f []):∀ {d x:Nat},R E p d x->∃ e,f x=some e:=by
 intro d x h
 induction h with
 | zero=>exact A.upto p 0 (Nat.zero_le _) .zero
 | @step d x y _ hxy ih =>
  obtain ⟨e,he⟩:=ih;have el:=A.low x e he;have ne:e≠r:=fun c=>by
   have:=(A.cV x).mpr (c ▸ he);cases this
  exact A.upto y (e + 1) (by omega) ((A.sound x e he).1.step hxy)
def jJ.val {r:Nat}{f:Nat->Option Nat}(A:jJ E p r f []){x d:Nat}(h:R E p d x):f x=some (dst E p x):=by
 obtain ⟨e,he⟩:=A.done h;rw [he,Jv (A.sound x e he)]
end
def cnt (f:Nat->Option Nat):Nat->Nat
 | 0=>0
 | m + 1=>cnt f m + (if f m=none then 1 else 0)
theorem qx {f g:Nat->Option Nat}(h:∀ x,g x=none->f x=none):∀ m,cnt g m<=cnt f m
 | 0=>O5 _
 | m + 1=>by
  have:=qx h m;unfold cnt
  by_cases c:g m=none
  ·rw [if_pos c,if_pos (h m c)];omega
  ·rw [if_neg c];omega
theorem uR {f g:Nat->Option Nat}(h:∀ x,g x=none->f x=none){y:Nat}(fy:f y=none)(gy:g y≠none):∀ m,y < m->cnt g m < cnt f m
 | 0,l=>absurd l (Nat.not_lt_zero _)
 | m + 1,l=>by
  unfold cnt
  by_cases c:y=m
  ·have:=qx h m;rw [<- c,if_neg gy,if_pos fy,c];omega
  ·have:=uR h fy gy m (by omega)
   by_cases c:g m=none
   ·rw [if_pos c,if_pos (h m c)];omega
   ·rw [if_neg c];omega
def cX (es:List (Nat×Nat)) (x y:Nat):Prop:=(x,y)∈es\/(y,x)∈es
def uL {es:List (Nat×Nat)} (x y:Nat)(h:cX es x y):cX es y x:=h.elim .inr .inl
def iW (m:Nat)(es:List (Nat×Nat)):Prop:=∀ p,p < m->∀ x,x < m->∃ d,R (cX es) p d x
def HH {m:Nat}{es:List (Nat×Nat)}(h:∀ k,0 < k->k < m->∃ p,p < k/\(p,k)∈es):iW m es:=by
 have z:∀ n x,x < n->x < m->∃ d,R (cX es) x d 0:=by
  intro n
  induction n with
  | zero=>exact fun x h _=>absurd h (Nat.not_lt_zero _)
  | succ n ih =>
   intro x hx hm
   by_cases c:x=0
   ·rw [c];exact ⟨0,.zero⟩
   ·obtain ⟨q,hq,he⟩:=h x (by omega) hm
    obtain ⟨d,hd⟩:=ih q (by omega) (by omega)
    exact ⟨1 + d,R.head (.inr he) hd⟩
 intro p hp x hx;obtain ⟨d,hd⟩:=z (p + 1) p (by omega) hp
 obtain ⟨e,he⟩:=z (x + 1) x (by omega) hx
 exact ⟨d + e,hd.trans (he.symm uL)⟩
def u9 {m:Nat}{es fs:List (Nat×Nat)}{nm:Nat->Nat}(h:iW m es)(onto:∀ x,x < m->∃ a,a < m/\nm a=x)(e:∀ a b,(a,b)∈es->cX fs (nm a) (nm b)):iW m fs:=by
 intro p hp x hx;obtain ⟨a,ha,rfl⟩:=onto p hp;obtain ⟨b,hb,rfl⟩:=onto x hx;obtain ⟨d,hd⟩:=h a ha b hb;have go:∀ {d b:Nat},R (cX es) a d b->R (cX fs) (nm a) d (nm b):=by
  intro d b hd
  induction hd with
  | zero=>exact .zero
  | step _ s ih =>
   refine R.step ih ?_;rcases s with s | s
   ·exact e _ _ s
   ·exact uL _ _ (e _ _ s)
 exact ⟨d,go hd⟩
theorem fc:∀ (m:Nat)(l:List Nat),l.Nodup->(∀ x∈l,x < m)->l.length<=m
 | 0,[],_,_=>O5 _
 | 0,x::_,_,h=>absurd (h x (N9 ..)) (Nat.not_lt_zero _)
 | m + 1,l,nd,h=>by
  have h1:(l.erase m).length<=m:=fc m (l.erase m) (nd.sublist (List.erase_sublist ..)) fun x hx=>by
   have:=(nd.mem_erase_iff.mp hx);have:=h x this.2;omega
  have h2:l.length<=(l.erase m).length + 1:=by
   rw [List.length_erase];split <;> omega
  omega
def nb (x:Nat)(e:Nat×Nat):Option Nat:=if e.1=x then some e.2 else if e.2=x then some e.1 else none
def cN (es:List (Nat×Nat)) (x:Nat):List Nat:=es.filterMap (nb x)
def r9 {x y:Nat}{e:Nat×Nat}(h:nb x e=some y):e=(x,y)\/e=(y,x):=by
 obtain ⟨a,b⟩:=e;unfold nb at h
 by_cases c:a=x
 ·rw [if_pos c] at h;cases h;rw [c];exact .inl rfl
 ·rw [if_neg c] at h
  by_cases c2:b=x
  ·rw [if_pos c2] at h;cases h;rw [c2];exact .inr rfl
  ·rw [if_neg c2] at h;cases h
def lg {es:List (Nat×Nat)}{x y:Nat}:y∈cN es x↔cX es x y:=by
 unfold cN;rw [List.mem_filterMap];constructor
 ·rintro ⟨e,he,h⟩;rcases r9 h with rfl | rfl
  ·exact .inl he
  ·exact .inr he
 ·rintro (h | h)
  ·exact ⟨_,h,if_pos rfl⟩
  ·refine ⟨_,h,?_⟩;show (if y=x then some x else if x=x then some y else none)=some y
   by_cases c:y=x
   ·rw [if_pos c,c]
   ·rw [if_neg c,if_pos rfl]
def yM {es fs:List (Nat×Nat)}{x:Nat}:cN (es++fs) x=cN es x++cN fs x:=List.filterMap_append ..
structure Good (m:Nat)(es:List (Nat×Nat)):Prop where
 lt:∀ e∈es,e.1 < e.2/\e.2 < m
 nd:es.Nodup
def Good.Jl {m:Nat}{es:List (Nat×Nat)}(g:Good m es){x y:Nat}(h:cX es x y):x < m/\y < m:=by
 rcases h with h | h
 ·have:x < y/\y < m:=g.lt _ h;omega
 ·have:y < x/\x < m:=g.lt _ h;omega
def Good.Bs {m:Nat}{es:List (Nat×Nat)}(g:Good m es) (x:Nat):(cN es x).Nodup:=by
 unfold cN List.Nodup;rw [List.pairwise_filterMap];refine List.Pairwise.imp_of_mem ?_ g.nd;intro a b ha hb ne y hy z hz e;subst e;rcases r9 hy with rfl | rfl <;> rcases r9 hz with rfl | rfl
 ·exact ne rfl
 ·have h1:x < y/\y < m:=g.lt _ ha;have h2:y < x/\x < m:=g.lt _ hb;omega
 ·have h1:y < x/\x < m:=g.lt _ ha;have h2:x < y/\y < m:=g.lt _ hb;omega
 ·exact ne rfl
def Good.sE {m:Nat}{es:List (Nat×Nat)}(g:Good m es) (x:Nat):(cN es x).length<=m:=fc m _ (g.Bs x) fun y hy=>(g.Jl (lg.mp hy)).2
def Good.perm {m:Nat}{es fs:List (Nat×Nat)}(p:fs.Perm es)(g:Good m es):Good m fs:=⟨fun e h=>g.lt e (p.mem_iff.mp h),p.nodup_iff.mpr g.nd⟩
def CA {m:Nat}{es fs:List (Nat×Nat)}(p:fs.Perm es)(h:iW m es):iW m fs:=u9 (nm:=id) h (fun x hx=>⟨x,hx,rfl⟩) fun a b h=>.inl (p.mem_iff.mpr h)
def sX (ms:List Nat)(e:Nat×Nat):Nat×Nat:=(min (ms.getD e.1 0) (ms.getD e.2 0),max (ms.getD e.1 0) (ms.getD e.2 0))
def getD_inj {ms:List Nat}(nd:ms.Nodup){a b:Nat}(ha:a < ms.length)(hb:b < ms.length)(e:ms.getD a 0=ms.getD b 0):a=b:=by
 rw [List.getD_eq_getElem?_getD,List.getD_eq_getElem?_getD,OQ ha,OQ hb] at e;have e':ms[a]=ms[b]:=e;rcases Nat.lt_trichotomy a b with l | l | l
 ·exact absurd e' (List.pairwise_iff_getElem.mp nd a b ha hb l)
 ·exact l
 ·exact absurd e'.symm (List.pairwise_iff_getElem.mp nd b a hb ha l)
def Am {m:Nat}{ps:List (Nat×Nat)}{ms:List Nat}(pm:ms.Perm (List.range m))(g:Good m ps):Good m (ps.map (sX ms)):=by
 have nd:ms.Nodup:=pm.nodup_iff.mpr List.nodup_range;have ln:ms.length=m:=by rw [pm.length_eq,OP]
 have lt:∀ a,a < m->ms.getD a 0 < m:=fun a ha=>by
  have h:a < ms.length:=by omega
  rw [List.getD_eq_getElem?_getD,OQ h];exact List.mem_range.mp (pm.mem_iff.mp (List.getElem_mem h))
 refine ⟨fun e he=>?_,?_⟩
 ·obtain ⟨⟨a,b⟩,hp,rfl⟩:=OI.mp he;have h:a < b/\b < m:=g.lt _ hp;have h1:=lt a (by omega)
  have h2:=lt b (by omega)
  have ne:ms.getD a 0≠ms.getD b 0:=fun e=>by
   have:=getD_inj nd (by omega) (by omega) e
   omega
  show min (ms.getD a 0) (ms.getD b 0) < max (ms.getD a 0) (ms.getD b 0)/\max (ms.getD a 0) (ms.getD b 0) < m;omega
 ·refine List.Pairwise.map _ ?_ (List.Pairwise.imp_of_mem (S:=fun x y=>x≠y/\(x.1 < x.2/\x.2 < m)/\(y.1 < y.2/\y.2 < m)) (fun {a b} ha hb h=>⟨h,g.lt _ ha,g.lt _ hb⟩) g.nd)
  rintro ⟨a,b⟩ ⟨c,d⟩ ⟨ne,h1,h2⟩ e;have h1:a < b/\b < m:=h1;have h2:c < d/\d < m:=h2;have e1:min (ms.getD a 0) (ms.getD b 0)=min (ms.getD c 0) (ms.getD d 0):=congrArg Prod.fst e;have e2:max (ms.getD a 0) (ms.getD b 0)=max (ms.getD c 0) (ms.getD d 0):=congrArg Prod.snd e;have e3:(ms.getD a 0=ms.getD c 0/\ms.getD b 0=ms.getD d 0)\/(ms.getD a 0=ms.getD d 0/\ms.getD b 0=ms.getD c 0):=by omega
  rcases e3 with ⟨p,q⟩ | ⟨p,q⟩
  ·have r1:=getD_inj nd (by omega) (by omega) p
   have r2:=getD_inj nd (by omega) (by omega) q
   subst r1;subst r2;exact ne rfl
  ·have r1:=getD_inj nd (by omega) (by omega) p
   have r2:=getD_inj nd (by omega) (by omega) q
   omega
def AE {m:Nat}{ps:List (Nat×Nat)}{ms:List Nat}(pm:ms.Perm (List.range m))(h:iW m ps):iW m (ps.map (sX ms)):=by
 refine u9 (nm:=fun a=>ms.getD a 0) h (fun x hx=>?_) fun a b he=>?_
 ·obtain ⟨i,hi⟩:=List.getElem?_of_mem (pm.mem_iff.mpr (List.mem_range.mpr hx));have li:=(List.getElem?_eq_some_iff.mp hi).1;rw [pm.length_eq,OP] at li;refine ⟨i,li,?_⟩;show ms.getD i 0=x;rw [List.getD_eq_getElem?_getD,hi];rfl
 ·have hm:sX ms (a,b)∈ps.map (sX ms):=OI.mpr ⟨_,he,rfl⟩;show cX _ (ms.getD a 0) (ms.getD b 0);have e:sX ms (a,b)=(min (ms.getD a 0) (ms.getD b 0),max (ms.getD a 0) (ms.getD b 0)):=rfl;rw [e] at hm;rcases Nat.le_total (ms.getD a 0) (ms.getD b 0) with l | l
  ·rw [Nat.min_eq_left l,Nat.max_eq_right l] at hm;exact .inl hm
  ·rw [Nat.min_eq_right l,Nat.max_eq_left l] at hm;exact .inr hm
def kZ:Nat->Nat
 | 0=>0
 | b + 1=>kZ b + b
def uN {a b:Nat}(h:a<=b):kZ a<=kZ b:=by
 induction b with
 | zero =>
  obtain rfl:a=0:=by omega
  exact O5 _
 | succ b ih =>
  by_cases c:a=b + 1
  ·rw [c];exact O5 _
  ·exact Nat.le_trans (ih (by omega)) (Nat.le_add_right _ _)
theorem yY:∀ m,2 * kZ m<=m * m
 | 0=>O5 _
 | m + 1=>by
  have:=yY m;show 2 * (kZ m + m)<=(m + 1) * (m + 1);rw [Nat.mul_add,Nat.add_mul,Nat.mul_add];omega
def ix (e:Nat×Nat):Nat:=kZ e.2 + e.1
def J2 {e f:Nat×Nat}(he:e.1 < e.2)(hf:f.1 < f.2)(h:ix e=ix f):e=f:=by
 obtain ⟨a,b⟩:=e;obtain ⟨c,d⟩:=f;unfold ix at h;dsimp only at he hf h;have key:∀ {a b c d:Nat},a < b->b < d->kZ b + a < kZ d + c:=fun {a b c d} h1 h2=>by
  have:=uN (a:=b + 1) (b:=d) (by omega)
  have e:kZ (b + 1)=kZ b + b:=rfl;omega
 rcases Nat.lt_trichotomy b d with l | l | l
 ·have:=key (c:=c) he l;omega
 ·subst l;rw [show a=c by omega]
 ·have:=key (c:=a) hf l;omega
def Eh {m:Nat}{ps:List (Nat×Nat)}(g:Good m ps):2 * ps.length<=m * m:=by
 have h:=fc (kZ m) (ps.map ix) ?_ ?_
 ·rw [O7] at h;have:=yY m;omega
 ·unfold List.Nodup;rw [List.pairwise_map];exact List.Pairwise.imp_of_mem (fun {e f} he hf ne h=>ne (J2 (g.lt e he).1 (g.lt f hf).1 h)) g.nd
 ·intro x hx;obtain ⟨e,he,rfl⟩:=OI.mp hx;have l:=g.lt e he;have:=uN (a:=e.2 + 1) (b:=m) (by omega)
  have e2:kZ (e.2 + 1)=kZ e.2 + e.2:=rfl;unfold ix;omega
end Gr
namespace PB
open PySem L2 Dv
def zL {α:Type}{m k:Nat}{f:Nat->α}{v:α}:((List.range m).map f).set k v=(List.range m).map fun i=>if i=k then v else f i:=by
 refine List.ext_getElem? fun j=>?_
 rw [List.getElem?_set,O7,OP,OG,OG]
 by_cases h:j < m
 ·rw [List.getElem?_range h]
  by_cases c:k=j
  ·subst c;rw [if_pos rfl,if_pos h];simp
  ·rw [if_neg c];simp [Ne.symm c]
 ·rw [List.getElem?_eq_none (by rw [OP];omega)]
  by_cases c:k=j
  ·subst c;rw [if_pos rfl,if_neg h];rfl
  ·rw [if_neg c];rfl
def Hw {α:Type}{m k:Nat}{f:Nat->α}(h:k < m):((List.range m).map f)[k]?=some (f k):=by rw [OG,List.getElem?_range h];rfl
def MZ (f:DM) (i n:Nat)(E1:En)(w:PyData)(Q:En->Kd->PyData->Prop):Prop:=∃ a p ds m es k d E2,w=.int a/\E1[i]?=some (some (.dp p,.list ds))/\kC ds.length a=some m/\ds[m]?=some (.list es)/\E1[n]?=some (some (k,d))/\i≠n/\cg E1 n=some E2/\f es [d] fun new v=>Q (E2.set i (some (.dp p,.list (ds.set m (.list new))))) .sh v
def qt {f:DM}{i n:Nat}{j:DE}{x:XC}{o:Option (Kd×PyData)}{E:En}{Q:En->Kd->PyData->Prop}:qd f i j n x (o::E) Q=(here (o::E) i=true/\j x (o::E) fun E1 _ w=>MZ f i n E1 w Q):=rfl
def qX {i n a m:Nat}{p:Bool}{E:En}{g:Nat->List PyData}{d:PyData}{Q:En->Kd->PyData->Prop}(h1:E[i]?=some (some (.dp p,.list ((List.range m).map fun i=>.list (g i)))))(h2:E[n]?=some (some (.sh,d)))(ne:i≠n)(ha:a < m)(hs:(g a).length < 16777216)(q:Q (E.set i (some (.dp p,.list ((List.range m).map fun k=>.list (if k=a then g k++[d] else g k))))) .sh .none):MZ dB i n E (iD a) Q:=by
 refine ⟨a,p,_,a,g a,.sh,d,E,rfl,h1,?_,Hw ha,h2,ne,?_,?_⟩
 ·rw [O7,OP];exact A7 ha
 ·have:=uw (E:=E) (is:=[n]) (by simp [kN,h2])
  unfold cG at this;cases e:cg E n with
  | none=>rw [e] at this;cases this
  | some E2=>rw [e] at this;exact this
 ·refine ⟨hs,?_⟩;show Q (E.set i (some (.dp p,.list (((List.range m).map fun i=>PyData.list (g i)).set a (.list (g a++[d])))))) .sh .none
  rw [zL];have e:((List.range m).map fun k=>if k=a then PyData.list (g a++[d]) else .list (g k))=(List.range m).map fun k=>PyData.list (if k=a then g k++[d] else g k):=by
   refine List.map_congr_left fun k _=>?_
   by_cases c:k=a
   ·rw [if_pos c,if_pos c,c]
   ·rw [if_neg c,if_neg c]
  rw [e];exact q
abbrev tB (m:Nat)(es:List (Nat×Nat)):PyData:=.list ((List.range m).map fun i=>nD (Gr.cN es i))
def vL:bC:=fun ds Q x=>∃ m es,ds=[wD m es]/\m<=60/\Gr.Good m es/\Q [] (.dp false) (tB m es)
def K2:∀ ds Q x,vL ds Q x->fJ (aW [false] Q x) (ini [false] ds++List.replicate 6 none):=by
 rintro _ Q x ⟨m,es,rfl,hm,gd,q⟩;unfold fJ;and_intros;rw [if_pos (by omega)]
 refine bN rfl (Di (fun _=>PyData.list []) rfl (fun a ha I hI=>?_) ?_ (by rw [OP];omega))
 ·and_intros;exact ⟨by omega,⟨false,rfl⟩,hI _ rfl⟩
 ·and_intros;refine kh (fun i E=>∃ o4 o5:Option (Kd×PyData),E=[some (.sh,wD m es),some (.sh,iD m),some (.sh,.tuple (es.map gk)),some (.dp false,tB m (es.take i)),o4,o5,none]/\bS o4=true/\bS o5=true) ⟨none,none,rfl,rfl,rfl⟩ ?_ ?_
  ·rintro i ⟨a,b⟩ _ hi ⟨o4,o5,rfl,ho4,ho5⟩;have hab:=gd.lt _ (OO hi);have hab:a < b/\b < m:=hab;simp only [dv,dw,dx,dy,dz,Nat.reduceBEq,ho4,ho5,qt];have hn:∀ k,(Gr.cN (es.take i) k).length < 1000:=fun k=>by
    have g2:Gr.Good m (es.take i):=⟨fun e he=>gd.lt e (List.mem_of_mem_take he),List.Sublist.nodup (List.take_sublist _ _) gd.nd⟩
    have:=g2.sE k;omega
   refine qX (g:=fun k=>(Gr.cN (es.take i) k).map iD) rfl rfl (by omega) (by omega) (by rw [O7];have:=hn a;omega) ?_
   simp only [dv,dw,dx,dy,dz,Nat.reduceBEq,ho4,ho5,qt];refine qX (g:=fun k=>if k=a then (Gr.cN (es.take i) k).map iD++[iD b] else (Gr.cN (es.take i) k).map iD) rfl rfl (by omega) (by omega) (by rw [if_neg (by omega),O7];have:=hn b;omega) ?_
   refine ⟨some (.sh,iD a),some (.sh,iD b),?_,rfl,rfl⟩;simp only [List.set_cons_succ,List.set_cons_zero];have e:∀ k,(if k=b then (if k=a then (Gr.cN (es.take i) k).map iD++[iD b] else (Gr.cN (es.take i) k).map iD)++[iD a] else if k=a then (Gr.cN (es.take i) k).map iD++[iD b] else (Gr.cN (es.take i) k).map iD)=(Gr.cN (es.take (i + 1)) k).map iD:=fun k=>by
    rw [take_snoc hi,Gr.yM,List.map_append];unfold Gr.cN;rw [List.filterMap_cons,List.filterMap_nil];unfold Gr.nb;simp only
    by_cases c:k=a
    ·subst c;rw [if_neg (by omega),if_pos rfl,if_pos rfl]
     rfl
    ·by_cases c2:k=b
     ·subst c2;rw [if_pos rfl,if_neg c,if_neg (Ne.symm c),if_pos rfl];rfl
     ·rw [if_neg c2,if_neg c,if_neg (Ne.symm c),if_neg (Ne.symm c2)];exact (List.append_nil _).symm
   rw [List.map_congr_left fun k _=>congrArg PyData.list (e k)]
  ·rintro _ ⟨o4,o5,rfl,ho4,ho5⟩;rw [List.take_length];and_intros;exact q
open Classical in
noncomputable def oQ (es:List (Nat×Nat)) (p x:Nat):Option Nat:=if ∃ d,Gr.R (Gr.cX es) p d x then some (Gr.dst (Gr.cX es) p x) else none
def oD:Option Nat->PyData
 | none=>.none
 | some n=>iD n
abbrev qA (f:Nat->Option Nat) (m:Nat):PyData:=.list ((List.range m).map fun x=>oD (f x))
def BU {f:Nat->Option Nat}{m y d:Nat}:(((List.range m).map fun x=>oD (f x)).set y (iD d))=(List.range m).map fun x=>oD (if x=y then some d else f x):=by
 rw [zL];refine List.map_congr_left fun k _=>?_
 by_cases c:k=y
 ·rw [if_pos c,if_pos c];rfl
 ·rw [if_neg c,if_neg c]
def KZ {m p r:Nat}{es:List (Nat×Nat)}{f:Nat->Option Nat}(B:Gr.jJ (Gr.cX es) p r f []) (x:Nat):f x=oQ es p x:=by
 unfold oQ;split
 ·rename_i h;obtain ⟨d,h⟩:=h;exact B.val h
 ·rename_i h;cases e:f x with
  | none=>rfl
  | some d=>exact absurd ⟨d,(B.sound x d e).1⟩ h
def EA {m p x:Nat}{es:List (Nat×Nat)}(cn:Gr.iW m es)(hp:p < m)(hx:x < m):oQ es p x=some (Gr.dst (Gr.cX es) p x):=if_pos (cn p hp x hx)
def vZ:bC:=fun ds Q x=>∃ m es p,ds=[wD m es,iD p]/\m<=60/\Gr.Good m es/\p < m/\Q [] (.ow false) (qA (oQ es p) m)
def Lr {o:Option Nat}{P:Kd->PyData->Prop}:dR false [oD o,.none] P=P .sh (.bool o.isNone):=by
 cases o <;> simp [oD,dR,dx]
def Ms {o:Option Nat}:lf (oD o)=true:=by cases o <;> rfl
def zc {l:List Nat}{y:Nat}:nD (l++[y])=.list (l.map iD++[iD y]):=by
 show PyData.list ((l++[y]).map iD)=_;rw [List.map_append];rfl
def J6:∀ ds Q x,vZ ds Q x->ig vL (aW [false,false] Q x) (ini [false,false] ds++List.replicate 6 none):=by
 rintro _ Q x ⟨m,es,p,rfl,hm,gd,hp,q⟩;unfold ig;and_intros;refine ⟨m,es,rfl,hm,gd,?_⟩;and_intros;have e0:(List.replicate m [PyData.none]).flatten=(List.range m).map fun _=>PyData.none:=by
  clear q hp gd hm
  induction m with
  | zero=>rfl
  | succ k ih=>rw [List.replicate_succ',List.flatten_append,ih,List.range_succ,List.map_append];rfl
 rw [e0];refine ⟨by omega,⟨by omega,by omega,by omega⟩,sr (by rw [O7,OP];exact hp) ?_⟩
 rw [show PyData.int 0=iD 0 from rfl,show ((List.range m).map fun _=>PyData.none)=(List.range m).map fun x=>oD ((fun _=>none:Nat->Option Nat) x) from rfl,BU]
 refine ⟨by omega,?_⟩
 refine ⟨fun n E=>∃ (r:Nat)(g:Nat->Option Nat)(ed:List Nat)(k2 k4:Kd)(o5 o6 o7:Option (Kd×PyData)),E=[some (.sh,wD m es),some (.sh,iD p),some (k2,tB m es),some (.ow false,qA g m),some (k4,nD ed),o5,o6,o7]/\(k2=.dp false\/k2=.sh)/\(k4=.ow false\/k4=.sh)/\bS o5=true/\bS o6=true/\bS o7=true/\n=2 * Gr.cnt g m + (if ed=[] then 0 else 1)/\Gr.jJ (Gr.cX es) p r g ed/\∀ x∈ed,x < m,?_,?_⟩
 ·exact ⟨_,0,_,[p],_,_,none,none,none,rfl,.inl rfl,.inl rfl,rfl,rfl,rfl,rfl,Gr.jJ.start,fun x hx=>by rw [O8.mp hx];exact hp⟩
 rintro n _ ⟨r,g,ed,k2,k4,o5,o6,o7,rfl,hk2,hk4,ho5,ho6,ho7,rfl,B,edm⟩;simp only [dv,dw,dx,dy,dz,Nat.reduceBEq,List.isEmpty_map];refine ⟨by rcases hk4 with rfl | rfl <;> rfl,?_⟩
 cases ed with
 | nil =>
  simp only [dv,dw,dx,dy,dz,Nat.reduceBEq,List.isEmpty_nil];have e:qA g m=qA (oQ es p) m:=congrArg PyData.list (List.map_congr_left fun x _=>congrArg oD (KZ (m:=m) B x))
  rw [e];exact q
 | cons e0 er =>
  simp only [dv,dw,dx,dy,dz,Nat.reduceBEq,List.isEmpty_cons,ho5];have f4:k4.fz=true:=by rcases hk4 with rfl | rfl <;> rfl
  rw [if_pos f4];refine ⟨by omega,bN rfl ?_⟩
  have ne:e0::er≠[]:=List.cons_ne_nil _ _;generalize e0::er=ed at B edm ne ⊢;have hE2:∀ (k2:Kd),(k2=.dp false\/k2=.sh)->k2.rd=true/\k2.fz=true:=fun k h=>by rcases h with rfl | rfl <;> exact ⟨rfl,rfl⟩
  refine kh (fun i E=>∃ (g':Nat->Option Nat)(rc:List Nat)(k2:Kd)(o6 o7:Option (Kd×PyData)),E=[some (.sh,wD m es),some (.sh,iD p),some (k2,tB m es),some (.ow false,qA g' m),some (.sh,nD ed),some (.ow false,nD rc),o6,o7]/\(k2=.dp false\/k2=.sh)/\bS o6=true/\bS o7=true/\Gr.dZ (Gr.cX es) r g ed g' rc/\(∀ j h,j < i->ed[j]?=some h->∀ x,Gr.cX es h x->g' x≠none)/\rc.Nodup/\∀ x∈rc,x < m) ⟨g,[],k2,o6,o7,rfl,hk2,ho6,ho7,.start,fun j h hj=>by omega,List.nodup_nil,fun _ h=>absurd h OW⟩ ?_ ?_
  ·rintro i h _ hi ⟨g',rc,k2,o6,o7,rfl,hk2,ho6,ho7,BI,don,rcn,rcm⟩;have mh:h∈ed:=OO hi;have hm':=edm h mh;obtain ⟨rd2,fz2⟩:=hE2 k2 hk2;simp only [dv,dw,dx,dy,dz,Nat.reduceBEq,ho6,rd2];rw [List.getElem?_range hm'];refine bN rfl ?_;simp only [dv,dw,dx,dy,dz,Nat.reduceBEq,fz2];have loop:∀ k2,(k2=.dp false\/k2=.sh)->yC (List.map iD (Gr.cN es h)) (Tg.nm 7) (dQ (cK (aa (dR false) [Arg.ev (aa aA [Arg.pk 3,Arg.pk 7]),Arg.ev (dC PyData.none)])) (av (f7 3 (aT 7) (aa c9 [Arg.ev (aa aA [Arg.pk 3,Arg.pk 6]),Arg.ev (dC (PyData.int 1))])) (d9 (oY dB 5 [aT 7]))) eO)
    { nx:=fun E=>∃ (g':Nat->Option Nat)(rc:List Nat)(k2:Kd)(o6 o7:Option (Kd×PyData)),E=[some (.sh,wD m es),some (.sh,iD p),some (k2,tB m es),some (.ow false,qA g' m),some (.sh,nD ed),some (.ow false,nD rc),o6,o7]/\(k2=.dp false\/k2=.sh)/\bS o6=true/\bS o7=true/\Gr.dZ (Gr.cX es) r g ed g' rc/\(∀ j h,j < i + 1->ed[j]?=some h->∀ x,Gr.cX es h x->g' x≠none)/\rc.Nodup/\∀ x∈rc,x < m,rt:=(aW [false,false] Q x).rt,xc:=x }
    [some (.sh,wD m es),some (.sh,iD p),some (k2,tB m es),some (.ow false,qA g' m),some (.sh,nD ed),some (.ow false,nD rc),some (.sh,iD h),o7]:=by
    intro k2 hk2;refine kh (fun i' E=>∃ (g':Nat->Option Nat)(rc:List Nat)(o7:Option (Kd×PyData)),E=[some (.sh,wD m es),some (.sh,iD p),some (k2,tB m es),some (.ow false,qA g' m),some (.sh,nD ed),some (.ow false,nD rc),some (.sh,iD h),o7]/\bS o7=true/\Gr.dZ (Gr.cX es) r g ed g' rc/\(∀ j h,j < i->ed[j]?=some h->∀ x,Gr.cX es h x->g' x≠none)/\(∀ j y,j < i'->(Gr.cN es h)[j]?=some y->g' y≠none)/\rc.Nodup/\∀ x∈rc,x < m) ⟨g',rc,o7,rfl,ho7,BI,don,fun j y hj=>by omega,rcn,rcm⟩ ?_ ?_
    ·rintro i' y _ hy ⟨g',rc,o7,rfl,ho7,BI,don,dni,rcn,rcm⟩;have hyE:Gr.cX es h y:=Gr.lg.mp (OO hy);have ym:y < m:=(gd.Jl hyE).2;have eh:=BI.at B mh;simp only [dv,dw,dx,dy,dz,Nat.reduceBEq,ho7,List.getElem?_range ym,List.getElem?_range hm',Ms,Lr];cases gy:g' y with
     | some d =>
      simp only [dw,Option.isNone_some];refine ⟨g',rc,some (.sh,iD y),rfl,rfl,BI,don,fun j z hj hz=>?_,rcn,rcm⟩
      by_cases c:j=i'
      ·subst c;rw [hy] at hz;cases hz;rw [gy];simp
      ·exact dni j z (by omega) hz
     | none =>
      have e1:oD (some r)=iD r:=rfl;have e2:(r:Int) + 1=((r + 1:Nat):Int):=rfl;simp only [dv,dw,dx,dy,dz,Nat.reduceBEq,Option.isNone_none,eh,e1,e2];have yrc:y∉rc:=fun h'=>by
       have:=((BI.got y).mp h').2;rw [gy] at this;cases this
      have rcl:=Gr.fc m rc rcn rcm;refine sr ym ⟨by omega,_,rc++[y],some (.sh,iD y),?_,rfl,BI.put mh hyE gy,fun j h' hj he x hx=>?_,fun j z hj hz=>?_,?_,fun x hx=>?_⟩
      ·rw [BU,zc]
      ·show (if x=y then some (r + 1) else g' x)≠none
       split
       ·exact fun h=>(nomatch h)
       ·exact don j h' hj he x hx
      ·show (if z=y then some (r + 1) else g' z)≠none
       split
       ·exact fun h=>(nomatch h)
       ·rename_i c
        by_cases c2:j=i'
        ·subst c2;rw [hy] at hz;cases hz;exact absurd rfl c
        ·exact dni j z (by omega) hz
      ·exact List.nodup_append.mpr ⟨rcn,List.nodup_cons.mpr ⟨OW,List.nodup_nil⟩,fun a ha b hb e=>by
        cases O8.mp hb;exact yrc (e ▸ ha)⟩
      ·rcases OT.mp hx with h' | h'
       ·exact rcm x h'
       ·rw [O8.mp h'];exact ym
    ·rintro _ ⟨g',rc,o7,rfl,ho7,BI,don,dni,rcn,rcm⟩;refine ⟨g',rc,k2,_,o7,rfl,hk2,rfl,ho7,BI,fun j h' hj hh x hx=>?_,rcn,rcm⟩
     by_cases c:j=i
     ·subst c;rw [hi] at hh;cases hh;obtain ⟨l,hl⟩:=List.mem_iff_getElem?.mp (Gr.lg.mpr hx);exact dni l x (bw hl) hl
     ·exact don j h' (by omega) hh x hx
   split
   ·exact bN rfl (loop _ hk2)
   ·exact bN rfl (loop _ (.inr rfl))
  ·rintro _ ⟨g',rc,k2,o6,o7,rfl,hk2,ho6,ho7,BI,don,rcn,rcm⟩;and_intros;have all:∀ h,h∈ed->∀ x,Gr.cX es h x->g' x≠none:=fun h hh=>by
    obtain ⟨j,hj⟩:=List.mem_iff_getElem?.mp hh;exact don j h (bw hj) hj
   refine ⟨_,?_,r + 1,g',rc,k2,.sh,some (.sh,nD rc),o6,o7,rfl,hk2,.inr rfl,rfl,ho6,ho7,rfl,B.next BI all,rcm⟩;rw [if_neg ne];cases rc with
   | nil =>
    have:=Gr.qx (f:=g) (g:=g') (fun x h=>BI.none h) m
    rw [if_pos rfl];omega
   | cons y rc =>
    obtain ⟨h1,h2⟩:=(BI.got y).mp (N9 ..);have:=Gr.uR (f:=g) (g:=g') (fun x h=>BI.none h) h1 (by rw [h2];exact fun h=>(nomatch h)) m (rcm y (N9 ..))
    rw [if_neg (List.cons_ne_nil _ _)];omega
structure eE (m:Nat)(es:List (Nat×Nat)):Prop where
 pos:1<=m
 le:m<=60
 gd:Gr.Good m es
 cn:Gr.iW m es
def eE.few {m:Nat}{es:List (Nat×Nat)}(W:eE m es):es.length<=1800:=by
 have h:=Gr.Eh W.gd;have:=Nat.mul_le_mul W.le W.le;omega
noncomputable abbrev aD (es:List (Nat×Nat)) (p x:Nat):Nat:=Gr.dst (Gr.cX es) p x
noncomputable abbrev zC (m:Nat)(es:List (Nat×Nat)) (p:Nat):PyData:=.list ((List.range m).map fun x=>iD (aD es p x))
def Jh {m p:Nat}{es:List (Nat×Nat)}(cn:Gr.iW m es)(hp:p < m):qA (oQ es p) m=zC m es p:=congrArg PyData.list (List.map_congr_left fun x hx=>by rw [EA cn hp (List.mem_range.mp hx)];rfl)
def xr:bC:=fun ds Q x=>∃ m es,∃ p:Int,ds=[wD m es,.int p]/\(0<=p/\p < m->Q [] .sh .none)/\(¬ (0<=p/\p < m)->x "NoPlace" .none)
def IT:∀ ds Q x,xr ds Q x->fH (aW [false,false] Q x) (ini [false,false] ds++List.replicate 0 none):=by
 rintro _ Q x ⟨m,es,p,rfl,q,r⟩;unfold fH;and_intros;split
 ·rename_i h;split
  ·rename_i h2;exact r fun z=>h2 z.2
  ·rename_i h2;exact q ⟨h,Decidable.of_not_not h2⟩
 ·rename_i h;exact r fun z=>h z.1
def wF:bC:=fun ds Q x=>∃ m es,∃ p:Int,ds=[wD m es,.int p]/\eE m es/\(∀ k:Nat,p=k->k < m->Q [] (.ow false) (zC m es k))/\(¬ (0<=p/\p < m)->x "NoPlace" .none)
def K6:∀ ds Q x,wF ds Q x->kP xr vZ (aW [false,false] Q x) (ini [false,false] ds++List.replicate 0 none):=by
 rintro _ Q x ⟨m,es,p,rfl,W,q,r⟩;unfold kP;and_intros;refine ⟨m,es,p,rfl,fun hp=>?_,r⟩
 and_intros;obtain ⟨k,rfl⟩:=Int.eq_ofNat_of_zero_le hp.1;have hk:k < m:=by omega
 refine ⟨m,es,k,rfl,W.le,W.gd,hk,?_⟩;and_intros;rw [Jh W.cn hk];exact q k rfl hk
abbrev Th:=Nat ⊕ (Nat×Nat)
def aV:Th->PyData
 | .inl x=>iD x
 | .inr e=>gk e
def TV (m:Nat):Th->Prop
 | .inl x=>x < m
 | .inr e=>e.1 < m/\e.2 < m
noncomputable def td (es:List (Nat×Nat)) (p:Nat):Th->Nat
 | .inl x=>aD es p x
 | .inr e=>min (aD es p e.1) (aD es p e.2)
def nh {t:Th}:lf (aV t)=true:=by cases t <;> rfl
def yI {a b:Th}:aV a=aV b↔a=b:=by
 refine ⟨fun h=>?_,fun h=>by rw [h]⟩
 cases a <;> cases b
 ·exact congrArg _ (q9.mp h)
 ·cases h
 ·cases h
 ·exact congrArg _ (Hv.mp h)
def wL:bC:=fun ds Q x=>∃ m es p,∃ e:Nat×Nat,ds=[zC m es p,gk e]/\e.1 < m/\e.2 < m/\Q [] .sh (iD (td es p (.inr e)))
def JJ:∀ ds Q x,wL ds Q x->j6 (aW [false,false] Q x) (ini [false,false] ds++List.replicate 0 none):=by
 rintro _ Q x ⟨m,es,p,e,rfl,h1,h2,q⟩;unfold j6;simp only [dv,dw,dx,dy,dz,Nat.reduceBEq,List.getElem?_range h1,List.getElem?_range h2];exact q
def vE:bC:=fun ds Q x=>∃ m es p t,ds=[zC m es p,aV t]/\TV m t/\Q [] .sh (iD (td es p t))
def JF:∀ ds Q x,vE ds Q x->kE wL (aW [false,false] Q x) (ini [false,false] ds++List.replicate 0 none):=by
 rintro _ Q x ⟨m,es,p,t,rfl,h,q⟩;unfold kE;cases t with
 | inl k =>
  have h:k < m:=h;simp only [aV,dv,dw,dx,dy,dz,Nat.reduceBEq,List.getElem?_range h];exact q
 | inr e =>
  simp only [aV,dv,dw,dx,dy,dz,Nat.reduceBEq];refine ⟨m,es,p,e,rfl,h.1,h.2,?_⟩;and_intros;exact q
def bB (k:Str) (m:Nat)(es:List (Nat×Nat)):List Th:=(if k="ties" then [] else (List.range m).map Sum.inl)++(if k="places" then [] else es.map Sum.inr)
def vt {k:Str}{m:Nat}{es:List (Nat×Nat)}(g:Gr.Good m es):∀ t∈bB k m es,TV m t:=by
 intro t ht;rcases OT.mp ht with h | h
 ·split at h
  ·cases h
  ·obtain ⟨x,hx,rfl⟩:=OI.mp h;exact List.mem_range.mp hx
 ·split at h
  ·cases h
  ·obtain ⟨e,he,rfl⟩:=OI.mp h;have:=g.lt e he;exact ⟨by show e.1 < m;omega,this.2⟩
def tP {k:Str}{m:Nat}{es:List (Nat×Nat)}(W:eE m es):(bB k m es).length<=1860:=by
 unfold bB;have:=W.few;have:=W.le;rw [OR];split <;> split <;> simp <;> omega
def wX:bC:=fun ds Q x=>∃ m es k,ds=[wD m es,.str k]/\eE m es/\Q [] (.ow false) (.list ((bB k m es).map aV))
def J4:∀ ds Q x,wX ds Q x->kW (aW [false,false] Q x) (ini [false,false] ds++List.replicate 4 none):=by
 rintro _ Q x ⟨m,es,k,rfl,W,q⟩;have e:(bB k m es).map aV=(if k="ties" then [] else (List.range m).map iD)++(if k="places" then [] else es.map gk):=by
  unfold bB;rw [List.map_append];congr 1
  ·split
   ·rfl
   ·rw [List.map_map];rfl
  ·split
   ·rfl
   ·rw [List.map_map];rfl
 have hm:=W.le;have hf:=W.few;unfold kW;and_intros;rw [e] at q
 by_cases c1:k="ties"
 ·by_cases c2:k="places"
  ·subst c1;exact absurd c2 (by decide)
  ·simp only [if_pos c1,if_neg c2,dv,dw,dx,dy,dz,Nat.reduceBEq] at q ⊢;exact ⟨by omega,by omega,q⟩
 ·by_cases c2:k="places"
  ·simp only [if_neg c1,if_pos c2,dv,dw,dx,dy,dz,Nat.reduceBEq,List.append_nil] at q ⊢;exact ⟨⟨by omega,by omega⟩,by omega,by omega,q⟩
  ·simp only [if_neg c1,if_neg c2,dv,dw,dx,dy,dz,Nat.reduceBEq] at q ⊢;exact ⟨⟨by omega,by omega⟩,by omega,q⟩
def rising (l:List Nat):Prop:=l.Pairwise (· < ·)
def rq {l:List Nat}{m:Nat}(h:rising l)(lt:∀ x∈l,x < m):l.length<=m:=Gr.fc m l (h.imp fun h=>OD h) lt
structure cZ (m:Nat)(ls:List Nat):Prop where
 up:rising ls
 lt:∀ l∈ls,l < m
def cZ.len {m:Nat}{ls:List Nat}(h:cZ m ls):ls.length<=m:=rq h.up h.lt
def fT (m:Nat) (last:Int):List Int->Bool
 | []=>true
 | l::ls=>decide (last < l) && decide (l < m) && fT m l ls
def vB:bC:=fun ds Q x=>∃ m es,∃ ls:List Int,ds=[wD m es,.list (ls.map .int)]/\Q [] .sh (.bool (fT m (-1) ls))
def KR:∀ ds Q x,vB ds Q x->kM (aW [false,false] Q x) (ini [false,false] ds++List.replicate 2 none):=by
 rintro _ Q x ⟨m,es,ls,rfl,q⟩;unfold kM;and_intros;refine kh (fun i E=>∃ (last:Int)(o:Option (Kd×PyData)),E=[some (.sh,wD m es),some (.sh,.list (ls.map .int)),some (.sh,.int last),o]/\bS o=true/\fT m (-1) ls=fT m last (ls.drop i)) ⟨-1,none,rfl,rfl,rfl⟩ ?_ ?_
 ·rintro i l _ hi ⟨last,o,rfl,ho,e⟩;have hd:ls.drop i=l::ls.drop (i + 1):=by
   rw [List.drop_eq_getElem_cons (bw hi)];rw [OQ (bw hi)] at hi;rw [Option.some.inj hi]
  rw [hd,fT] at e;simp only [dv,dw,dx,dy,dz,Nat.reduceBEq,ho];split
  ·rename_i h1;split
   ·rename_i h2;rw [e,decide_eq_false h2,Bool.and_false,Bool.false_and] at q;exact q
   ·rename_i h2;refine ⟨l,_,rfl,rfl,?_⟩;rw [e,decide_eq_true h1,decide_eq_true (Decidable.of_not_not h2),Bool.true_and,Bool.true_and]
  ·rename_i h1;rw [e,decide_eq_false h1,Bool.false_and,Bool.false_and] at q;exact q
 ·rintro _ ⟨last,o,rfl,ho,e⟩;rw [List.drop_length,fT] at e;rw [e] at q;and_intros;exact q
theorem tw {m:Nat}:∀ {ls:List Nat}{last:Int},fT m last (ls.map fun n:Nat=>(n:Int))=true↔(ls.Pairwise (· < ·)/\(∀ l∈ls,l < m)/\∀ l∈ls,last < (l:Int))
 | [],last=>by simp [fT]
 | a::ls,last=>by
  rw [OM,fT,OA,OA,decide_eq_true_eq,decide_eq_true_eq,tw,List.pairwise_cons];constructor
  ·rintro ⟨⟨h1,h2⟩,h3,h4,h5⟩;refine ⟨⟨fun b hb=>by have:=h5 b hb;omega,h3⟩,fun l hl=>?_,fun l hl=>?_⟩
   ·rcases O9.mp hl with rfl | hl
    ·omega
    ·exact h4 l hl
   ·rcases O9.mp hl with rfl | hl
    ·exact h1
    ·have:=h5 l hl;omega
  ·rintro ⟨⟨h1,h2⟩,h3,h4⟩;have:=h3 a N9;exact ⟨⟨h4 a N9,by omega⟩,h2,fun l hl=>h3 l (O6 _ hl),fun l hl=>by have:=h1 l hl;omega⟩
def Ab {m:Nat}{ls:List Nat}(h:cZ m ls):fT m (-1) (ls.map fun n:Nat=>(n:Int))=true:=tw.mpr ⟨h.up,h.lt,fun l _=>by omega⟩
def HU {ls:List Nat}:nD ls=.list ((ls.map fun n:Nat=>(n:Int)).map .int):=by
 show PyData.list _=_;rw [List.map_map];rfl
def sA:bC:=fun ds Q x=>∃ m es,∃ ls:List Int,ds=[wD m es,.list (ls.map .int)]/\(fT m (-1) ls=true->Q [] .sh .none)/\(fT m (-1) ls=false->x "NoLooks" .none)
def Jt:∀ ds Q x,sA ds Q x->d8 vB (aW [false,false] Q x) (ini [false,false] ds++List.replicate 0 none):=by
 rintro _ Q x ⟨m,es,ls,rfl,q,r⟩;unfold d8;and_intros;refine ⟨m,es,ls,rfl,?_⟩;and_intros;split
 ·rename_i h;exact r h
 ·rename_i h;exact q (by simpa using h)
def K0 {m:Nat}{es:List (Nat×Nat)}{ls:List Nat}{Q:List PyData->Kd->PyData->Prop}{x:XC}(h:cZ m ls)(q:Q [] .sh .none):sA [wD m es,nD ls] Q x:=⟨m,es,ls.map fun n:Nat=>(n:Int),by rw [HU],fun _=>q,fun z=>by rw [Ab h] at z;cases z⟩
noncomputable def aG (es:List (Nat×Nat))(ls:List Nat)(t:Th):List Nat:=ls.map fun p=>td es p t
def wu:bC:=fun ds Q x=>∃ m es ls,∃ ts:List Th,ds=[wD m es,nD ls,.list (ts.map aV)]/\eE m es/\(∀ p∈ls,p < m)/\ls.length<=1000/\(∀ t∈ts,TV m t)/\ts.length<=1860/\Q [] (.ow false) (.list (ts.map fun t=>nD (aG es ls t)))
def IP:∀ ds Q x,wu ds Q x->mC wF vE (aW [false,false,false] Q x) (ini [false,false,false] ds++List.replicate 3 none):=by
 rintro _ Q x ⟨m,es,ls,ts,rfl,W,hl,fl,ht,ft,q⟩;unfold mC;and_intros;refine iM (fun p=>zC m es p) rfl (fun p hp I hI=>?_) ?_ (by omega)
 ·and_intros;refine ⟨m,es,p,rfl,W,fun k e hk=>?_,fun z=>absurd ⟨by omega,by have:=hl p hp;omega⟩ z⟩
  have e:p=k:=by omega
  subst e;and_intros;exact hI _ rfl
 ·and_intros;refine yX (fun E=>∃ k:Kd,E=[some (.sh,wD m es),some (.sh,nD ls),some (.sh,.list (ts.map aV)),some (k,.list (ls.map fun p=>zC m es p)),none,none]/\k.fz=true) (fun t=>nD (aG es ls t)) rfl ⟨_,rfl,rfl⟩ ?_ ?_ (by omega)
  ·rintro t hti _ ⟨k,rfl,hk⟩ I hI;simp only [dv,dw,dx,dy,dz,Nat.reduceBEq,hk];refine iM (fun p=>iD (td es p t)) rfl (fun p hp I2 hI2=>?_) ?_ (by omega)
   ·and_intros;refine ⟨m,es,p,t,rfl,ht t hti,?_⟩;and_intros;exact hI2 _ rfl
   ·and_intros;have e:nD (aG es ls t)=.list (ls.map fun p=>iD (td es p t)):=by
     unfold aG;show PyData.list _=_;rw [List.map_map];rfl
    rw [e] at hI;exact hI _ _ rfl ⟨.sh,rfl,rfl⟩
  ·rintro _ ⟨k,rfl,hk⟩;and_intros;exact q
theorem jE {α:Type}{f:α->PyData}{p:α->Bool}:∀ {l:List α},(l.filterMap fun t=>if p t=true then some (f t) else none)=(l.filter p).map f
 | []=>rfl
 | a::l=>by
  rw [List.filterMap_cons,List.filter_cons];cases h:p a with
  | true=>simp only [if_true];rw [jE];rfl
  | false=>simp only [if_neg (ON)];exact jE
end PB
namespace Gr
noncomputable abbrev ds (es:List (Nat×Nat)) (p x:Nat):Nat:=dst (cX es) p x
section
variable {m:Nat}{es:List (Nat×Nat)}
end
end Gr
namespace PB
open PySem L2 Dv Gr
theorem sP:∀ {l k:List Nat},l.Perm k->l.Pairwise (·<=·)->k.Pairwise (·<=·)->l=k
 | [],k,p,_,_=>(List.Perm.nil_eq p)
 | a::l,[],p,_,_=>by have:=p.length_eq;simp at this
 | a::l,b::k,p,h1,h2=>by
  have ha:a∈b::k:=p.mem_iff.mp N9;have hb:b∈a::l:=p.mem_iff.mpr N9;have e:a=b:=by
   have l1:b<=a:=by
    rcases O9.mp ha with z | z
    ·omega
    ·exact (List.pairwise_cons.mp h2).1 a z
   have l2:a<=b:=by
    rcases O9.mp hb with z | z
    ·omega
    ·exact (List.pairwise_cons.mp h1).1 b z
   omega
  subst e;rw [sP (List.perm_cons a |>.mp p) (List.pairwise_cons.mp h1).2 (List.pairwise_cons.mp h2).2]
def w4:bC:=fun dd Q x=>∃ m es,dd=[wD m es]/\1<=m/\Q [] .sh (.bool (decide (es.length + 1=m)))
def Ln:∀ dd Q x,w4 dd Q x->nF (aW [false] Q x) (ini [false] dd++List.replicate 2 none):=by
 rintro _ Q x ⟨m,es,rfl,hm,q⟩;unfold nF;and_intros;have e:decide ((es.length:Int)=(m:Int) - 1)=decide (es.length + 1=m):=by
  by_cases c:es.length + 1=m
  ·rw [decide_eq_true c,decide_eq_true (by omega)]
  ·rw [decide_eq_false c,decide_eq_false (by omega)]
 rw [e];exact q
def wc:bC:=fun dd Q x=>∃ m es,dd=[wD m es]/\1<=m/\(es.length + 1=m->Q [] .sh .none)/\(es.length + 1≠m->x "NoTree" .none)
def J5:∀ dd Q x,wc dd Q x->f6 w4 (aW [false] Q x) (ini [false] dd++List.replicate 0 none):=by
 rintro _ Q x ⟨m,es,rfl,hm,q,r⟩;unfold f6;and_intros;refine ⟨m,es,rfl,hm,?_⟩;and_intros;split
 ·rename_i h;exact r h
 ·rename_i h;exact q (Decidable.of_not_not h)
section
variable {m:Nat}{es:List (Nat×Nat)}{ls:List Nat}
def vX {k:Str}(gd:Good m es):(bB k m es).Nodup:=by
 unfold bB;refine List.nodup_append.mpr ⟨?_,?_,fun a ha b hb e=>?_⟩
 ·split
  ·exact List.nodup_nil
  ·exact List.Pairwise.map _ (fun a b h e=>h (by cases e;rfl)) List.nodup_range
 ·split
  ·exact List.nodup_nil
  ·exact List.Pairwise.map _ (fun a b h e=>h (by cases e;rfl)) gd.nd
 ·subst e;split at ha
  ·cases ha
  ·obtain ⟨x,_,rfl⟩:=OI.mp ha;split at hb
   ·cases hb
   ·obtain ⟨y,_,e⟩:=OI.mp hb;cases e
end
def qp (k:Str):Prop:=k="places"\/k="ties"\/k="all"
end PB
namespace Dv
open PySem L2
def lW {α:Type}{l:List α}{enc:α->PyData}{tg:Tg}{b:DS}{D:bO}{E1:En}(I:Nat->En->Prop)(h0:I 0 E1)(hs:∀ (J:En->Prop) i a E,l[i]?=some a->(∀ E',I (i + 1) E'->J E')->I i E->∃ E2,b7 tg (enc a) E=some E2/\b { D with nx:=J } E2)(he:∀ E,I l.length E->D.nx E):yC (l.map enc) tg b D E1:=kh I h0 (fun i a E ha hi=>hs (I (i + 1)) i a E ha (fun _ h=>h) hi) he
def LP {n:Nat}{enc:Nat->PyData}{tg:Tg}{b:DS}{D:bO}{E1:En}(I:Nat->En->Prop)(h0:I 0 E1)(hs:∀ (J:En->Prop) i E,i < n->(∀ E',I (i + 1) E'->J E')->I i E->∃ E2,b7 tg (enc i) E=some E2/\b { D with nx:=J } E2)(he:∀ E,I n E->D.nx E):yC ((List.range n).map enc) tg b D E1:=J7 I h0 (fun i E ha hi=>hs (I (i + 1)) i E ha (fun _ h=>h) hi) he
def Mh {α:Type}{l:List α}{enc:α->PyData}{cs:List Nat}{tg:Tg}{c:DT}{r:DC}{E1:En}{Q:En->Kd->PyData->Prop}(E0:En)(I:Nat->List PyData->En->Prop)(h0:aU cs E1=some E0)(h1:I 0 [] E0)(hs:∀ (J:List PyData->En->Prop) i a ys E,l[i]?=some a->(∀ ys' E',I (i + 1) ys' E'->J ys' E')->I i ys E->∃ E2,b7 tg (enc a) E=some E2/\c xF E2 fun E3 b=>if b=true then r xF ys E3 J else J ys E3)
  (he:∀ ys E,I l.length ys E->∃ E2,aU cs E=some E2/\Q E2 (.ow false) (.list ys)):wz cs (l.map enc) tg c r E1 Q:=AH E0 I h0 h1 (fun i a ys E ha hi=>hs (I (i + 1)) i a ys E ha (fun _ _ h=>h) hi) he
def Mc {c:DT}{b:DS}{D:bO}{E:En}(W:Nat->En->Prop)(h0:∃ m,W m E)(hs:∀ (J:En->Prop) m E,(∀ m' E',m' < m->W m' E'->J E')->W m E->c D.xc E fun E1 t=>if t=true then b { D with nx:=J } E1 else D.nx E1):nO c b D E:=⟨W,h0,fun m E h=>hs (fun E'=>∃ m',m' < m/\W m' E') m E (fun m' E' l w=>⟨m',l,w⟩) h⟩
end Dv
namespace L2
section
variable {α β:Type}
theorem zo (c:List Nat)(x:α):∀ gs:List (List Nat×List α),(∃ g∈cC c x gs,g.1=c/\x∈g.2)/\∀ g∈gs,∃ g'∈cC c x gs,g'.1=g.1/\∀ y∈g.2,y∈g'.2
 | []=>⟨⟨_,N9,rfl,N9⟩,fun g hg=>(nomatch hg)⟩
 | (d,xs)::gs=>by
  obtain ⟨⟨g0,h1,h2,h3⟩,h4⟩:=zo c x gs
  by_cases e:d=c
  ·have e2:cC c x ((d,xs)::gs)=(d,xs++[x])::gs:=if_pos e;rw [e2];refine ⟨⟨_,N9,e,OT.mpr (.inr N9)⟩,fun g hg=>?_⟩
   rcases O9.mp hg with rfl | hg
   ·exact ⟨_,N9,rfl,fun y hy=>OT.mpr (.inl hy)⟩
   ·exact ⟨g,O6 _ hg,rfl,fun y hy=>hy⟩
  ·have e2:cC c x ((d,xs)::gs)=(d,xs)::cC c x gs:=if_neg e;rw [e2];refine ⟨⟨g0,O6 _ h1,h2,h3⟩,fun g hg=>?_⟩
   rcases O9.mp hg with rfl | hg
   ·exact ⟨_,N9,rfl,fun y hy=>hy⟩
   ·obtain ⟨g',h5,h6⟩:=h4 g hg;exact ⟨g',O6 _ h5,h6⟩
theorem za (c:List Nat)(x:α):∀ gs:List (List Nat×List α),∀ g∈cC c x gs,∀ y∈g.2,(g.1=c/\y=x)\/∃ g'∈gs,g'.1=g.1/\y∈g'.2
 | [],g,hg,y,hy=>by
  cases O8.mp hg;exact .inl ⟨rfl,O8.mp hy⟩
 | (d,xs)::gs,g,hg,y,hy=>by
  by_cases e:d=c
  ·have e2:cC c x ((d,xs)::gs)=(d,xs++[x])::gs:=if_pos e;rw [e2] at hg;rcases O9.mp hg with rfl | hg
   ·rcases OT.mp hy with hy | hy
    ·exact .inr ⟨_,N9,rfl,hy⟩
    ·exact .inl ⟨e,O8.mp hy⟩
   ·exact .inr ⟨g,O6 _ hg,rfl,hy⟩
  ·have e2:cC c x ((d,xs)::gs)=(d,xs)::cC c x gs:=if_neg e;rw [e2] at hg;rcases O9.mp hg with rfl | hg
   ·exact .inr ⟨_,N9,rfl,hy⟩
   ·rcases za c x gs g hg y hy with z | ⟨g',h1,h2⟩
    ·exact .inl z
    ·exact .inr ⟨g',O6 _ h1,h2⟩
structure GC (l:List (List Nat×α))(gs:List (List Nat×List α)):Prop where
 nd:(gs.map (·.1)).Nodup
 of:∀ g∈gs,∀ x∈g.2,(g.1,x)∈l
 all:∀ q∈l,∃ g∈gs,g.1=q.1/\q.2∈g.2
theorem zp (l:List (List Nat×α)):∀ n,GC (l.take n) (f9 (l.take n))
 | 0=>by
  rw [List.take_zero];exact ⟨.nil,fun _ h=>(nomatch h),fun _ h=>(nomatch h)⟩
 | n + 1=>by
  have ih:=zp l n;rw [List.take_succ];cases e:l[n]? with
  | none =>
   rw [Option.toList_none,List.append_nil];exact ih
  | some q =>
   rw [Option.toList_some,kr];obtain ⟨h1,h2⟩:=zo q.1 q.2 (f9 (l.take n));refine ⟨(sJ q.1 q.2 _ ih.nd).1,fun g hg x hx=>?_,fun p hp=>?_⟩
   ·rcases za q.1 q.2 _ g hg x hx with ⟨e1,e2⟩ | ⟨g',h3,h4,h5⟩
    ·rw [e1,e2];exact OT.mpr (.inr N9)
    ·rw [<- h4];exact OT.mpr (.inl (ih.of g' h3 x h5))
   ·rcases OT.mp hp with hp | hp
    ·obtain ⟨g,h3,h4,h5⟩:=ih.all p hp;obtain ⟨g',h6,h7,h8⟩:=h2 g h3;exact ⟨g',h6,h7.trans h4,h8 _ h5⟩
    ·cases O8.mp hp;exact h1
def gc (l:List (List Nat×α)):GC l (f9 l):=by
 have:=zp l l.length;rwa [List.take_length] at this
def jh (f:α->List Nat)(ts:List α):List (List α):=((f9 ((ts.map f).zip ts)).filter fun g=>decide (1 < g.2.length)).map (·.2)
def j9 {f:α->List Nat}{ts:List α}{q:List Nat×α}:q∈(ts.map f).zip ts↔q.1=f q.2/\q.2∈ts:=by
 induction ts with
 | nil=>simp
 | cons t ts ih =>
  rw [OM,List.zip_cons_cons,O9,ih,O9];constructor
  ·rintro (rfl | ⟨h1,h2⟩)
   ·exact ⟨rfl,.inl rfl⟩
   ·exact ⟨h1,.inr h2⟩
  ·rintro ⟨h1,h2 | h2⟩
   ·exact .inl (Prod.ext (by rw [h1,h2]) h2)
   ·exact .inr ⟨h1,h2⟩
def IX {r:List α}{a b:α}(ha:a∈r)(hb:b∈r)(ne:a≠b):1 < r.length:=by
 cases r with
 | nil=>cases ha
 | cons x r =>
  cases r with
  | nil=>exact absurd ((O8.mp ha).trans (O8.mp hb).symm) ne
  | cons y r=>exact Nat.succ_lt_succ (Nat.succ_pos _)
def pR {f:α->List Nat}{ts:List α}{r:List α}(h:r∈jh f ts):(∀ x∈r,x∈ts)/\1 < r.length/\∀ x∈r,∀ y∈r,f x=f y:=by
 obtain ⟨g,hg,rfl⟩:=OI.mp h;obtain ⟨hg,l⟩:=List.mem_filter.mp hg;have c:=(gc ((ts.map f).zip ts)).of g hg;refine ⟨fun x hx=>(j9.mp (c x hx)).2,OS l,fun x hx y hy=>?_⟩
 rw [<- (j9.mp (c x hx)).1,<- (j9.mp (c y hy)).1]
def HM {f:α->List Nat}{ts:List α}{a b:α}(ha:a∈ts)(hb:b∈ts)(ne:a≠b)(e:f a=f b):∃ r∈jh f ts,∀ x∈ts,f x=f a->x∈r:=by
 have c:=gc ((ts.map f).zip ts);obtain ⟨g,hg,h1,h2⟩:=c.all (f a,a) (j9.mpr ⟨rfl,ha⟩);have all:∀ x∈ts,f x=f a->x∈g.2:=fun x hx ex=>by
  obtain ⟨g',hg',h3,h4⟩:=c.all (f x,x) (j9.mpr ⟨rfl,hx⟩);have eg:g'=g:=by
   have n:=c.nd;obtain ⟨i,li,ei⟩:=List.getElem_of_mem hg;obtain ⟨j,lj,ej⟩:=List.getElem_of_mem hg';have pw:=List.pairwise_iff_getElem.mp n;have key:g'.1=g.1:=by rw [h3,h1,ex]
   rcases Nat.lt_trichotomy i j with l | l | l
   ·have:=pw i j (by rw [O7];exact li) (by rw [O7];exact lj) l
    rw [List.getElem_map,List.getElem_map,ei,ej] at this;exact absurd key.symm this
   ·subst l;rw [<- ei,<- ej]
   ·have:=pw j i (by rw [O7];exact lj) (by rw [O7];exact li) l
    rw [List.getElem_map,List.getElem_map,ei,ej] at this;exact absurd key this
  rw [<- eg];exact h4
 exact ⟨g.2,OI.mpr ⟨g,List.mem_filter.mpr ⟨hg,decide_eq_true (IX (all a ha rfl) (all b hb e.symm) ne)⟩,rfl⟩,all⟩
def Hu {f:α->List Nat}{ts:List α}{a b:α}(ha:a∈ts)(hb:b∈ts)(ne:a≠b):(∃ r∈jh f ts,a∈r/\b∈r)↔f a=f b:=by
 constructor
 ·rintro ⟨r,hr,h1,h2⟩;exact (pR hr).2.2 a h1 b h2
 ·intro e;obtain ⟨r,hr,all⟩:=HM ha hb ne e;exact ⟨r,hr,all a ha rfl,all b hb e.symm⟩
end
end L2
namespace PB
open PySem L2 Dv Gr
def Im {x:XC}{E:En}{Q:En->Kd->PyData->Prop}:Af x E Q=Q E (.st false) (.dict [(.none,.none)]):=rfl
def LH {p:Bool}:Kd.pin (.st p)=p:=rfl
def uA (g:List Nat×List Th):PyData×PyData:=(.tuple (g.1.map iD),.list (g.2.map aV))
theorem yO:∀ {a b:List Nat},a.map iD=b.map iD->a=b
 | [],[],_=>rfl
 | [],_::_,h=>by cases h
 | _::_,[],h=>by cases h
 | x::a,y::b,h=>by
  rw [OM,OM,List.cons.injEq] at h;rw [q9.mp h.1,yO h.2]
theorem vH (c:List Nat)(t:Th):∀ gs:List (List Nat×List Th),iX (gs.map uA) (.tuple (c.map iD)) (aV t)=(cC c t gs).map uA
 | []=>rfl
 | (d,xs)::gs=>by
  rw [OM];show iX ((PyData.tuple (d.map iD),PyData.list (xs.map aV))::gs.map uA) _ _=_;unfold iX cC
  by_cases e:d=c
  ·rw [if_pos (by rw [e]),if_pos e,OM]
   show (PyData.tuple (d.map iD),PyData.list (xs.map aV++[aV t]))::_=_;unfold uA;rw [List.map_append];rfl
  ·rw [if_neg (fun z=>e (yO (PyData.tuple.inj z))),if_neg e,OM,vH c t gs]
   rfl
noncomputable def JP (es:List (Nat×Nat))(ls:List Nat)(ts:List Th):PyData:=.list ((jh (aG es ls) ts).map fun r=>.list (r.map aV))
def w6:bC:=fun dd Q x=>∃ m es ls k,dd=[wD m es,nD ls,.str k]/\eE m es/\cZ m ls/\Q [] (.ow false) (JP es ls (bB k m es))
def J0:∀ dd Q x,w6 dd Q x->l8 sA wX wu (aW [false,false,false] Q x) (ini [false,false,false] dd++List.replicate 5 none):=by
 rintro _ Q x ⟨m,es,ls,k,rfl,W,L,q⟩;have hm:=W.le;have hL:=L.len;have hlen:=tP (k:=k) W;unfold l8;and_intros;refine K0 L ?_;and_intros;refine ⟨m,es,k,rfl,W,?_⟩;simp only [dv,dw,dx,dy,dz,Nat.reduceBEq,Im,LH];refine ⟨m,es,ls,bB k m es,rfl,W,L.lt,by omega,vt W.gd,hlen,?_⟩
 and_intros;have ez:∀ ts:List Th,ts.zip ts=ts.map fun t=>(t,t):=fun ts=>by
  induction ts with
  | nil=>rfl
  | cons a ts ih=>rw [List.zip_cons_cons,ih];rfl
 rw [ez,List.map_map];generalize bB k m es=ts at q hlen ⊢;refine lW (fun i E=>∃ (o5 o6:Option (Kd×PyData)),E=[some (.sh,wD m es),some (.sh,nD ls),some (.sh,.str k),some (.sh,.list (ts.map aV)),some (.st false,.dict ((.none,.none)::(f9 (((ts.map (aG es ls)).zip ts).take i)).map uA)),o5,o6,none]/\bS o5=true/\bS o6=true) ⟨none,none,rfl,rfl,rfl⟩ ?_ ?_
 ·rintro J i t _ hi hJ ⟨o5,o6,rfl,h5,h6⟩;simp only [dv,dw,dx,dy,dz,Nat.reduceBEq,h5,h6,Function.comp];have li:=bw hi;obtain ⟨gl,gq⟩:=qg i ((ts.map (aG es ls)).zip ts);have et:((ts.map (aG es ls)).zip ts).take (i + 1)=((ts.map (aG es ls)).zip ts).take i++[(aG es ls t,t)]:=by
   rw [List.take_succ,List.getElem?_zip_eq_some (z:=(aG es ls t,t)) |>.mpr ⟨by rw [OG,hi];rfl,hi⟩]
   rfl
  rw [et,kr] at hJ;generalize f9 (((ts.map (aG es ls)).zip ts).take i)=gs at gl gq hJ ⊢;refine ⟨gs.map uA,.sh,(aG es ls t).map iD,.sh,aV t,_,rfl,rfl,rfl,?_,rfl,by decide,rfl,?_,?_,?_⟩
  ·rw [List.all_map];exact OC.mpr fun _ _=>rfl
  ·rw [O7];exact Nat.lt_of_le_of_lt (show _<=2000 by omega) (by decide)
  ·rw [List.all_map];refine OC.mpr fun g hg=>decide_eq_true ?_
   show (g.2.map aV).length < sizeLine;rw [O7];exact Nat.lt_of_le_of_lt (show _<=2000 by have:=gq g hg;omega) (by decide)
  ·rw [vH];exact hJ _ ⟨_,_,rfl,rfl,rfl⟩
 ·rintro _ ⟨o5,o6,rfl,h5,h6⟩;have hz:((ts.map (aG es ls)).zip ts).length=ts.length:=by rw [List.length_zip,O7,Nat.min_self]
  rw [show ts.length=((ts.map (aG es ls)).zip ts).length from hz.symm,List.take_length]
  and_intros;obtain ⟨gl,gq⟩:=qg ((ts.map (aG es ls)).zip ts).length ((ts.map (aG es ls)).zip ts);rw [List.take_length,hz] at gl;have q2:Q [] (.ow false) (.list (((f9 ((ts.map (aG es ls)).zip ts)).filter fun g=>decide (1 < g.2.length)).map fun g=>.list (g.2.map aV))):=by
   unfold JP jh at q;rw [List.map_map] at q;exact q
  clear q gq;generalize f9 ((ts.map (aG es ls)).zip ts)=gs at gl q2 ⊢;refine ⟨gs.map uA,rfl,?_⟩;and_intros;rw [List.map_map];refine uG (fun g=>if decide (1 < g.2.length)=true then some (.list (g.2.map aV)) else none) rfl (fun g hg I hI=>?_) ?_ (by omega)
  ·show ∃ E2,b7 (.nm 7) (.list (g.2.map aV)) _=some E2/\_;simp only [dv,dw,dx,dy,dz,Nat.reduceBEq] at hI ⊢;split
   ·rename_i c;rw [if_pos (by omega)] at hI
    exact hI _ rfl
   ·rename_i c;rw [if_neg (by omega)] at hI
    exact hI _ rfl
  ·rw [jE];and_intros;exact q2
end PB
namespace PB
open PySem L2 Dv
noncomputable def fY:DS:=av (aJ 2 (aa gX [.ev (aa (ko false true) [.pk 0,.pk 1])])) (av (eY (yL (aa (ko true true) [.pk 0,.pk 1,.ev (dC (.int 63))])) (.tp [3,4]) (f7 2 (aa i9 [.pk 3,.pk 1]) (aa c9 [.ev (aa iw [.ev (aa aA [.pk 2,.ev (aa i9 [.pk 3,.pk 1])]),.ev (dC (.int 31))]),.pk 4]))) (iJ 2))
noncomputable def gY:DS:=av (aJ 2 (dC (.int 0))) (AL (dQ (cK (aa zv [.ev (aa dH [.pk 0]),.ev (dC (.int 0))])) (aJ 2 (aa c9 [.ev (aa aA [.pk 0,.ev (aa i9 [.pk 1,.ev (aa dH [.pk 0])])]),.ev (aa rY [.pk 1,.ev (aa dH [.pk 0])])])) (eO)) (av (aJ 3 (dC (.int 0))) (AL (dQ (cK (rj (aa FI [.pk 2,.ev (dC (.int 0))]) (aa JE [.pk 2,.ev (aa Du [.ev (dC (.int 10)),.ev (dC (.int 18))])]))) (aJ 3 (aa uM [.pk 2])) (eO)) (bR (aa dm [.pk 3,.ev (aa i9 [.ev (aa c9 [.ev (aa iw [.ev (aa i9 [.pk 2,.ev (dC (.int 2147483629))]),.ev (dC (.int 69621))]),.ev (aa iw [.ev (aa iw [.ev (dC (.int 40009)),.ev (aa c9 [.pk 1,.ev (dC (.int 1))])]),.ev (aa c9 [.pk 1,.ev (dC (.int 3))])])]),.ev (dC (.int 2147483629))])])))))
noncomputable def gP:DS:=av (dQ (cK (aa zv [.ev (aa aA [.pk 0,.ev (dC (.int 0))]),.ev (dC (.int 0))])) (av (aJ 2 (aa i9 [.ev (aa aA [.pk 0,.ev (dC (.int 0))]),.pk 1])) (av (f7 0 (dC (.int 0)) (aa rY [.ev (aa aA [.pk 0,.ev (dC (.int 0))]),.pk 1])) (iJ 2))) (eO)) (av (f7 0 (dC (.int 1)) (aa i9 [.ev (aa c9 [.ev (aa iw [.ev (aa aA [.pk 0,.ev (dC (.int 1))]),.ev (dC (.int 48271))]),.ev (dC (.int 12820163))]),.ev (dC (.int 2147483647))])) (bR (aa i9 [.ev (aa rY [.ev (aa i9 [.ev (aa iw [.ev (aa i9 [.ev (aa iw [.ev (aa aA [.pk 0,.ev (dC (.int 1))]),.ev (aa aA [.pk 0,.ev (dC (.int 1))])]),.ev (dC (.int 2147483629))]),.ev (dC (.int 69621))]),.ev (dC (.int 2147483587))]),.ev (dC (.int 8))]),.pk 1])))
noncomputable def gW (sp_law_take:bC):DS:=av (aJ 3 (aa gX [.pk 1])) (bR (cu [4] (ku pC [.pk 2]) (.nm 4) (eX) (cF sizeLine (oY uu 3 [aH sp_law_take [true,false] [.pk 0,.ev (aa dH [.pk 3])]]))))
noncomputable def fG (sp_law_some:bC):DS:=av (aJ 3 (aH sp_law_some [true,false,false] [.pk 0,.ev (aa iQ [.pk 1]),.pk 1])) (bR (aa kR [.pk 1,.ev (aa iS [.ev (aa qU [.ev (cu [4,5] (iE (aT 2)) (.tp [4,5]) (eX) (cF sizeLine (aa kR [.ev (aa oq [.ev (aa aA [.pk 3,.pk 4]),.ev (aa aA [.pk 3,.pk 5])]),.ev (aa qB [.ev (aa aA [.pk 3,.pk 4]),.ev (aa aA [.pk 3,.pk 5])])])))])])]))
noncomputable def gK (sp_law_take sp_law_named:bC):DS:=av (aJ 2 (aa c9 [.ev (dC (.int 1)),.ev (aH sp_law_take [true,false] [.pk 0,.pk 1])])) (av (aJ 3 (aH sp_law_take [true,false] [.pk 0,.ev (dC (.int 6))])) (av (aJ 4 (aa dm [])) (av (eY (ku Bw [.ev (dC (.int 1)),.pk 2]) (.nm 5) (av (aJ 6 (aa dm [.ev (aa l9 [.pk 5,.ev (dC (.int 1))]),.ev (dC (.int 0)),.ev (aH sp_law_take [true,false] [.pk 0,.pk 5]),.ev (aa qB [.ev (dC (.int 0)),.ev (aa l9 [.ev (aa l9 [.pk 5,.ev (dC (.int 1))]),.ev (aH sp_law_take [true,false] [.pk 0,.ev (dC (.int 3))])])]),.ev (aH sp_law_take [true,false] [.pk 0,.ev (aa oq [.pk 5,.ev (dC (.int 3))])])])) (d9 (oY dB 4 [aa kR [.ev (aa aA [.ev (aa c9 [.pk 6,.ev (aa dm [.ev (aa rY [.ev (aa l9 [.pk 5,.ev (dC (.int 1))]),.ev (dC (.int 2))])])]),.pk 3]),.pk 5]])))) (bR (aH sp_law_named [true,false,false] [.pk 0,.pk 2,.pk 4])))))
noncomputable def gD:DS:=bR (cu [1] (ku pC [.ev (aa aA [.pk 0,.ev (dC (.int 0))])]) (.nm 1) (cK (aa iU [.ev (aa dH [.ev (cu [2] (iE (aa aA [.pk 0,.ev (dC (.int 1))])) (.nm 2) (cK (aa (gH false) [.pk 1,.pk 2])) (cF sizeLine (aT 2)))]),.ev (dC (.int 1))])) (cF sizeLine (aT 1)))
noncomputable def fZ (sp_law_take:bC):DS:=av (aJ 2 (aH sp_law_take [true,false] [.pk 0,.ev (dC (.int 6))])) (bR (cu [3] (ku pC [.pk 1]) (.nm 3) (cK (aa FI [.ev (aH sp_law_take [true,false] [.pk 0,.ev (dC (.int 6))]),.ev (aa aA [.ev (aa dm [.ev (dC (.int 0)),.ev (dC (.int 1)),.ev (dC (.int 2)),.ev (dC (.int 3)),.ev (dC (.int 5)),.ev (dC (.int 6))]),.pk 2])])) (cF sizeLine (aT 3))))
noncomputable def gI:DS:=av (aJ 1 (nC sizeLine [4] (ku pC [.ev (aa aA [.pk 0,.ev (dC (.int 0))])]) (.nm 4) (eX) (aa dm []))) (av (eY (iE (aa aA [.pk 0,.ev (dC (.int 1))])) (.tp [2,3]) (av (d9 (qd dB 1 (aT 2) 3)) (d9 (qd dB 1 (aT 3) 2)))) (bR (cu [4] (iE (aT 1)) (.nm 4) (eX) (cF sizeLine (aa nJ [.pk 4])))))
noncomputable def fW:DS:=av (aJ 2 (aa jl [.ev (aT 1),.ev (dC (.int 0))])) (av (aJ 3 (aa dm [.pk 1])) (av (nO (cK (aa zv [.ev (aa dH [.pk 3]),.ev (dC (.int 0))])) (av (aJ 4 (aa dm [])) (av (eY (iE (aT 3)) (.nm 5) (eY (iE (aa aA [.pk 0,.pk 5])) (.nm 6) (dQ (cK (aa (gH true) [.pk 6,.pk 2])) (av (f7 2 (aT 6) (aa c9 [.ev (aa aA [.pk 2,.pk 5]),.ev (dC (.int 1))])) (d9 (oY dB 4 [aT 6]))) (eO)))) (aJ 3 (aT 4))))) (iJ 2)))
noncomputable def gB:DS:=av (dQ (cK (aa (qJ "tuple") [.pk 1])) (bR (aa iS [.ev (cu [2] (iE (aT 0)) (.nm 2) (eX) (cF sizeLine (aa oq [.ev (aa aA [.pk 2,.ev (aa aA [.pk 1,.ev (dC (.int 0))])]),.ev (aa aA [.pk 2,.ev (aa aA [.pk 1,.ev (dC (.int 1))])])])))])) (eO)) (bR (aa iS [.ev (cu [2] (iE (aT 0)) (.nm 2) (eX) (cF sizeLine (aa aA [.pk 2,.pk 1])))]))
noncomputable def fM:DS:=av (aJ 2 (aa iQ [.ev (aa aA [.pk 0,.ev (dC (.int 0))])])) (bR (aa aA [.ev (aa jl [.ev (dC (.str "places")),.ev (aT 2),.ev (dC (.str "ties")),.ev (aa gX [.ev (aa aA [.pk 0,.ev (dC (.int 1))])]),.ev (dC (.str "all")),.ev (aa c9 [.pk 2,.ev (aa gX [.ev (aa aA [.pk 0,.ev (dC (.int 1))])])])]),.pk 1]))
noncomputable def fU (sp_law_near sp_law_steps sp_law_things sp_law_code:bC):DS:=av (aJ 3 (aH sp_law_near [false] [.pk 0])) (av (aJ 4 (cu [5] (iE (aT 1)) (.nm 5) (eX) (cF sizeLine (aH sp_law_steps [false,false] [.pk 3,.pk 5])))) (bR (cu [5] (iE (aH sp_law_things [false,false] [.pk 0,.pk 2])) (.nm 5) (eX) (cF sizeLine (aH sp_law_code [false,false] [.pk 4,.pk 5])))))
noncomputable def fV (sp_tree_likes sp_law_codes sp_law_things:bC):DS:=av (aJ 3 (aa gX [.pk 1])) (av (aJ 4 (aH sp_tree_likes [false,false,false] [.pk 0,.pk 3,.pk 2])) (av (aJ 5 (aH sp_law_codes [false,false,false] [.pk 0,.pk 1,.pk 2])) (av (dQ (cK (rj (aa mO [.pk 3,.pk 1]) (aa mO [.ev (aH sp_tree_likes [false,false,false] [.pk 0,.pk 3,.pk 2]),.pk 4]))) (bR (dC (.bool false))) (eO)) (av (dQ (cK (aa (dR false) [.pk 4,.ev (dC .none)])) (bR (aa iU [.ev (aa uY [.pk 5]),.ev (aa dH [.pk 5])])) (eO)) (av (aJ 6 (aH sp_law_things [false,false] [.pk 0,.pk 2])) (av (dQ (cK (rj (vd (aa (qJ "tuple") [.pk 4])) (rj (aa mO [.ev (aa dH [.pk 4]),.ev (dC (.int 2))]) (aa iU [.ev (aa aA [.pk 4,.ev (dC (.int 0))]),.ev (aa aA [.pk 4,.ev (dC (.int 1))])])))) (bR (dC (.bool false))) (eO)) (av (eY (iE (aT 4)) (.nm 7) (dQ (cK (rj (aa (gH true) [.pk 7,.pk 6]) (rj (vd (aa uq [.pk 7])) (aa (qJ "bool") [.pk 7])))) (bR (dC (.bool false))) (eO))) (av (aJ 8 (cu [9] (iE (aT 4)) (.nm 9) (eX) (cF sizeLine (aa aA [.pk 5,.ev (E8 6 9)])))) (bR (aa iU [.ev (aa aA [.pk 8,.ev (dC (.int 0))]),.ev (aa aA [.pk 8,.ev (dC (.int 1))])]))))))))))
noncomputable def l6 (sp_law_cells sp_law_pool sp_law_tree sp_law_take sp_law_ends sp_law_looks sp_law_right:bC):DS:=av (aJ 1 (aH sp_law_cells [false,false] [.pk 0,.ev (dC (.int 4))])) (av (eY (ku pC [.ev (aa qB [.ev (dC (.int 1)),.ev (aa dH [.pk 1])])]) (.nm 2) (av (aJ 3 (aH sp_law_pool [false,false] [.pk 1,.pk 2])) (av (aJ 4 (aH sp_law_tree [true,false] [.pk 3,.ev (aa aA [.ev (aa dm [.ev (dC (.int 24)),.ev (dC (.int 60))]),.ev (aa k8 [.ev (aa iU [.ev (aH sp_law_take [true,false] [.pk 3,.ev (dC (.int 8))]),.ev (dC (.int 0))])])])])) (av (aJ 5 (aH sp_law_ends [false] [.pk 4])) (av (aJ 6 (aH sp_law_take [true,false] [.pk 3,.ev (aa c9 [.ev (aa dH [.pk 5]),.ev (dC (.int 1))])])) (av (aJ 7 (aa dm [.ev (aH sp_law_looks [true,false] [.pk 3,.ev (aa aA [.pk 4,.ev (dC (.int 0))])]),.ev (aH sp_law_looks [true,false] [.pk 3,.ev (aa aA [.pk 4,.ev (dC (.int 0))])])])) (eY (iE (aa c9 [.pk 7,.ev (aa dm [.pk 5,.ev (aa c9 [.ev (aa (ko false true) [.pk 5,.pk 6]),.ev (aa (ko true false) [.pk 5,.ev (aa c9 [.pk 6,.ev (dC (.int 1))])])])])])) (.nm 8) (eY (iE (aa dm [.ev (dC (.str "places")),.ev (dC (.str "ties")),.ev (dC (.str "all"))])) (.nm 9) (dQ (v7 (cK (aH sp_law_right [false,false,false] [.pk 4,.pk 8,.pk 9]))) (bR (dC (.bool false))) (eO)))))))))) (bR (dC (.bool true))))
abbrev jf (a b:Int):PyData:=.list [.int a,.int b]
def gJ:bC:=fun ds Q x=>∃ (a b:Int) (m:Nat),ds=[jf a b,iD m]/\0 < m/\m < 2 ^ 200/\0<=b/\b < 2147483647/\∀ (r:Nat) a' b',r < m->0<=b'->b' < 2147483647->Q [jf a' b'] .sh (iD r)
def Hq:∀ ds Q x,gJ ds Q x->gP (aW [true,false] Q x) (ini [true,false] ds++List.replicate 1 none):=by
 rintro _ Q x ⟨a,b,m,rfl,h1,h2,h3,h4,q⟩;unfold gP;simp only [dv,dw,dx];have hm:(0:Int) < m:=by omega
 have r0:∀ z:Int,∃ r:Nat,r < m/\z % (m:Int)=(r:Int):=fun z=>by
  have e1:=Int.emod_nonneg z (by omega:(m:Int)≠0)
  have e2:=Int.emod_lt_of_pos z hm;exact ⟨(z % m).toNat,by omega,by omega⟩
 split
 ·obtain ⟨r,hr,e⟩:=r0 a;refine ⟨hm,⟨hm,?_⟩,?_⟩
  ·have:(m:Int) < ((2 ^ 200:Nat):Int):=Int.ofNat_lt.mpr h2;have:((2 ^ 200:Nat):Int) < 115792089237316195423570985008687907853269984665640564039457584007913129639936:=by decide
   omega
  ·rw [e];exact q r _ _ hr h3 h4
 ·have c1:0<=(b * 48271 + 12820163) % 2147483647:=Int.emod_nonneg _ (by decide)
  have c2:(b * 48271 + 12820163) % 2147483647 < 2147483647:=Int.emod_lt_of_pos _ (by decide)
  generalize (b * 48271 + 12820163) % 2147483647=y at *;have c3:0<=y * y % 2147483629:=Int.emod_nonneg _ (by decide)
  have c4:y * y % 2147483629 < 2147483629:=Int.emod_lt_of_pos _ (by decide)
  refine ⟨.inr (by clear q r0 c3 c4;omega),by decide,.inl (by clear q r0 c3 c4;omega),by decide,.inr (by clear q r0 c1 c2;omega),by decide,⟨by decide,by decide⟩,hm,?_⟩
  obtain ⟨r,hr,e⟩:=r0 (y * y % 2147483629 * 69621 % 2147483587 / 8);rw [e];exact q r _ _ hr c1 c2
def qI:bC:=fun ds Q x=>∃ (cs:List Int) (k:Nat),ds=[.list (cs.map .int),iD k]/\cs.length<=10/\k<=10/\∀ a b:Int,0<=b->b < 2147483647->Q [] (.ow false) (jf a b)
def Hs:∀ ds Q x,qI ds Q x->gY (aW [false,false] Q x) (ini [false,false] ds++List.replicate 2 none):=by
 rintro _ Q x ⟨cs,k,rfl,h1,h2,q⟩;unfold gY;simp only [dv,dw,dx];refine ⟨fun E=>∃ cell:Int,E=[some (.sh,.list (cs.map .int)),some (.sh,iD k),some (.sh,.int cell),none],?_,?_⟩
 ·simp only [dv,dw,dx];split
  ·rename_i h;rw [O7] at h ⊢;have hl:0 < cs.length:=by omega
   refine ⟨h,?_⟩;rw [<- Int.natCast_emod,mY,OQ (Nat.mod_lt _ hl)];exact ⟨⟨h,by omega⟩,_,rfl⟩
  ·exact ⟨0,rfl⟩
 ·rintro _ ⟨cell,rfl⟩;simp only [dv,dw,dx];refine Ie ?_;simp only [dv,dw,dx];have e1:=Int.emod_nonneg cell (by decide:(2147483629:Int)≠0)
  have e2:=Int.emod_lt_of_pos cell (by decide:(0:Int) < 2147483629)
  have a1:ja (cell % 2147483629) 69621:=.inr (by clear q;omega)
  clear e1 e2;have a2:ja 40009 ((k:Int) + 1):=.inl (by clear q a1;omega)
  have a3:ja (40009 * ((k:Int) + 1)) ((k:Int) + 3):=.inr (by clear q a1 a2;omega)
  have e3:=Int.emod_nonneg (cell % 2147483629 * 69621 + 40009 * ((k:Int) + 1) * (k + 3)) (by decide:(2147483629:Int)≠0)
  have e4:=Int.emod_lt_of_pos (cell % 2147483629 * 69621 + 40009 * ((k:Int) + 1) * (k + 3)) (by decide:(0:Int) < 2147483629)
  have fin:∀ z:Int,0 < (2147483629:Int)/\ja (cell % 2147483629) 69621/\ja 40009 ((k:Int) + 1)/\ja (40009 * ((k:Int) + 1)) ((k:Int) + 3)/\0 < (2147483629:Int)/\0 + 1 + 1<=16777216/\Q [] (Kd.ow false) (PyData.list [PyData.int z,PyData.int ((cell % 2147483629 * 69621 + 40009 * ((k:Int) + 1) * ((k:Int) + 3)) % 2147483629)]):=fun z=>⟨by decide,a1,a2,a3,by decide,by decide,q _ _ e3 (Int.lt_trans e4 (by decide))⟩
  split
  ·exact fin _
  ·refine ⟨⟨by decide,by decide,by decide⟩,?_⟩
   split
   ·exact fin _
   ·exact fin _
def nG:bC:=fun ds Q x=>∃ (ns:List Int) (m:Nat),ds=[.list (ns.map .int),iD m]/\0 < m/\m<=10/\∀ cs:List Int,cs.length<=m->Q [] (.ow false) (.list (cs.map .int))
def Ea:∀ ds Q x,nG ds Q x->fY (aW [false,false] Q x) (ini [false,false] ds++List.replicate 3 none):=by
 rintro _ Q x ⟨ns,m,rfl,h0,h1,q⟩;unfold fY;simp only [dv,dw,dx,dy,vS,O7,show (63:Int)=((63:Nat):Int) from rfl,wZ,pU]
 have hm:(0:Int) < m:=by omega
 refine kh (fun i E=>∃ (cs:List Int)(a b:Option (Kd×PyData)),E=[some (.sh,.list (ns.map .int)),some (.sh,iD m),some (.ow false,.list (cs.map .int)),a,b]/\bS a=true/\bS b=true/\cs.length=min m ns.length) ?_ ?_ ?_
 ·exact ⟨ns.take m,none,none,rfl,rfl,rfl,List.length_take⟩
 ·rintro i ⟨d,k⟩ E hi ⟨cs,a,b,rfl,ha,hb,hl⟩;have hi:=bw hi;rw [List.length_zipIdx,List.length_drop,List.length_take] at hi;have hk:k % m < cs.length:=by have:=Nat.mod_lt k h0;omega
  simp only [dv,dw,dx,ha,hb,dz];refine ⟨h0,bN (OQ hk) ⟨.inr (by omega),h0,sr hk ⟨cs.set (k % m) (cs[k % m] * 31 + d),some (.sh,iD k),some (.sh,.int d),by rw [List.map_set],rfl,rfl,by rw [List.length_set];exact hl⟩⟩⟩
 ·rintro _ ⟨cs,a,b,rfl,ha,hb,hl⟩;simp only [dv,dw,dx];exact q cs (by omega)
def rE:bC:=fun ds Q x=>∃ (a b:Int)(ns:List Nat) (k:Nat),ds=[jf a b,nD ns,iD k]/\k<=ns.length/\ns.length<=1000/\0<=b/\b < 2147483647/\∀ (ms rest:List Nat) a' b',ms.length=k->(ms++rest).Perm ns->0<=b'->b' < 2147483647->Q [jf a' b'] (.ow false) (nD ms)
theorem qO:∀ (rs:List Nat){j:Nat}(h:j < rs.length),([rs[j]]++rs.eraseIdx j).Perm rs
 | [],_,h=>by cases h
 | r::rs,0,_=>by rw [List.eraseIdx_cons_zero];exact List.Perm.refl _
 | r::rs,j + 1,h=>by
  rw [List.eraseIdx_cons_succ];have ih:=qO rs (j:=j) (by rw [List.length_cons] at h;omega)
  exact (List.Perm.swap _ _ _).trans (ih.cons _)
theorem tK {f:Nat->PyData}:∀ {rs:List Nat}{j:Nat},(rs.map f).eraseIdx j=(rs.eraseIdx j).map f
 | [],_=>rfl
 | r::rs,0=>rfl
 | r::rs,j + 1=>by
  rw [OM,List.eraseIdx_cons_succ,List.eraseIdx_cons_succ,OM,tK]
def HJ {r n:Nat}(h:r < n):seqIndex? (r:Int) n=some r:=by
 unfold seqIndex?;simp;omega
def GU:∀ ds Q x,rE ds Q x->gW gJ (aW [true,false,false] Q x) (ini [true,false,false] ds++List.replicate 2 none):=by
 rintro _ Q x ⟨a,b,ns,k,rfl,h0,h1,h2,h3,q⟩;unfold gW;and_intros;rw [if_pos (by omega)]
 refine bN rfl ?_;refine AH _ (fun i ys E=>∃ (a b:Int)(ms rest:List Nat)(o:Option (Kd×PyData)),ys=ms.map iD/\E=[some (.ow true,jf a b),some (.sh,nD ns),some (.sh,iD k),some (.ow false,nD rest),o]/\bS o=true/\ms.length=i/\(ms++rest).Perm ns/\0<=b/\b < 2147483647) rfl ⟨a,b,[],ns,_,rfl,rfl,rfl,rfl,List.Perm.refl _,h2,h3⟩ ?_ ?_
 ·rintro i j ys E hi ⟨a,b,ms,rest,o,rfl,rfl,ho,hm,hp,h2,h3⟩;have hi:=bw hi;rw [OP] at hi;have hl:=hp.length_eq;rw [OR] at hl;have hr:0 < rest.length:=by omega
  simp only [dv,dw,dx,ho,dz];refine ⟨a,b,rest.length,rfl,hr,by omega,h2,h3,fun r a' b' hr' h2' h3'=>?_⟩
  simp only [dv,dw,dx,dz];refine ⟨⟨by omega,by omega⟩,r,iD rest[r],HJ hr',by rw [OG,OQ hr'];rfl,by omega,a',b',ms++[rest[r]],rest.eraseIdx r,some (.sh,iD j),by rw [List.map_append];rfl,by rw [tK],rfl,by rw [OR,hm];rfl,?_,h2',h3'⟩
  rw [List.append_assoc];exact (List.Perm.append_left ms (qO rest hr')).trans hp
 ·rintro ys E ⟨a,b,ms,rest,o,rfl,rfl,ho,hm,hp,h2,h3⟩;simp only [dv,dw,dx,ho,dz];rw [OP] at hm;exact q ms rest _ _ hm hp h2 h3
def uv {ms:List Nat}{m:Nat}(pm:ms.Perm (List.range m)){a:Nat}(ha:a < m):ms[a]?=some (ms.getD a 0)/\ms.getD a 0 < m:=by
 have h:a < ms.length:=by rw [pm.length_eq,OP];exact ha
 have e:ms.getD a 0=ms[a]:=by rw [List.getD_eq_getElem?_getD,OQ h];rfl
 rw [e];exact ⟨OQ h,List.mem_range.mp (pm.mem_iff.mp (List.getElem_mem h))⟩
def nE:bC:=fun ds Q x=>∃ (a b:Int) (m:Nat)(ps:List (Nat×Nat)),ds=[jf a b,iD m,.list (ps.map gk)]/\1<=m/\m<=60/\Gr.Good m ps/\Gr.iW m ps/\ps.length<=1000/\0<=b/\b < 2147483647/\∀ es a' b',eE m es->es.length=ps.length->0<=b'->b' < 2147483647->Q [jf a' b'] .sh (wD m es)
def EG:∀ ds Q x,nE ds Q x->fG rE (aW [true,false,false] Q x) (ini [true,false,false] ds++List.replicate 3 none):=by
 rintro _ Q x ⟨a,b,m,ps,rfl,h0,h1,gd,cn,few,h2,h3,q⟩;unfold fG;and_intros;refine ⟨⟨by omega,by omega⟩,⟨a,b,List.range m,m,rfl,by rw [OP];exact O5 _,by rw [OP];omega,h2,h3,fun ms rest a' b' hm hp h2 h3=>?_⟩⟩
 have pm:ms.Perm (List.range m):=by
  have:=hp.length_eq;rw [OR,hm,OP] at this;have e:rest=[]:=List.eq_nil_of_length_eq_zero (by omega)
  rw [e,List.append_nil] at hp;exact hp
 and_intros;refine iM (fun e=>gk (Gr.sX ms e)) rfl (fun e he I hI=>?_) ?_ (by omega)
 ·have hl:=gd.lt e he;have g1:=uv pm (by omega:e.1 < m)
  have g2:=uv pm hl.2;simp only [dv,dw,dx,dy,dz,Nat.reduceBEq,g1.1,g2.1];exact ⟨by omega,hI _ rfl⟩
 ·and_intros;have e:ps.map (fun e=>gk (Gr.sX ms e))=(ps.map (Gr.sX ms)).map gk:=by rw [List.map_map];rfl
  rw [e];refine HL (by rw [O7];exact few) fun qs pq=>?_
  and_intros;refine ⟨by omega,q qs _ _ ⟨h0,h1,?_,?_⟩ ?_ h2 h3⟩
  ·exact Gr.Good.perm pq (Gr.Am pm gd)
  ·exact Gr.CA pq (Gr.AE pm cn)
  ·rw [pq.length_eq,O7]
def qC:bC:=fun ds Q x=>∃ (a b:Int) (mo:Nat),ds=[jf a b,iD mo]/\0 < mo/\mo<=60/\0<=b/\b < 2147483647/\∀ m es a' b',m<=mo->eE m es->es.length + 1=m->0<=b'->b' < 2147483647->Q [jf a' b'] .sh (wD m es)
structure Up (i:Nat)(ps:List (Nat×Nat)):Prop where
 len:ps.length=i
 at':∀ (k:Nat)(e:Nat×Nat),ps[k]?=some e->e.2=k + 1/\e.1<=k
def Up.snoc {i p:Nat}{ps:List (Nat×Nat)}(h:Up i ps)(hp:p<=i):Up (i + 1) (ps++[(p,i + 1)]):=by
 refine ⟨by rw [OR,h.len];rfl,fun k e he=>?_⟩
 rw [List.getElem?_append] at he;split at he
 ·exact h.at' k e he
 ·rename_i hk;rw [List.getElem?_singleton] at he;split at he
  ·rename_i h0;cases he;have:=h.len;show i + 1=k + 1/\p<=k;omega
  ·cases he
def Up.mem {i:Nat}{ps:List (Nat×Nat)}(h:Up i ps){e:Nat×Nat}(he:e∈ps):e.1 < e.2/\e.2<=i:=by
 obtain ⟨k,hk⟩:=List.mem_iff_getElem?.mp he;have:=h.at' k e hk;have:=bw hk;have:=h.len;omega
def Up.good {m:Nat}{ps:List (Nat×Nat)}(h:Up (m - 1) ps)(hm:1<=m):Gr.Good m ps:=by
 refine ⟨fun e he=>?_,?_⟩
 ·have:=h.mem he;omega
 ·refine List.pairwise_iff_getElem.mpr fun i j hi hj l e=>?_
  have h1:=h.at' i _ (OQ hi);have h2:=h.at' j _ (OQ hj);rw [e] at h1;omega
def Up.conn {m:Nat}{ps:List (Nat×Nat)}(h:Up (m - 1) ps):Gr.iW m ps:=by
 refine Gr.HH fun k h0 hk=>?_
 have hl:k - 1 < ps.length:=by rw [h.len];omega
 have:=h.at' (k - 1) _ (OQ hl);refine ⟨ps[k - 1].1,by omega,?_⟩
 have e:(ps[k - 1].1,k)=ps[k - 1]:=Prod.ext rfl (by show k=ps[k - 1].2;omega)
 rw [e];exact List.getElem_mem hl
def G0:∀ ds Q x,qC ds Q x->gK gJ nE (aW [true,false] Q x) (ini [true,false] ds++List.replicate 5 none):=by
 rintro _ Q x ⟨a,b,mo,rfl,h0,h1,h2,h3,q⟩;unfold gK;and_intros;refine ⟨a,b,mo,rfl,h0,by omega,h2,h3,fun r a b hr h2 h3=>?_⟩
 and_intros;refine ⟨a,b,6,rfl,by omega,by omega,h2,h3,fun sh a b hsh h2 h3=>?_⟩
 and_intros;refine ⟨by omega,?_⟩
 have e1:(1:Int) + (r:Int)=((r + 1:Nat):Int):=by omega
 rw [e1,if_pos (by omega)]
 refine bN rfl ?_;have e2:(((r + 1:Nat):Int) - 1).toNat=r:=by omega
 rw [e2];refine kh (fun i E=>∃ (a b:Int)(ps:List (Nat×Nat))(o o2:Option (Kd×PyData)),E=[some (.ow true,jf a b),some (.sh,iD mo),some (.sh,iD (r + 1)),some (.sh,iD sh),some (.ow false,.list (ps.map gk)),o,o2]/\bS o=true/\bS o2=true/\Up i ps/\0<=b/\b < 2147483647) ?_ ?_ ?_
 ·exact ⟨a,b,[],none,none,rfl,rfl,rfl,⟨rfl,fun k e h=>by cases h⟩,h2,h3⟩
 ·rintro i k _ hi ⟨a,b,ps,o,o2,rfl,ho,ho2,up,h2,h3⟩;have hi':=bw hi;rw [List.getElem?_range (by rw [OP] at hi';exact hi')] at hi
  cases hi;rw [OP] at hi';simp only [dv,dw,dx,dy,dz,Nat.reduceBEq,ho];refine ⟨a,b,i + 1,rfl,by omega,by omega,h2,h3,fun r1 a b hr1 h2 h3=>?_⟩
  simp only [dv,dw,dx,dy,dz,Nat.reduceBEq,ho2];refine ⟨a,b,3,rfl,by omega,by omega,h2,h3,fun r2 a b hr2 h2 h3=>?_⟩
  have e3:((i + 1:Nat):Int) - 1=(i:Int):=by omega
  have e4:(if (3:Int) < ((i + 1:Nat):Int) then (3:Int) else ((i + 1:Nat):Int))=((min (i + 1) 3:Nat):Int):=by split <;> omega
  simp only [dv,dw,dx,dy,dz,Nat.reduceBEq,ho2,e3,e4];refine ⟨a,b,min (i + 1) 3,rfl,by omega,by omega,h2,h3,fun r3 a b hr3 h2 h3=>?_⟩
  simp only [dv,dw,dx,dy,dz,Nat.reduceBEq,ho2,e3,wm];refine ⟨by omega,⟨by omega,by omega⟩,by omega,by omega,?_⟩
  have hin:∀ z∈[PyData.int (i:Int),PyData.int 0,iD r1,PyData.int (if (i:Int) - (r2:Int) > 0 then (i:Int) - (r2:Int) else 0),iD r3,PyData.int ((i:Int) / 2)],∃ p:Nat,p<=i/\z=iD p:=by
   intro z hz;simp only [O9,OW,or_false] at hz;rcases hz with rfl | rfl | rfl | rfl | rfl | rfl
   ·exact ⟨i,by omega,rfl⟩
   ·exact ⟨0,by omega,rfl⟩
   ·exact ⟨r1,by omega,rfl⟩
   ·exact ⟨i - r2,by omega,by congr 1;split <;> omega⟩
   ·exact ⟨r3,by omega,rfl⟩
   ·exact ⟨i / 2,by omega,by congr 1⟩
  have hlen:[PyData.int (i:Int),PyData.int 0,iD r1,PyData.int (if (i:Int) - (r2:Int) > 0 then (i:Int) - (r2:Int) else 0),iD r3,PyData.int ((i:Int) / 2)].length=6:=rfl
  generalize [PyData.int (i:Int),PyData.int 0,iD r1,PyData.int (if (i:Int) - (r2:Int) > 0 then (i:Int) - (r2:Int) else 0),iD r3,PyData.int ((i:Int) / 2)]=L at hin hlen ⊢
  have hs:sh < L.length:=by omega
  obtain ⟨p,hp,ep⟩:=hin _ (List.getElem_mem hs);refine bN (OQ hs) ⟨by omega,by rw [up.len];omega,a,b,ps++[(p,i + 1)],_,_,by rw [ep,List.map_append];rfl,rfl,rfl,up.snoc hp,h2,h3⟩
 ·rintro _ ⟨a,b,ps,o,o2,rfl,ho,ho2,up,h2,h3⟩;and_intros;rw [OP] at up;refine ⟨a,b,r + 1,ps,rfl,by omega,by omega,Up.good (m:=r + 1) up (by omega),Up.conn (m:=r + 1) up,by rw [up.len];omega,h2,h3,fun es a' b' W hl h2 h3=>?_⟩
  and_intros;exact q _ es _ _ (by omega) W (by rw [hl,up.len]) h2 h3
def m9:bC:=fun ds Q x=>∃ (a b:Int) (m:Nat),ds=[jf a b,iD m]/\m<=60/\0<=b/\b < 2147483647/\∀ ls a' b',cZ m ls->0<=b'->b' < 2147483647->Q [jf a' b'] (.ow false) (nD ls)
def Eo:∀ ds Q x,m9 ds Q x->fZ gJ (aW [true,false] Q x) (ini [true,false] ds++List.replicate 2 none):=by
 rintro _ Q x ⟨a,b,m,rfl,h1,h2,h3,q⟩;unfold fZ;and_intros;refine ⟨a,b,6,rfl,by omega,by omega,h2,h3,fun pt a b hpt h2 h3=>?_⟩
 and_intros;rw [if_pos (by omega)]
 refine bN rfl ?_;refine AH _ (fun i ys E=>∃ (a b:Int)(ls:List Nat)(o:Option (Kd×PyData)),ys=ls.map iD/\E=[some (.ow true,jf a b),some (.sh,iD m),some (.sh,iD pt),o]/\bS o=true/\rising ls/\(∀ l∈ls,l < i)/\0<=b/\b < 2147483647) rfl ⟨a,b,[],none,rfl,rfl,rfl,List.Pairwise.nil,(fun _ h=>absurd h OW),h2,h3⟩ ?_ ?_
 ·rintro i j ys E hi ⟨a,b,ls,o,rfl,rfl,ho,hr,hl,h2,h3⟩;have hi':=bw hi;rw [OP] at hi';rw [List.getElem?_range hi'] at hi;cases hi;simp only [dv,dw,dx,dy,dz,Nat.reduceBEq,ho];refine ⟨a,b,6,rfl,by omega,by omega,h2,h3,fun r a b hr' h2 h3=>?_⟩
  simp only [dv,dw,dx,dy,dz,Nat.reduceBEq,ho,wm];refine ⟨by omega,?_⟩
  rw [show [PyData.int 0,PyData.int 1,PyData.int 2,PyData.int 3,PyData.int 5,PyData.int 6]=[0,1,2,3,5,6].map iD from rfl,OG,qM]
  have hlt:pt < [0,1,2,3,5,6].length:=hpt;refine bN (OQ hlt) ?_;and_intros;split
  ·refine ⟨?_,a,b,ls++[i],_,by rw [List.map_append];rfl,rfl,rfl,?_,?_,h2,h3⟩
   ·have:=rq hr hl;omega
   ·exact List.pairwise_append.mpr ⟨hr,List.pairwise_singleton ..,fun x hx y hy=>by cases O8.mp hy;exact hl x hx⟩
   ·intro l hl';rcases OT.mp hl' with h | h
    ·have:=hl l h;omega
    ·cases O8.mp h;omega
  ·exact ⟨a,b,ls,_,rfl,rfl,rfl,hr,(fun l h=>by have:=hl l h;omega),h2,h3⟩
 ·rintro ys E ⟨a,b,ls,o,rfl,rfl,ho,hr,hl,h2,h3⟩;simp only [dv,dw,dx,dy,dz,Nat.reduceBEq,ho];exact q ls _ _ ⟨hr,fun l h=>by have:=hl l h;rw [OP] at this;exact this⟩ h2 h3
def vD {t:Th}:dl 8 (aV t)=true:=by cases t <;> rfl
end PB
namespace PB
open PySem L2 Dv Gr
abbrev tD (l:List Nat):PyData:=.tuple (l.map iD)
def zE (l:List Nat):List Nat:=l.mergeSort fun a b=>decide (a<=b)
def pO {l:List Nat}:(zE l).Perm l:=List.mergeSort_perm ..
def LC {l:List Nat}:(zE l).Pairwise (·<=·):=by
 have:=List.pairwise_mergeSort (le:=fun a b:Nat=>decide (a<=b)) (fun a b c h1 h2=>by simp at *;omega) (fun a b=>by simp;omega) l
 exact this.imp fun h=>OS h
def HN {ns:List Nat}{P:Kd->PyData->Prop}(h:ns.length < 64)(q:P (.ow false) (nD (zE ns))):nJ [nD ns] P:=GZ h fun ms p u=>by rw [sP (p.trans pO.symm) u LC];exact q
abbrev m8 (m:Nat)(es:List (Nat×Nat)):PyData:=.list ((List.range m).map fun p=>nD (zE (cN es p)))
def uH:bC:=fun ds Q x=>∃ m es,ds=[wD m es]/\m<=60/\Gr.Good m es/\Q [] (.ow false) (m8 m es)
def Kc:∀ ds Q x,uH ds Q x->gI (aW [false] Q x) (ini [false] ds++List.replicate 4 none):=by
 rintro _ Q x ⟨m,es,rfl,hm,gd,q⟩;unfold gI;and_intros;rw [if_pos (by omega)]
 refine bN rfl (Di (fun _=>PyData.list []) rfl (fun a ha I hI=>?_) ?_ (by rw [OP];omega))
 ·and_intros;exact ⟨by omega,⟨false,rfl⟩,hI _ rfl⟩
 ·and_intros;refine lW (fun i E=>∃ o4 o5:Option (Kd×PyData),E=[some (.sh,wD m es),some (.dp false,tB m (es.take i)),o4,o5,none]/\bS o4=true/\bS o5=true) ⟨none,none,rfl,rfl,rfl⟩ ?_ ?_
  ·rintro J i ⟨a,b⟩ _ hi hJ ⟨o4,o5,rfl,ho4,ho5⟩;have hab:=gd.lt _ (OO hi);have hab:a < b/\b < m:=hab;simp only [dv,dw,dx,dy,dz,Nat.reduceBEq,ho4,ho5,qt];have hn:∀ k,(Gr.cN (es.take i) k).length < 1000:=fun k=>by
    have g2:Gr.Good m (es.take i):=⟨fun e he=>gd.lt e (List.mem_of_mem_take he),List.Sublist.nodup (List.take_sublist _ _) gd.nd⟩
    have:=g2.sE k;omega
   refine qX (g:=fun k=>(Gr.cN (es.take i) k).map iD) rfl rfl (by omega) (by omega) (by rw [O7];have:=hn a;omega) ?_
   simp only [dv,dw,dx,dy,dz,Nat.reduceBEq,ho4,ho5,qt];refine qX (g:=fun k=>if k=a then (Gr.cN (es.take i) k).map iD++[iD b] else (Gr.cN (es.take i) k).map iD) rfl rfl (by omega) (by omega) (by rw [if_neg (by omega),O7];have:=hn b;omega) ?_
   refine hJ _ ⟨some (.sh,iD a),some (.sh,iD b),?_,rfl,rfl⟩;simp only [List.set_cons_succ,List.set_cons_zero];have e:∀ k,(if k=b then (if k=a then (Gr.cN (es.take i) k).map iD++[iD b] else (Gr.cN (es.take i) k).map iD)++[iD a] else if k=a then (Gr.cN (es.take i) k).map iD++[iD b] else (Gr.cN (es.take i) k).map iD)=(Gr.cN (es.take (i + 1)) k).map iD:=fun k=>by
    rw [take_snoc hi,Gr.yM,List.map_append];unfold Gr.cN;rw [List.filterMap_cons,List.filterMap_nil];unfold Gr.nb;simp only
    by_cases c:k=a
    ·subst c;rw [if_neg (by omega),if_pos rfl,if_pos rfl]
     rfl
    ·by_cases c2:k=b
     ·subst c2;rw [if_pos rfl,if_neg c,if_neg (Ne.symm c),if_pos rfl];rfl
     ·rw [if_neg c2,if_neg c,if_neg (Ne.symm c),if_neg (Ne.symm c2)];exact (List.append_nil _).symm
   rw [List.map_congr_left fun k _=>congrArg PyData.list (e k)]
  ·rintro _ ⟨o4,o5,rfl,ho4,ho5⟩;rw [List.take_length];and_intros;refine iM (fun p=>nD (zE (cN es p))) rfl (fun p hp I hI=>?_) ?_ (by rw [OP];omega)
   ·have:=gd.sE p;and_intros;refine HN (by omega) ?_
    and_intros;exact hI _ rfl
   ·and_intros;exact q
def pL:bC:=fun dd Q x=>∃ m es k,dd=[wD m es,.str k]/\eE m es/\qp k/\Q [] .sh (.list ((bB k m es).map aV))
def JM:∀ dd Q x,pL dd Q x->fM (aW [false,false] Q x) (ini [false,false] dd++List.replicate 1 none):=by
 rintro _ Q x ⟨m,es,k,rfl,W,hk,q⟩;have hm:=W.le;have hes:=W.few;unfold fM;and_intros;refine ⟨⟨by omega,by omega⟩,by omega,?_⟩
 rw [HV (by decide) (by decide) (by decide)]
 refine ⟨rfl,?_⟩;have e1:((List.range m).map Sum.inl).map aV=(List.range m).map iD:=by rw [List.map_map];rfl
 have e2:(es.map Sum.inr).map aV=es.map gk:=by rw [List.map_map];rfl
 refine ⟨⟨rfl,rfl⟩,?_⟩;unfold bB at q;rcases hk with rfl | rfl | rfl
 ·refine ⟨_,by simp [cE];rfl,?_⟩
  rw [if_neg (by decide),if_pos rfl,List.append_nil,e1] at q
  exact q
 ·refine ⟨.list (es.map gk),?_,?_⟩
  ·unfold cE;rw [List.find?_cons_of_neg (by simp;decide),List.find?_cons_of_pos (by simp)]
   rfl
  ·rw [if_pos rfl,if_neg (by decide),List.nil_append,e2] at q
   exact q
 ·refine ⟨.list ((List.range m).map iD++es.map gk),?_,?_⟩
  ·unfold cE;rw [List.find?_cons_of_neg (by simp;decide),List.find?_cons_of_neg (by simp;decide),List.find?_cons_of_pos (by simp)]
   rfl
  ·rw [if_neg (by decide),if_neg (by decide),List.map_append,e1,e2] at q
   exact q
def Sp (m:Nat)(es:List (Nat×Nat)) (l:Nat)(d:PyData):Prop:=∃ kvs,d=.dict kvs/\iP kvs=true/\∀ x,x < m->cE kvs (iD x)=some (iD (ds es l x))
def zT {m:Nat}{es:List (Nat×Nat)}{l y:Nat}{d:PyData}{P:Kd->PyData->Prop}(h:Sp m es l d)(hy:y < m)(q:P .sh (iD (ds es l y))):aA [d,iD y] P:=by
 obtain ⟨kvs,rfl,e2,e3⟩:=h;unfold aA;split
 ·rename_i h;cases h
 ·rename_i h;cases h;exact ⟨⟨rfl,e2⟩,_,e3 y hy,q⟩
 ·rename_i h1 h2;exact absurd rfl (h2 _ _)
def xO:bC:=fun dd Q x=>∃ (m:Nat)(es:List (Nat×Nat))(rs:List (Nat×PyData))(t:Th),dd=[.list (rs.map (·.2)),aV t]/\(∀ r∈rs,Sp m es r.1 r.2)/\TV m t/\rs.length<=60/\Q [] .sh (tD (aG es (rs.map (·.1)) t))
def Kw:∀ dd Q x,xO dd Q x->gB (aW [false,false] Q x) (ini [false,false] dd++List.replicate 1 none):=by
 rintro _ Q x ⟨m,es,rs,t,rfl,hr,ht,hl,q⟩;unfold gB;rcases t with p | e
 ·simp only [aV,dv,dw,dx,dy,dz,Nat.reduceBEq];refine iM (fun r=>iD (td es r.1 (.inl p))) rfl (fun r h I hI=>?_) ?_ (by omega)
  ·and_intros;refine zT (hr r h) ht ?_;exact ⟨rfl,hI _ rfl⟩
  ·and_intros;have e9:(rs.map fun r=>iD (td es r.1 (.inl p)))=(aG es (rs.map (·.1)) (.inl p)).map iD:=by
    unfold aG;rw [List.map_map,List.map_map];rfl
   rw [e9];exact q
 ·simp only [aV,dv,dw,dx,dy,dz,Nat.reduceBEq];refine iM (fun r=>iD (td es r.1 (.inr e))) rfl (fun r h I hI=>?_) ?_ (by omega)
  ·and_intros;refine zT (hr r h) ht.1 ?_;and_intros;refine zT (hr r h) ht.2 ?_;and_intros;exact hI _ rfl
  ·and_intros;have e9:(rs.map fun r=>iD (td es r.1 (.inr e)))=(aG es (rs.map (·.1)) (.inr e)).map iD:=by
    unfold aG;rw [List.map_map,List.map_map];rfl
   rw [e9];exact q
abbrev kI (ps:List (Nat×Nat)):List (PyData×PyData):=ps.map fun e=>(iD e.1,iD e.2)
def cT (ps:List (Nat×Nat)) (x:Nat):Option Nat:=(ps.find? fun e=>decide (e.1=x)).map (·.2)
theorem rC {x:Nat}:∀ {ps:List (Nat×Nat)},cE (kI ps) (iD x)=(cT ps x).map iD
 | []=>rfl
 | e::ps=>by
  have ih:=rC (x:=x) (ps:=ps);unfold cE cT kI at ih ⊢;rw [OM,List.find?_cons,List.find?_cons]
  by_cases c:e.1=x
  ·have c':iD e.1=iD x:=by rw [c]
   simp only [c,decide_true];rfl
  ·have c':¬ iD e.1=iD x:=fun z=>c (q9.mp z)
   simp only [c,c',decide_false];exact ih
def xu {x:Nat}{ps:List (Nat×Nat)}:cT ps x=none↔∀ e∈ps,e.1≠x:=by
 unfold cT;rw [Option.map_eq_none_iff,List.find?_eq_none];simp
def mH {y d:Nat}{ps:List (Nat×Nat)}(h:cT ps y=none):cT (ps++[(y,d)])=fun x=>if x=y then some d else cT ps x:=by
 funext x;unfold cT;rw [List.find?_append]
 by_cases c:x=y
 ·subst c;have h':(ps.find? fun e=>decide (e.1=x))=none:=by unfold cT at h;exact Option.map_eq_none_iff.mp h
  rw [h',if_pos rfl];simp
 ·rw [if_neg c];cases e:ps.find? fun e=>decide (e.1=x) with
  | some v=>rfl
  | none=>simp [Ne.symm c]
def IW {y d:Nat}{ps:List (Nat×Nat)}(h:cT ps y=none):putD (kI ps) (iD y) (iD d)=kI (ps++[(y,d)]):=by
 have no:=xu.mp h;unfold putD;rw [if_neg]
 ·unfold kI;rw [List.map_append];rfl
 ·rw [List.any_eq_true];rintro ⟨kv,h1,h2⟩;obtain ⟨e,he,rfl⟩:=OI.mp h1;exact no e he (q9.mp (OS h2))
def pT:∀ {ps:List (Nat×Nat)},iP (kI ps)=true
 | []=>rfl
 | _::_=>rfl
def LX {kvs:List (PyData×PyData)}{y:Nat}{P:Kd->PyData->Prop}:aA [.dict kvs,iD y] P=((jk (iD y)=true/\iP kvs=true)/\∃ d,cE kvs (iD y)=some d/\P .sh d):=by
 unfold aA;split
 ·rename_i h;cases h
 ·rename_i h;cases h;rfl
 ·rename_i h1 h2;exact absurd rfl (h2 _ _)
def Jm {kvs:List (PyData×PyData)}{y:Nat}{P:Kd->PyData->Prop}:gH true [iD y,.dict kvs] P=((jk (iD y)=true/\iP kvs=true)/\P .sh (.bool !(cE kvs (iD y)).isSome)):=by
 unfold gH;split
 ·rename_i h;cases h
 ·rename_i h;cases h;rfl
 ·rename_i h1 h2;exact absurd rfl (h2 _ _)
def Mk {y d:Nat}{ps:List (Nat×Nat)}{P:Kd->PyData->Prop}(h:cT ps y=some d)(q:P .sh (iD d)):aA [.dict (kI ps),iD y] P:=by
 rw [LX];exact ⟨⟨rfl,pT⟩,_,by rw [rC,h];rfl,q⟩
def KN {y:Nat}{ps:List (Nat×Nat)}{P:Kd->PyData->Prop}:gH true [iD y,.dict (kI ps)] P=P .sh (.bool (cT ps y).isNone):=by
 rw [Jm,rC];refine propext ⟨fun h=>?_,fun h=>⟨⟨rfl,pT⟩,?_⟩⟩
 ·have h:=h.2;cases e:cT ps y <;> rw [e] at h <;> exact h
 ·cases e:cT ps y <;> rw [e] at h <;> exact h
def xK:bC:=fun dd Q x=>∃ m es p,dd=[m8 m es,iD p]/\eE m es/\p < m/\∀ d,Sp m es p d->Q [] (.dk false) d
structure Ks (m:Nat)(ps:List (Nat×Nat)):Prop where
 nd:(ps.map (·.1)).Nodup
 lt:∀ e∈ps,e.1 < m
def Ks.len {m:Nat}{ps:List (Nat×Nat)}(h:Ks m ps):ps.length<=m:=by
 have:=Gr.fc m _ h.nd fun x hx=>by obtain ⟨e,he,rfl⟩:=OI.mp hx;exact h.lt e he
 rw [O7] at this;exact this
def Ks.put {m y d:Nat}{ps:List (Nat×Nat)}(h:Ks m ps)(hy:y < m)(n:cT ps y=none):Ks m (ps++[(y,d)]):=by
 refine ⟨?_,fun e he=>?_⟩
 ·rw [List.map_append];refine List.nodup_append.mpr ⟨h.nd,List.nodup_cons.mpr ⟨OW,List.nodup_nil⟩,fun a ha b hb e=>?_⟩
  obtain ⟨f,hf,rfl⟩:=OI.mp ha;have hb':b=y:=O8.mp hb;exact xu.mp n f hf (e.trans hb')
 ·rcases OT.mp he with z | z
  ·exact h.lt e z
  ·rw [O8.mp z];exact hy
def JQ:∀ dd Q x,xK dd Q x->fW (aW [false,false] Q x) (ini [false,false] dd++List.replicate 5 none):=by
 rintro _ Q x ⟨m,es,p,rfl,W,hp,q⟩;have hm:=W.le;have gd:=W.gd;unfold fW;simp only [dv,dw,dx,dy,dz,Nat.reduceBEq,Ir];refine ⟨rfl,by omega,?_⟩
 refine Mc (fun n E=>∃ (r:Nat)(ps:List (Nat×Nat))(ed:List Nat)(k3:Kd)(o4 o5 o6:Option (Kd×PyData)),E=[some (.sh,m8 m es),some (.sh,iD p),some (.dk false,.dict (kI ps)),some (k3,nD ed),o4,o5,o6]/\(k3=.ow false\/k3=.sh)/\bS o4=true/\bS o5=true/\bS o6=true/\n=2 * Gr.cnt (cT ps) m + (if ed=[] then 0 else 1)/\Gr.jJ (Gr.cX es) p r (cT ps) ed/\(∀ x∈ed,x < m)/\Ks m ps) ?_ ?_
 ·refine ⟨_,0,[(p,0)],[p],_,none,none,none,rfl,.inl rfl,rfl,rfl,rfl,rfl,?_,fun x hx=>by rw [O8.mp hx];exact hp,⟨List.nodup_cons.mpr ⟨OW,List.nodup_nil⟩,fun e he=>by rw [O8.mp he];exact hp⟩⟩
  have:cT [(p,0)]=fun x=>if x=p then some 0 else none:=mH (ps:=[]) rfl
  rw [this];exact Gr.jJ.start
 rintro J n _ hJ ⟨r,ps,ed,k3,o4,o5,o6,rfl,hk3,h4,h5,h6,rfl,B,edm,ks⟩;have rd3:k3.rd=true:=by rcases hk3 with rfl | rfl <;> rfl
 have fz3:k3.fz=true:=by rcases hk3 with rfl | rfl <;> rfl
 simp only [dv,dw,dx,dy,dz,Nat.reduceBEq,rd3];cases ed with
 | nil =>
  rw [if_neg (by simp)]
  refine q _ ⟨_,rfl,pT,fun y hy=>?_⟩
  obtain ⟨d,hd⟩:=W.cn p hp y hy;rw [rC,B.val hd];rfl
 | cons e0 er =>
  rw [if_pos (by simp),if_pos fz3]
  refine ⟨by omega,h4,bN rfl ?_⟩
  have ne:e0::er≠[]:=List.cons_ne_nil _ _;generalize e0::er=ed at B edm ne hJ ⊢;refine lW (fun i E=>∃ (ps':List (Nat×Nat))(rc:List Nat)(o5 o6:Option (Kd×PyData)),E=[some (.sh,m8 m es),some (.sh,iD p),some (.dk false,.dict (kI ps')),some (.sh,nD ed),some (.ow false,nD rc),o5,o6]/\bS o5=true/\bS o6=true/\Gr.dZ (Gr.cX es) r (cT ps) ed (cT ps') rc/\(∀ j h,j < i->ed[j]?=some h->∀ x,Gr.cX es h x->cT ps' x≠none)/\rc.Nodup/\(∀ x∈rc,x < m)/\Ks m ps') ⟨ps,[],o5,o6,rfl,h5,h6,.start,fun j h hj=>by omega,List.nodup_nil,fun _ h=>absurd h OW,ks⟩ ?_ ?_
  ·rintro J i h _ hi hJ ⟨ps',rc,o5,o6,rfl,h5,h6,BI,don,rcn,rcm,ks'⟩;have mh:h∈ed:=OO hi;have hm':=edm h mh;simp only [dv,dw,dx,dy,dz,Nat.reduceBEq,h5,List.getElem?_range hm'];refine lW (fun i' E=>∃ (ps':List (Nat×Nat))(rc:List Nat)(o6:Option (Kd×PyData)),E=[some (.sh,m8 m es),some (.sh,iD p),some (.dk false,.dict (kI ps')),some (.sh,nD ed),some (.ow false,nD rc),some (.sh,iD h),o6]/\bS o6=true/\Gr.dZ (Gr.cX es) r (cT ps) ed (cT ps') rc/\(∀ j h,j < i->ed[j]?=some h->∀ x,Gr.cX es h x->cT ps' x≠none)/\(∀ j y,j < i'->(zE (Gr.cN es h))[j]?=some y->cT ps' y≠none)/\rc.Nodup/\(∀ x∈rc,x < m)/\Ks m ps') ⟨ps',rc,o6,rfl,h6,BI,don,fun j y hj=>by omega,rcn,rcm,ks'⟩ ?_ ?_
   ·rintro J i' y _ hy hJ ⟨ps',rc,o6,rfl,h6,BI,don,dni,rcn,rcm,ks'⟩;have hyE:Gr.cX es h y:=Gr.lg.mp (pO.mem_iff.mp (OO hy));have ym:y < m:=(gd.Jl hyE).2;have eh:=BI.at B mh;have hkl:=ks'.len;simp only [dv,dw,dx,dy,dz,Nat.reduceBEq,h6,KN];cases gy:cT ps' y with
    | some d =>
     simp only [dw,Option.isNone_some];refine hJ _ ⟨ps',rc,some (.sh,iD y),rfl,rfl,BI,don,fun j z hj hz=>?_,rcn,rcm,ks'⟩
     by_cases c:j=i'
     ·subst c;rw [hy] at hz;cases hz;rw [gy];simp
     ·exact dni j z (by omega) hz
    | none =>
     simp only [dv,dw,dx,dy,dz,Nat.reduceBEq,Option.isNone_none];refine Mk eh ?_;have e2:(r:Int) + 1=((r + 1:Nat):Int):=rfl;simp only [dv,dw,dx,dy,dz,Nat.reduceBEq,e2];have yrc:y∉rc:=fun h'=>by
      have:=((BI.got y).mp h').2;rw [gy] at this;cases this
     have rcl:=Gr.fc m rc rcn rcm;rw [show PyData.int ((r + 1:Nat):Int)=iD (r + 1) from rfl,IW gy]
     have BI':=BI.put mh hyE gy;rw [<- mH gy] at BI';refine ⟨⟨rfl,by omega⟩,by omega,hJ _ ⟨ps'++[(y,r + 1)],rc++[y],some (.sh,iD y),by rw [zc],rfl,BI',fun j h' hj he x hx=>?_,fun j z hj hz=>?_,?_,fun x hx=>?_,ks'.put ym gy⟩⟩
     ·rw [mH gy];show (if x=y then some (r + 1) else cT ps' x)≠none
      split
      ·exact fun h=>(nomatch h)
      ·exact don j h' hj he x hx
     ·rw [mH gy];show (if z=y then some (r + 1) else cT ps' z)≠none
      split
      ·exact fun h=>(nomatch h)
      ·rename_i c
       by_cases c2:j=i'
       ·subst c2;rw [hy] at hz;cases hz;exact absurd rfl c
       ·exact dni j z (by omega) hz
     ·exact List.nodup_append.mpr ⟨rcn,List.nodup_cons.mpr ⟨OW,List.nodup_nil⟩,fun a ha b hb e=>by
       cases O8.mp hb;exact yrc (e ▸ ha)⟩
     ·rcases OT.mp hx with h' | h'
      ·exact rcm x h'
      ·rw [O8.mp h'];exact ym
   ·rintro _ ⟨ps',rc,o6,rfl,h6,BI,don,dni,rcn,rcm,ks'⟩;refine hJ _ ⟨ps',rc,_,o6,rfl,rfl,h6,BI,fun j h' hj hh x hx=>?_,rcn,rcm,ks'⟩
    by_cases c:j=i
    ·subst c;rw [hi] at hh;cases hh;obtain ⟨l,hl⟩:=List.mem_iff_getElem?.mp (pO.mem_iff.mpr (Gr.lg.mpr hx));exact dni l x (bw hl) hl
    ·exact don j h' (by omega) hh x hx
  ·rintro _ ⟨ps',rc,o5,o6,rfl,h5,h6,BI,don,rcn,rcm,ks'⟩;and_intros;have all:∀ h,h∈ed->∀ x,Gr.cX es h x->cT ps' x≠none:=fun h hh=>by
    obtain ⟨j,hj⟩:=List.mem_iff_getElem?.mp hh;exact don j h (bw hj) hj
   refine hJ _ _ ?_ ⟨r + 1,ps',rc,.sh,some (.sh,nD rc),o5,o6,rfl,.inr rfl,rfl,h5,h6,rfl,B.next BI all,rcm,ks'⟩;rw [if_neg ne];cases rc with
   | nil =>
    have:=Gr.qx (f:=cT ps) (g:=cT ps') (fun x h=>BI.none h) m
    rw [if_pos rfl];omega
   | cons y rc =>
    obtain ⟨h1,h2⟩:=(BI.got y).mp (N9 ..);have:=Gr.uR (f:=cT ps) (g:=cT ps') (fun x h=>BI.none h) h1 (by rw [h2];exact fun h=>(nomatch h)) m (rcm y (N9 ..))
    rw [if_neg (List.cons_ne_nil _ _)];omega
def wU:bC:=fun dd Q x=>∃ m es ls k,dd=[wD m es,nD ls,.str k]/\eE m es/\cZ m ls/\qp k/\Q [] (.ow false) (.list ((bB k m es).map fun t=>tD (aG es ls t)))
def K5:∀ dd Q x,wU dd Q x->fU uH xK pL xO (aW [false,false,false] Q x) (ini [false,false,false] dd++List.replicate 3 none):=by
 rintro _ Q x ⟨m,es,ls,k,rfl,W,L,hk,q⟩;have hm:=W.le;have hL:=L.len;have hlen:=tP (k:=k) W;unfold fU;and_intros;refine ⟨m,es,rfl,hm,W.gd,?_⟩;and_intros;refine Mh _ (fun i ys E=>∃ (rs:List (Nat×PyData))(k3:Kd)(o5:Option (Kd×PyData)),ys=rs.map (·.2)/\rs.map (·.1)=ls.take i/\(∀ r∈rs,Sp m es r.1 r.2)/\(k3=.ow false\/k3=.sh)/\bS o5=true/\E=[some (.sh,wD m es),some (.sh,nD ls),some (.sh,.str k),some (k3,m8 m es),none,o5]) rfl ⟨[],_,none,rfl,rfl,fun r h=>absurd h OW,.inl rfl,rfl,rfl⟩ ?_ ?_
 ·rintro J i l _ _ hi hJ ⟨rs,k3,o5,rfl,e1,sp,hk3,h5,rfl⟩;have hl:=L.lt l (OO hi);have rd3:k3.rd=true:=by rcases hk3 with rfl | rfl <;> rfl
  have fz3:k3.fz=true:=by rcases hk3 with rfl | rfl <;> rfl
  simp only [dv,dw,dx,dy,dz,Nat.reduceBEq,rd3,fz3,h5];refine ⟨m,es,l,rfl,W,hl,fun d hd=>?_⟩
  have hJ':∀ k3:Kd,(k3=.ow false\/k3=.sh)->J (rs.map (·.2)++[d]) [some (.sh,wD m es),some (.sh,nD ls),some (.sh,.str k),some (k3,m8 m es),none,some (.sh,iD l)]:=fun k3 hk3=>hJ _ _ ⟨rs++[(l,d)],k3,_,by rw [List.map_append];rfl,by rw [List.map_append,e1,take_snoc hi];rfl,fun r hr=>by
   rcases OT.mp hr with z | z
   ·exact sp r z
   ·rw [O8.mp z];exact hd,hk3,rfl,rfl⟩
  have hrl:rs.length<=60:=by
   have:=congrArg List.length e1;rw [O7,List.length_take] at this;omega
  rcases hk3 with rfl | rfl
  ·and_intros;split
   ·exact bN rfl ⟨by omega,hJ' _ (.inl rfl)⟩
   ·exact bN rfl ⟨by omega,hJ' _ (.inr rfl)⟩
  ·and_intros;exact ⟨by omega,hJ' _ (.inr rfl)⟩
 ·rintro _ _ ⟨rs,k3,o5,rfl,e1,sp,hk3,h5,rfl⟩;rw [List.take_length] at e1;simp only [dv,dw,dx,dy,dz,Nat.reduceBEq,h5];refine ⟨m,es,k,rfl,W,hk,?_⟩;have hrl:rs.length<=60:=by
   have:=congrArg List.length e1;rw [O7] at this;omega
  and_intros;refine iM (fun t=>tD (aG es ls t)) rfl (fun t ht I hI=>?_) ?_ (by omega)
  ·and_intros;refine ⟨m,es,rs,t,rfl,sp,?_,hrl,?_⟩
   ·exact vt W.gd t ht
   ·rw [e1];and_intros;exact hI _ rfl
  ·and_intros;exact q
def Mq {a b:List PyData}{P:Kd->PyData->Prop}:mO [.tuple a,.tuple b] P=((dl 8 (.tuple a)=true/\dl 8 (.tuple b)=true)/\P .sh (.bool !(decide (PyData.tuple a=.tuple b)))):=rfl
def L5 {P:Kd->PyData->Prop}:mO [.none,.none] P=P .sh (.bool false):=rfl
section
variable {es:List (Nat×Nat)}{ls:List Nat}{ts:List Th}
end
theorem wR {α:Type}(c:List Nat)(x:α):∀ (gs:List (List Nat×List α)) g,g∈cC c x gs->g∈gs\/g.2=[x]\/∃ g'∈gs,g.2=g'.2++[x]
 | [],g,h=>by
  cases O8.mp h;exact .inr (.inl rfl)
 | (d,xs)::gs,g,h=>by
  unfold cC at h;split at h
  ·rcases O9.mp h with rfl | h
   ·exact .inr (.inr ⟨_,N9,rfl⟩)
   ·exact .inl (O6 _ h)
  ·rcases O9.mp h with rfl | h
   ·exact .inl N9
   ·rcases wR c x gs g h with z | z | ⟨g',z,e⟩
    ·exact .inl (O6 _ z)
    ·exact .inr (.inl z)
    ·exact .inr (.inr ⟨g',O6 _ z,e⟩)
theorem l7 {α:Type}(l:List (List Nat×α)):∀ n,∀ g∈f9 (l.take n),g.2.Sublist ((l.take n).map (·.2))
 | 0,g,h=>by rw [List.take_zero] at h;exact absurd h OW
 | n + 1,g,h=>by
  rw [List.take_succ] at h ⊢;rcases e:l[n]? with _ | q
  ·rw [e,Option.toList_none,List.append_nil] at h;rw [Option.toList_none,List.append_nil];exact l7 l n g h
  ·rw [e,Option.toList_some,kr] at h;rw [Option.toList_some,List.map_append];rcases wR _ _ _ g h with z | z | ⟨g',z,e⟩
   ·exact (l7 l n g z).trans (List.sublist_append_left _ _)
   ·rw [z];exact List.sublist_append_right _ _
   ·rw [e];exact (l7 l n g' z).append (List.Sublist.refl _)
def Ls {α:Type}{f:α->List Nat}{ts:List α}(nd:ts.Nodup){r:List α}(h:r∈jh f ts):r.Nodup:=by
 obtain ⟨g,hg,rfl⟩:=OI.mp h;have hg:=(List.mem_filter.mp hg).1;have:=l7 ((ts.map f).zip ts) ((ts.map f).zip ts).length g (by rw [List.take_length];exact hg)
 rw [List.take_length] at this;have e:((ts.map f).zip ts).map (·.2)=ts:=List.map_snd_zip (by rw [O7];exact O5 _)
 rw [e] at this;exact nd.sublist this
def KP {α:Type}:List (List α)->Option (α×α)
 | (a::b::_)::_=>some (a,b)
 | _=>none
def NU:Option (Th×Th)->PyData
 | some p=>.tuple [aV p.1,aV p.2]
 | none=>.none
noncomputable def tT (es:List (Nat×Nat))(ls:List Nat)(ts:List Th):PyData:=NU (KP (jh (aG es ls) ts))
def EZ {es:List (Nat×Nat)}{ls:List Nat}{ts:List Th}(nd:ts.Nodup):(jh (aG es ls) ts=[]/\KP (jh (aG es ls) ts)=none)\/∃ t u,t∈ts/\u∈ts/\t≠u/\aG es ls t=aG es ls u/\jh (aG es ls) ts≠[]/\KP (jh (aG es ls) ts)=some (t,u):=by
 match h:jh (aG es ls) ts with
 | []=>exact .inl ⟨rfl,rfl⟩
 | r::rs =>
  have hr:r∈jh (aG es ls) ts:=by rw [h];exact N9
  obtain ⟨h1,h2,h3⟩:=pR hr;have hn:=Ls nd hr
  match r,h1,h2,h3,hn with
  | a::b::r,h1,h2,h3,hn =>
   have ne:a≠b:=fun z=>(List.nodup_cons.mp hn).1 (z ▸ N9)
   have ha:a∈a::b::r:=N9;have hb:b∈a::b::r:=O6 _ N9;exact .inr ⟨a,b,h1 a ha,h1 b hb,ne,h3 a ha b hb,List.cons_ne_nil _ _,rfl⟩
def vG:bC:=fun dd Q x=>∃ m es ls k,dd=[wD m es,nD ls,.str k]/\eE m es/\es.length + 1=m/\cZ m ls/\Q [] .sh (tT es ls (bB k m es))
def Lv:∀ dd Q x,vG dd Q x->jS wc w6 (aW [false,false,false] Q x) (ini [false,false,false] dd++List.replicate 1 none):=by
 rintro _ Q x ⟨m,es,ls,k,rfl,W,ht,L,q⟩;have nd:=vX (k:=k) W.gd;unfold jS;and_intros;refine ⟨m,es,rfl,W.pos,fun _=>?_,fun z=>absurd ht z⟩
 and_intros;refine ⟨m,es,ls,k,rfl,W,L,?_⟩;unfold JP;and_intros;unfold tT at q;generalize bB k m es=ts at nd q ⊢
 match h:jh (aG es ls) ts with
 | [] =>
  rw [h] at q;simp only [dv,dw,dx,dy,dz,Nat.reduceBEq,List.map_nil,List.isEmpty_nil];exact q
 | r::rs =>
  have hr:r∈jh (aG es ls) ts:=by rw [h];exact N9
  obtain ⟨h1,h2,h3⟩:=pR hr;rw [h] at q
  match r,h2,q with
  | a::b::r,h2,q =>
   simp only [dv,dw,dx,dy,dz,Nat.reduceBEq,OM,List.isEmpty_cons];exact bN rfl (bN rfl (bN rfl (bN rfl ⟨by omega,q⟩)))
def uI:bC:=fun dd Q x=>∃ m es,dd=[wD m es]/\eE m es/\∀ ls,cZ m ls->Q [] (.ow false) (nD ls)
def Jd:∀ dd Q x,uI dd Q x->gD (aW [false] Q x) (ini [false] dd++List.replicate 2 none):=by
 rintro _ Q x ⟨m,es,rfl,W,q⟩;have hm:=W.le;have hes:=W.few;unfold gD;and_intros;rw [if_pos (by omega)]
 refine bN rfl (uG (fun p=>if decide ((es.filter fun e=>decide (iD p∈[iD e.1,iD e.2])).length=1)=true then some (iD p) else none) rfl (fun p hp I hI=>?_) ?_ (by rw [OP];omega))
 ·and_intros;refine uG (fun e=>if decide (iD p∈[iD e.1,iD e.2])=true then some (gk e) else none) rfl (fun e he I2 hI2=>?_) ?_ (by omega)
  ·simp only [dv,dw,dx,dy,dz,Nat.reduceBEq] at hI2 ⊢;refine ⟨⟨rfl,rfl⟩,?_⟩;split
   ·rename_i c;rw [if_pos c] at hI2;exact hI2 _ rfl
   ·rename_i c;rw [if_neg c] at hI2;exact hI2 _ rfl
  ·rw [jE];simp only [dv,dw,dx,dy,dz,Nat.reduceBEq] at hI ⊢;split
   ·rename_i c;rw [if_pos (by omega)] at hI
    exact hI _ rfl
   ·rename_i c;rw [if_neg (by omega)] at hI
    exact hI _ rfl
 ·rw [jE];and_intros;refine q _ ⟨?_,fun p hp=>List.mem_range.mp (List.mem_filter.mp hp).1⟩
  exact List.Pairwise.sublist List.filter_sublist List.pairwise_lt_range
def N6 {a b:Bool}{P:Kd->PyData->Prop}:mO [.bool a,.bool b] P=P .sh (.bool !(decide (a=b))):=rfl
end PB
namespace PB
open PySem L2 Dv
def Cw {ts:List Th}:(ts.all fun t=>dl 8 (aV t))=true:=by rw [OC];exact fun _ _=>vD
end PB
namespace PB
open PySem L2 Dv Gr
def qw:bC:=fun dd Q x=>∃ m es ls k,dd=[wD m es,nD ls,.str k]/\eE m es/\es.length + 1=m/\cZ m ls/\qp k/\Q [] .sh (.bool true)
def AR {f:Th->List Nat}{ts:List Th}(nd:ts.Nodup)(h:jh f ts=[]):(ts.map f).Nodup:=by
 refine List.pairwise_map.mpr (List.Pairwise.imp_of_mem (R:=(·≠·)) (fun {a b} ha hb ne e=>?_) nd)
 obtain ⟨r,hr,_⟩:=(Hu (f:=f) ha hb ne).mpr e;rw [h] at hr;exact absurd hr OW
def zR {k:Str}{m:Nat}{es:List (Nat×Nat)}:(bB k m es).length<=m + es.length:=by
 unfold bB;rw [OR];refine Nat.add_le_add ?_ ?_
 ·split
  ·exact Nat.zero_le _
  ·rw [O7,OP];exact O5 _
 ·split
  ·exact Nat.zero_le _
  ·rw [O7];exact O5 _
def Me {a b:List PyData}{P:Kd->PyData->Prop}:iU [.tuple a,.tuple b] P=((dl 8 (.tuple a)=true/\dl 8 (.tuple b)=true)/\P .sh (.bool (decide (PyData.tuple a=.tuple b)))):=rfl
def CM {t u:Th}:dl 8 (.tuple [aV t,aV u])=true:=by cases t <;> cases u <;> rfl
def KY {t u:Th}{P:Kd->PyData->Prop}(h:t≠u)(p:P .sh (.bool false)):iU [aV t,aV u] P:=by
 have ne:aV t≠aV u:=fun z=>h (yI.mp z)
 have key:decide (aV t=aV u)=false:=decide_eq_false ne;cases t with
 | inl a =>
  cases u with
  | inl b =>
   show P .sh (.bool (decide ((a:Int)=(b:Int))));rw [decide_eq_false fun z=>ne (by show PyData.int _=PyData.int _;rw [z])]
   exact p
  | inr b =>
   refine ⟨⟨rfl,rfl⟩,?_⟩;have key:decide (aV (.inl a)=aV (.inr b))=false:=decide_eq_false ne;exact key ▸ p
 | inr a =>
  cases u with
  | inl b=>exact ⟨⟨rfl,rfl⟩,(show decide (aV (.inr a)=aV (.inl b))=false from decide_eq_false ne) ▸ p⟩
  | inr b=>exact ⟨⟨rfl,rfl⟩,(show decide (aV (.inr a)=aV (.inr b))=false from decide_eq_false ne) ▸ p⟩
def DL {s:Th}{P:Kd->PyData->Prop}:uq [aV s] P=P .sh (.bool true):=by cases s <;> rfl
def FN (c:List Nat):dl 8 (tD c)=true:=by
 show dl 8 (.tuple (c.map iD))=true;simp only [dl,List.all_map,OC];intro _ _;rfl
def MO {ts:List Th}(nd:ts.Nodup){s:Th}(h:s∈ts):∃ j:Nat,ts[j]?=some s/\∀ (m:Nat) e,m < j->(ts.map aV)[m]?=some e->e≠aV s:=by
 obtain ⟨j,hj⟩:=List.mem_iff_getElem?.mp h;refine ⟨j,hj,fun m e hm he z=>?_⟩
 rw [OG] at he;obtain ⟨s',h1,rfl⟩:=Option.map_eq_some_iff.mp he;rw [yI.mp z] at h1;have l1:=bw h1;have l2:=bw hj;rw [OQ l1] at h1;rw [OQ l2] at hj;exact (List.pairwise_iff_getElem.mp nd m j l1 l2 hm) (by rw [Option.some.inj h1,Option.some.inj hj])
def iF {a b:DS}{D:bO}{E:En}(h:∀ B:En->Prop,(∀ E',B E'=b D E')->a { D with nx:=B } E):av a b D E:=h (b D) fun _=>rfl
def Ht:∀ dd Q x,qw dd Q x->fV vG wU pL (aW [false,false,false] Q x) (ini [false,false,false] dd++List.replicate 7 none):=by
 rintro _ Q x ⟨m,es,ls,k,rfl,W,ht,L,hk,q⟩;have hm:=W.le;have hL:=L.len;have nd:=vX (k:=k) W.gd;have dlc:∀ l:List Nat,dl 8 (PyData.list (l.map iD))=true:=fun l=>by
  simp only [dl,List.all_map,OC];intro _ _;rfl
 unfold fV;refine iF fun B1 hB1=>?_
 and_intros;rw [hB1];clear hB1;refine iF fun B2 hB2=>?_
 and_intros;refine ⟨m,es,ls,k,rfl,W,ht,L,?_⟩;have tc:=EZ (es:=es) (ls:=ls) nd;have lft:lf (tT es ls (bB k m es))=true:=by
  unfold tT;rcases tc with ⟨_,e⟩ | ⟨t,u,_,_,_,_,_,e⟩
  ·rw [e];rfl
  ·rw [e];cases t <;> cases u <;> rfl
 simp only [dv,dw,dx,dy,dz,Nat.reduceBEq,lft];rw [hB2];clear hB2;refine iF fun B3 hB3=>?_
 simp only [dv,dw,dx,dy,dz,Nat.reduceBEq,lft];refine ⟨m,es,ls,k,rfl,W,L,hk,?_⟩;simp only [dv,dw,dx,dy,dz,Nat.reduceBEq,lft];rw [hB3];clear hB3;refine iF fun B4 hB4=>?_
 simp only [dv,dw,dx,dy,dz,Nat.reduceBEq,lft,decide_true,Bool.not_true];have hlen:=zR (k:=k) (m:=m) (es:=es);refine ⟨⟨dlc _,dlc _⟩,m,es,ls,k,rfl,W,ht,L,?_⟩;rcases tc with ⟨e0,e⟩ | ⟨t,u,ht1,hu1,ne,ec,_,e⟩
 ·have e2:tT es ls (bB k m es)=.none:=by unfold tT;rw [e];rfl
  rw [e2];and_intros;rw [L5];and_intros;rw [hB4];clear hB4;refine iF fun B5 hB5=>?_
  and_intros;clear hB5;refine ⟨(bB k m es).map fun t=>(aG es ls t).map fun n:Nat=>(n:Int),?_,by rw [O7];omega,fun n hn hi=>?_⟩
  ·rw [List.map_map];congr 2;refine List.map_congr_left fun t _=>?_
   show PyData.tuple _=PyData.tuple _;rw [List.map_map];rfl
  have cnd:((bB k m es).map fun t=>(aG es ls t).map fun n:Nat=>(n:Int)).Nodup:=by
   rw [show ((bB k m es).map fun t=>(aG es ls t).map fun n:Nat=>(n:Int))=((bB k m es).map (aG es ls)).map (fun c=>c.map fun n:Nat=>(n:Int)) by rw [List.map_map];rfl]
   refine List.pairwise_map.mpr ((AR nd e0).imp fun ne e=>ne ?_)
   have:=congrArg (List.map Int.toNat) e;rw [List.map_map,List.map_map] at this;rw [show (Int.toNat ∘ fun n:Nat=>(n:Int))=id from rfl,List.map_id,List.map_id] at this
   exact this
  have en:=hi.mpr cnd;rw [O7] at en;subst en;refine bN (if_pos rfl) ?_;simp only [dv,dw,dx,dy,dz,Nat.reduceBEq,decide_true];exact q
 ·have e2:tT es ls (bB k m es)=.tuple [aV t,aV u]:=by unfold tT;rw [e];rfl
  rw [e2];simp only [dv,dw,dx,dy,dz,Nat.reduceBEq,nh,Mq,decide_true,Bool.not_true];refine ⟨⟨CM,CM⟩,?_⟩;rw [hB4];clear hB4;refine iF fun B5 hB5=>?_
  simp only [dv,dw,dx,dy,dz,Nat.reduceBEq,nh];rw [hB5];clear hB5;refine iF fun B6 hB6=>?_
  simp only [dv,dw,dx,dy,dz,Nat.reduceBEq,nh];refine ⟨m,es,k,rfl,W,hk,?_⟩;simp only [dv,dw,dx,dy,dz,Nat.reduceBEq,nh];rw [hB6];clear hB6;refine iF fun B7 hB7=>?_
  simp only [dv,dw,dx,dy,dz,Nat.reduceBEq,nh];rw [if_neg (by decide)]
  refine KY ne ?_;and_intros;rw [hB7];clear hB7;refine iF fun B8 hB8=>?_
  and_intros;rw [show [aV t,aV u]=[t,u].map aV from rfl]
  refine lW (fun i E=>∃ o7:Option (Kd×PyData),E=[some (.sh,wD m es),some (.sh,nD ls),some (.sh,.str k),some (.ow false,.list (ls.map iD)),some (.sh,.tuple ([t,u].map aV)),some (.ow false,.list ((bB k m es).map fun t=>tD (aG es ls t))),some (.sh,.list ((bB k m es).map aV)),o7,none,none]/\bS o7=true) ⟨none,rfl,rfl⟩ ?_ ?_
  ·rintro J i s _ hi hJ ⟨o7,rfl,h7⟩;have hs:s∈bB k m es:=by
    have:=OO hi;simp only [O9,OW,or_false] at this;rcases this with rfl | rfl
    ·exact ht1
    ·exact hu1
   have in2:aV s∈(bB k m es).map aV:=OI.mpr ⟨s,hs,rfl⟩;simp only [dv,dw,dx,dy,dz,Nat.reduceBEq,h7,in2,vD,Cw,DL,decide_true,Bool.not_true,not_true];have fin:=hJ _ ⟨some (.sh,aV s),rfl,rfl⟩;cases s with
   | inl a=>exact bN (a:="int") rfl (by rw [if_neg (by decide)];exact fin)
   | inr a=>exact bN (a:="tuple") rfl (by rw [if_neg (by decide)];exact fin)
  ·rintro _ ⟨o7,rfl,h7⟩;show B8 _;rw [hB8];clear hB8;refine iF fun B9 hB9=>?_
   and_intros;refine iM (fun s=>tD (aG es ls s)) rfl (fun s hs I hI=>?_) ?_ (by show 2<=_;decide)
   ·have hs:s∈bB k m es:=by
     simp only [O9,OW,or_false] at hs;rcases hs with rfl | rfl
     ·exact ht1
     ·exact hu1
    obtain ⟨j,hj,hno⟩:=MO nd hs;and_intros;refine ⟨.sh,(bB k m es).map aV,.sh,aV s,j,rfl,rfl,rfl,rfl,by rw [List.all_map];exact Cw,vD,by rw [OG,hj];rfl,hno,?_⟩
    have lft:∀ c:List Nat,lf (tD c)=true:=fun c=>by
     show lf (.tuple (c.map iD))=true;rw [lf,oE,List.all_map];exact OC.mpr fun _ _=>rfl
    have gj:((bB k m es).map fun t=>tD (aG es ls t))[j]?=some (tD (aG es ls s)):=by rw [OG,hj];rfl
    simp only [dv,dw,dx,dy,dz,Nat.reduceBEq,gj,hj,lft];exact hI _ rfl
   ·and_intros;rw [hB9];clear hB9;and_intros;refine bN rfl (bN rfl ?_);rw [ec,Me];refine ⟨⟨FN _,FN _⟩,?_⟩;rw [decide_eq_true rfl];exact q
def Ck {m:Nat}{ls ks:List Nat}(L:cZ m ls)(h:ks.Sublist ls):cZ m ks:=⟨L.up.sublist h,fun l hl=>L.lt l (h.subset hl)⟩
def DK {α:Type}{l:List α}{k:Nat}:(l.take k++l.drop (k + 1)).Sublist l:=by
 have h:(l.drop (k + 1)).Sublist (l.drop k):=by
  rw [<- List.drop_drop];exact List.drop_sublist _ _
 have:=(List.Sublist.refl (l.take k)).append h;rwa [List.take_append_drop] at this
def EX:∀ ds Q x,rX ds Q x->l6 nG qI qC gJ uI m9 qw (aW [false] Q x) (ini [false] ds++List.replicate 9 none):=by
 rintro _ Q x ⟨ns,rfl,hn,q⟩;unfold l6;and_intros;refine ⟨ns,4,rfl,by omega,by omega,fun cs hcs=>?_⟩
 and_intros;have e1:(if (cs.length:Int) > 1 then (cs.length:Int) else 1)=((max 1 cs.length:Nat):Int):=by split <;> omega
 rw [e1,if_pos (by omega)]
 refine bN rfl ?_;simp only [dz];refine LP (fun i E=>∃ o2 o3 o4 o5 o6 o7 o8 o9:Option (Kd×PyData),E=[some (.sh,.list (ns.map .int)),some (.ow false,.list (cs.map .int)),o2,o3,o4,o5,o6,o7,o8,o9]/\bS o2=true/\bS o3=true/\bS o4=true/\bS o5=true/\bS o6=true/\bS o7=true/\bS o8=true/\bS o9=true) ⟨none,none,none,none,none,none,none,none,rfl,rfl,rfl,rfl,rfl,rfl,rfl,rfl,rfl⟩ ?_ ?_
 ·rintro J k _ hk hJ ⟨o2,o3,o4,o5,o6,o7,o8,o9,rfl,h2,h3,h4,h5,h6,h7,h8,h9⟩;simp only [dv,dw,dx,dy,dz,Nat.reduceBEq,h2];refine ⟨cs,k,rfl,by omega,by omega,fun a b b0 b1=>?_⟩
  simp only [dv,dw,dx,dy,dz,Nat.reduceBEq,h3];refine ⟨by omega,a,b,8,rfl,by omega,by omega,b0,b1,fun r a b hr b0 b1=>?_⟩
  and_intros;have ⟨mo,h0,h60,em⟩:∃ mo:Nat,0 < mo/\mo<=60/\dg [PyData.int 24,PyData.int 60] (if (r:Int)=0 then 1 else 0)=some (iD mo):=by
   split
   ·exact ⟨60,by omega,by omega,rfl⟩
   ·exact ⟨24,by omega,by omega,rfl⟩
  refine bN em ?_;refine ⟨a,b,mo,rfl,h0,h60,b0,b1,fun m es a b hm W ht b0 b1=>?_⟩
  have hpos:=W.pos;simp only [dv,dw,dx,dy,dz,Nat.reduceBEq,h4];refine ⟨m,es,rfl,W,fun en Le=>?_⟩
  have hen:=Le.len;simp only [dv,dw,dx,dy,dz,Nat.reduceBEq,h5];refine ⟨a,b,en.length + 1,rfl,by omega,by omega,b0,b1,fun at' a b hat b0 b1=>?_⟩
  simp only [dv,dw,dx,dy,dz,Nat.reduceBEq,h6];refine ⟨a,b,m,rfl,by omega,b0,b1,fun l1 a b L1 b0 b1=>?_⟩
  and_intros;refine ⟨a,b,m,rfl,by omega,b0,b1,fun l2 a b L2 b0 b1=>?_⟩
  have e4:(at':Int) + 1=((at' + 1:Nat):Int):=rfl;simp only [dv,dw,dx,dy,dz,Nat.reduceBEq,e4,h7];have htk:=List.length_take_le at' en;have hdr:(en.drop (at' + 1)).length<=en.length:=by rw [List.length_drop];omega
  refine ⟨by omega,by omega,by omega,by omega,?_⟩
  rw [show [nD l1,nD l2,nD en,PyData.list (List.map iD (List.take at' en)++List.map iD (List.drop (at' + 1) en))]=[l1,l2,en,en.take at'++en.drop (at' + 1)].map nD by
   show _=[nD l1,nD l2,nD en,nD (en.take at'++en.drop (at' + 1))];unfold nD;rw [List.map_append]]
  refine lW (fun i E=>∃ (o8 o9:Option (Kd×PyData)),E=[some (.sh,.list (ns.map .int)),some (.ow false,.list (cs.map .int)),some (.sh,iD k),some (.ow false,jf a b),some (.sh,wD m es),some (.sh,nD en),some (.sh,iD at'),some (.sh,.list [nD l1,nD l2]),o8,o9]/\bS o8=true/\bS o9=true) ⟨o8,o9,rfl,h8,h9⟩ ?_ ?_
  ·rintro J i ls _ hi hJ ⟨o8,o9,rfl,h8,h9⟩;have L:cZ m ls:=by
    have:=OO hi;simp only [O9,OW,or_false] at this;rcases this with rfl | rfl | rfl | rfl
    ·exact L1
    ·exact L2
    ·exact Le
    ·exact Ck Le DK
   simp only [dv,dw,dx,dy,dz,Nat.reduceBEq,h8];refine ⟨by omega,?_⟩
   rw [show [PyData.str "places",PyData.str "ties",PyData.str "all"]=([("places":Str),"ties","all"]:List Str).map PyData.str from rfl]
   refine lW (fun i E=>∃ (o9:Option (Kd×PyData)),E=[some (.sh,.list (ns.map .int)),some (.ow false,.list (cs.map .int)),some (.sh,iD k),some (.ow false,jf a b),some (.sh,wD m es),some (.sh,nD en),some (.sh,iD at'),some (.sh,.list [nD l1,nD l2]),some (.sh,nD ls),o9]/\bS o9=true) ⟨o9,rfl,h9⟩ ?_ ?_
   ·rintro J i kd _ hi hJ ⟨o9,rfl,h9⟩;have hk:qp kd:=by
     have:=OO hi;simp only [O9,OW,or_false] at this;exact this
    simp only [dv,dw,dx,dy,dz,Nat.reduceBEq,h9];refine ⟨m,es,ls,kd,rfl,W,ht,L,hk,?_⟩;and_intros;exact hJ _ ⟨_,rfl,rfl⟩
   ·rintro _ ⟨o9,rfl,h9⟩;exact hJ _ ⟨_,o9,rfl,rfl,h9⟩
  ·rintro _ ⟨o8,o9,rfl,h8,h9⟩;exact hJ _ ⟨_,_,_,_,_,_,o8,o9,rfl,rfl,rfl,rfl,rfl,rfl,rfl,h8,h9⟩
 ·rintro _ ⟨o2,o3,o4,o5,o6,o7,o8,o9,rfl,h2,h3,h4,h5,h6,h7,h8,h9⟩;and_intros;exact q
end PB
namespace Lo
open PySem L2 PySem.W Dv PB
def top (i:Nat):Stmt:=PySem.Challenge.pw_farhail_k19_tree_likes_told.main.body.getD i (.Pass ⟨0,0,0,0⟩)
structure Txt (K:Frag)(mg:Str->Option Value):Prop where
 abs:mg "abs"=none
 bool:mg "bool"=none
 enumerate:mg "enumerate"=none
 int:mg "int"=none
 isinstance:mg "isinstance"=none
 len:mg "len"=none
 list:mg "list"=none
 max:mg "max"=none
 min:mg "min"=none
 range:mg "range"=none
 set:mg "set"=none
 sorted:mg "sorted"=none
 tuple:mg "tuple"=none
 zip:mg "zip"=none
 Hh:∃ C,mg "NoLooks"=some (.ref C)/\gU K C uz "ValueError.__new__" none=true
 IA:∃ C,mg "NoPlace"=some (.ref C)/\gU K C uz "ValueError.__new__" none=true
 JY:∃ C,mg "NoTree"=some (.ref C)/\gU K C uz "ValueError.__new__" none=true
 kit:uV K ["bool","int","tuple"]=true
 D3:kitAny K (.type "int") [.type "int",.type "tuple"]=some true
 El:kitAny K (.type "tuple") [.type "int",.type "tuple"]=some true
section
variable {P:Program}{w:World}{K:Frag}{mg:Str->Option Value}{base:Heap}
abbrev jD:Stmt:=top 23
abbrev vz (P:Program)(w:World)(K:Frag)(mg:Str->Option Value)(base:Heap):Prop:=bZ P w K mg base 1 "_law_cells" ["script","many"] (aN mg K [false,false] nG)
def jN:aB ["script","many","cells","k","cell"] ["script","many"] (ao jD):=by ac_rfl
def wO (T:Txt K mg){f:Addr}{fd:FuncData}(F:cH K "_law_cells" "_law_cells" jD f fd):aX P w K mg base (bF P w) 1 f fd ["script","many"] (aN mg K [false,false] nG) :=
 bK (m:=3) F jN rfl (by decide) (d:=fY) (fun cdv A outer s H Ex hr=>have hu:=hr.units;ah (aZ 2 jN.nd (oF T.list (aE (B0 (aP 0 (aP 1 a0))) a0))) (ah (gA PassesOwn.leaving jN.nd (Nr T.enumerate (Je (aP 0 (aP 1 (aE (xI) a0))))) (gT (gC 3 (gC 4 g0))) (ak (rH 2 hu (fK (aE (ny (aE (bH hu (aP 2 (aE (kY (aP 3 (aP 1 a0))) a0))) (aE (xI) a0))) (aP 4 a0))) (kY (aP 3 (aP 1 a0)))))) (ak (qG 2)))) PB.Ea
abbrev kT:Stmt:=top 24
abbrev x9 (P:Program)(w:World)(K:Frag)(mg:Str->Option Value)(base:Heap):Prop:=bZ P w K mg base 1 "_law_pool" ["cells","k"] (aN mg K [false,false] qI)
def fQ:aB ["cells","k","cell","rest"] ["cells","k"] (ao kT):=by ac_rfl
def yi (T:Txt K mg){f:Addr}{fd:FuncData}(F:cH K "_law_pool" "_law_pool" kT f fd):aX P w K mg base (bF P w) 1 f fd ["cells","k"] (aN mg K [false,false] qI) :=
 bK (m:=2) F fQ rfl (by decide) (d:=gY) (fun cdv A outer s H Ex hr=>have hu:=hr.units;ah (aZ 2 fQ.nd (xI)) (Ca (jg (bX.st (Gd (aE (iY T.len (aP 0 a0)) (aE (xI) a0)))) (ak (aZ 2 fQ.nd (fK (aE (bH hu (aP 0 (aE (kY (aP 1 (aE (iY T.len (aP 0 a0)) a0))) a0))) (aE (Ai (aP 1 (aE (iY T.len (aP 0 a0)) a0))) a0))))) (cU)) (ah (aZ 3 fQ.nd (xI)) (Ca (jg (bX.st (rB.yU (lq (MX (aP 2 (aE (xI) a0))) (nZ (NV (aP 2 (aE (Nj (aE (xI) (aE (xI) a0))) a0))))))) (ak (aZ 3 fQ.nd (NJ T.abs (aP 2 a0)))) (cU)) (ak (cy (eV (aP 3 (aE (kY (aE (fK (aE (ny (aE (kY (aP 2 (aE (xI) a0))) (aE (xI) a0))) (aE (ny (aE (ny (aE (xI) (aE (fK (aP 1 (aE (xI) a0))) a0))) (aE (fK (aP 1 (aE (xI) a0))) a0))) a0))) (aE (xI) a0))) a0))))))))) PB.Hs
abbrev kH:Stmt:=top 25
abbrev iI (P:Program)(w:World)(K:Frag)(mg:Str->Option Value)(base:Heap):Prop:=bZ P w K mg base 1 "_law_take" ["pool","many"] (aN mg K [true,false] gJ)
def oU:aB ["pool","many","found"] ["pool","many"] (ao kH):=by ac_rfl
def xZ (T:Txt K mg){f:Addr}{fd:FuncData}(F:cH K "_law_take" "_law_take" kH f fd):aX P w K mg base (bF P w) 1 f fd ["pool","many"] (aN mg K [true,false] gJ) :=
 bK (m:=1) F oU rfl (by decide) (d:=gP) (fun cdv A outer s H Ex hr=>have hu:=hr.units;ah (jg (bX.st (Gd (aE (bH hu (aP 0 (aE (xI) a0))) (aE (xI) a0)))) (ah (aZ 2 oU.nd (kY (aE (bH hu (aP 0 (aE (xI) a0))) (aP 1 a0)))) (ah (rH 0 hu (Ai (aE (bH hu (aP 0 (aE (xI) a0))) (aP 1 a0))) (xI)) (ak (qG 2)))) (cU)) (ah (rH 0 hu (kY (aE (fK (aE (ny (aE (bH hu (aP 0 (aE (xI) a0))) (aE (xI) a0))) (aE (xI) a0))) (aE (xI) a0))) (xI)) (ak (cy (kY (aE (Ai (aE (kY (aE (ny (aE (kY (aE (ny (aE (bH hu (aP 0 (aE (xI) a0))) (aE (bH hu (aP 0 (aE (xI) a0))) a0))) (aE (xI) a0))) (aE (xI) a0))) (aE (xI) a0))) (aE (xI) a0))) (aP 1 a0))))))) PB.Hq
abbrev kD:Stmt:=top 26
abbrev yo (P:Program)(w:World)(K:Frag)(mg:Str->Option Value)(base:Heap):Prop:=bZ P w K mg base 2 "_law_some" ["pool","menu","many"] (aN mg K [true,false,false] rE)
def pF:aB ["pool","menu","many","rest"] ["pool","menu","many"] (ao kD):=by ac_rfl
def yb (T:Txt K mg)(h_law_take:iI P w K mg base){f:Addr}{fd:FuncData}(F:cH K "_law_some" "_law_some" kD f fd):aX P w K mg base (bF P w) 2 f fd ["pool","menu","many"] (aN mg K [true,false,false] rE) :=
 bK (m:=2) F pF rfl (by decide) (d:=gW gJ) (fun cdv A outer s H Ex hr=>ah (aZ 3 pF.nd (oF T.list (aP 1 a0))) (ak (cy (i8 (vs:=["k"]) (NB:=["k","rest","pool"]) (ix:=[3,0]) (by rfl) (yD T.range (aP 2 a0)) (fun _ _ _ _=>gN 0) (fun _ _ _ _=>.nil) (fun _ _ _ _ _=>eu (xM 1 Iu IG PySem.F.slot_list_pop PySem.F.type_list_pop (eC (aM h_law_take n9 hr (aP 2 (aE (iY T.len (aP 1 a0)) a0))) e0))))))) PB.GU
abbrev jG:Stmt:=top 27
abbrev xD (P:Program)(w:World)(K:Frag)(mg:Str->Option Value)(base:Heap):Prop:=bZ P w K mg base 3 "_law_named" ["pool","many","ties"] (aN mg K [true,false,false] nE)
def nk:aB ["pool","many","ties","names"] ["pool","many","ties"] (ao jG):=by ac_rfl
def wG (T:Txt K mg)(h_law_some:yo P w K mg base){f:Addr}{fd:FuncData}(F:cH K "_law_named" "_law_named" jG f fd):aX P w K mg base (bF P w) 3 f fd ["pool","many","ties"] (aN mg K [true,false,false] nE) :=
 bK (m:=3) F nk rfl (by decide) (d:=fG rE) (fun cdv A outer s H Ex hr=>have hu:=hr.units;ah (aZ 3 nk.nd (aM h_law_some bg hr (aP 0 (aE (u5 T.list T.range (aP 1 a0)) (aP 1 a0))))) (ak (cy (Ax (aP 1 (aE (xH T.tuple (aE (Ld T.sorted (aE (i8 (vs:=["a","b"]) (NB:=["a","b","names"]) (ix:=[3]) (by rfl) (dM (xV 2)) (fun _ _ _ _=>gT (gC 0 (gC 1 g0))) (fun _ _ _ _=>.nil) (fun _ _ _ _ _=>eu (Ax (aE (AA T.min (aE (bH hu (aP 2 (aP 0 a0))) (aE (bH hu (aP 2 (aP 1 a0))) a0))) (aE (Es T.max (aE (bH hu (aP 2 (aP 0 a0))) (aE (bH hu (aP 2 (aP 1 a0))) a0))) a0))))) a0)) a0)) a0)))))) PB.EG
abbrev kK:Stmt:=top 28
abbrev ye (P:Program)(w:World)(K:Frag)(mg:Str->Option Value)(base:Heap):Prop:=bZ P w K mg base 4 "_law_tree" ["pool","most"] (aN mg K [true,false] qC)
def eU:aB ["pool","most","many","shape","ties","k","ahead"] ["pool","most"] (ao kK):=by ac_rfl
def yc (T:Txt K mg)(h_law_take:iI P w K mg base)(h_law_named:xD P w K mg base){f:Addr}{fd:FuncData}(F:cH K "_law_tree" "_law_tree" kK f fd):aX P w K mg base (bF P w) 4 f fd ["pool","most"] (aN mg K [true,false] qC) :=
 bK (m:=5) F eU rfl (by decide) (d:=gK gJ nE) (fun cdv A outer s H Ex hr=>have hu:=hr.units;ah (aZ 2 eU.nd (fK (aE (xI) (aE (aM h_law_take bg hr (aP 0 (aP 1 a0))) a0)))) (ah (aZ 3 eU.nd (aM h_law_take bg hr (aP 0 (aE (xI) a0)))) (ah (aZ 4 eU.nd (eV a0)) (ah (gA PassesOwn.leaving eU.nd (NT T.range (aE (xI) (aP 2 a0))) (gN 5) (ah (aZ 6 eU.nd (eV (aE (xw (aP 5 (aE (xI) a0))) (aE (xI) (aE (aM h_law_take bg hr (aP 0 (aP 5 a0))) (aE (Es T.max (aE (xI) (aE (xw (aE (xw (aP 5 (aE (xI) a0))) (aE (aM h_law_take bg hr (aP 0 (aE (xI) a0))) a0))) a0))) (aE (aM h_law_take bg hr (aP 0 (aE (AA T.min (aP 5 (aE (xI) a0))) a0))) a0))))))) (ak (gx (xM 4 dX eK PySem.F.slot_list_append PySem.F.type_list_append (eC (Ax (aE (bH hu (aE (fK (aP 6 (aE (eV (aE (Ai (aE (xw (aP 5 (aE (xI) a0))) (aE (xI) a0))) a0)) a0))) (aP 3 a0))) (aP 5 a0))) e0)))))) (ak (cy (aM h_law_named bg hr (aP 0 (aP 2 (aP 4 a0)))))))))) PB.G0
abbrev kU:Stmt:=top 35
abbrev yr (P:Program)(w:World)(K:Frag)(mg:Str->Option Value)(base:Heap):Prop:=bZ P w K mg base 1 "_law_ends" ["web"] (aN mg K [false] uI)
def yj:aB ["web"] ["web"] (ao kU):=by ac_rfl
def x6 (T:Txt K mg){f:Addr}{fd:FuncData}(F:cH K "_law_ends" "_law_ends" kU f fd):aX P w K mg base (bF P w) 1 f fd ["web"] (aN mg K [false] uI) :=
 bK (m:=2) F yj rfl (by decide) (d:=gD) (fun cdv A outer s H Ex hr=>have hu:=hr.units;ak (cy (Ky (cx:="place") (vs:=["place"]) (NB:=["place","web"]) (ix:=[0]) (by rfl) (yD T.range (aE (bH hu (aP 0 (aE (xI) a0))) a0)) (fun _ _ _ _ _=>gN 0) (fun _ _ _ _ _=>.one (bX.st (GL hu (aE (iY T.len (aE (i8 (vs:=["tie"]) (NB:=["tie","place"]) (ix:=[0]) (by rfl) (dM (bH hu (aP 1 (aE (xI) a0)))) (fun _ _ _ _=>gN 0) (fun _ _ _ _=>.one (bX.st (NN hu (aP 1 (aP 0 a0))))) (fun _ _ _ _ _=>eu (xV 0))) a0)) (aE (xI) a0))))) (fun _ _ _ _ _ _=>eu (xV 0))))) PB.Jd
abbrev j5:Stmt:=top 34
abbrev xo (P:Program)(w:World)(K:Frag)(mg:Str->Option Value)(base:Heap):Prop:=bZ P w K mg base 2 "_law_looks" ["pool","many"] (aN mg K [true,false] m9)
def nq:aB ["pool","many","part"] ["pool","many"] (ao j5):=by ac_rfl
def vQ (T:Txt K mg)(h_law_take:iI P w K mg base){f:Addr}{fd:FuncData}(F:cH K "_law_looks" "_law_looks" j5 f fd):aX P w K mg base (bF P w) 2 f fd ["pool","many"] (aN mg K [true,false] m9) :=
 bK (m:=2) F nq rfl (by decide) (d:=fZ gJ) (fun cdv A outer s H Ex hr=>have hu:=hr.units;ah (aZ 2 nq.nd (aM h_law_take bg hr (aP 0 (aE (xI) a0)))) (ak (cy (i8 (vs:=["place"]) (NB:=["place","pool","part"]) (ix:=[0,2]) (by rfl) (yD T.range (aP 1 a0)) (fun _ _ _ _=>gN 0) (fun _ _ _ _=>.one (bX.st (MX (aE (aM h_law_take n9 hr (aP 1 (aE (xI) a0))) (aE (bH hu (aE (eV (aE (xI) (aE (xI) (aE (xI) (aE (xI) (aE (xI) (aE (xI) a0))))))) (aP 2 a0))) a0))))) (fun _ _ _ _ _=>eu (xV 0)))))) PB.Eo
abbrev lV:Stmt:=top 19
abbrev z0 (P:Program)(w:World)(K:Frag)(mg:Str->Option Value)(base:Heap):Prop:=bZ P w K mg base 1 "is_tree" ["web"] (aN mg K [false] w4)
def qV:aB ["web","many","ties"] ["web"] (ao lV):=by ac_rfl
def Aa (T:Txt K mg){f:Addr}{fd:FuncData}(F:cH K "is_tree" "is_tree" lV f fd):aX P w K mg base (bF P w) 1 f fd ["web"] (aN mg K [false] w4) :=
 bK (m:=2) F qV rfl (by decide) (d:=nF) (fun cdv A outer s H Ex hr=>have hu:=hr.units;ah (Dw qV.nd (gC 1 (gC 2 g0)) (xV 0)) (ak (cy (Ga hu (aE (iY T.len (aP 2 a0)) (aE (xw (aP 1 (aE (xI) a0))) a0)))))) PB.Ln
abbrev fF:Stmt:=top 20
abbrev oH (P:Program)(w:World)(K:Frag)(mg:Str->Option Value)(base:Heap):Prop:=bZ P w K mg base 2 "refuse_no_tree" ["web"] (aN mg K [false] wc)
def oJ:aB ["web"] ["web"] (ao fF):=by ac_rfl
def oM (T:Txt K mg)(h_is_tree:z0 P w K mg base){f:Addr}{fd:FuncData}(F:cH K "refuse_no_tree" "refuse_no_tree" fF f fd):aX P w K mg base (bF P w) 2 f fd ["web"] (aN mg K [false] wc) :=
 bK (m:=0) F oJ rfl (by decide) (d:=f6 w4) (fun cdv A outer s H Ex hr=>ak (jg (xJ (bX.st (tU (aM h_is_tree bg hr (aP 0 a0))))) (ak (rN T.JY)) (cU))) PB.J5
abbrev j7:Stmt:=top 13
abbrev wo (P:Program)(w:World)(K:Frag)(mg:Str->Option Value)(base:Heap):Prop:=bZ P w K mg base 1 "are_looks" ["web","looks"] (aN mg K [false,false] vB)
def gO:aB ["web","looks","last","look"] ["web","looks"] (ao j7):=by ac_rfl
def xj (T:Txt K mg){f:Addr}{fd:FuncData}(F:cH K "are_looks" "are_looks" j7 f fd):aX P w K mg base (bF P w) 1 f fd ["web","looks"] (aN mg K [false,false] vB) :=
 bK (m:=2) F gO rfl (by decide) (d:=kM) (fun cdv A outer s H Ex hr=>have hu:=hr.units;ah (aZ 2 gO.nd (ND (aE (xI) a0))) (ah (gA PassesOwn.leaving gO.nd (dM (xV 1)) (gN 3) (ah (jg (xJ (bX.st (tN ue ue rfl (xV 2) (xV 3) (bH hu (aP 0 (aE (xI) a0)))))) (ak (cy (xB))) (cU)) (ak (aZ 2 gO.nd (xV 3))))) (ak (cy (xB))))) PB.KR
abbrev dU:Stmt:=top 14
abbrev lB (P:Program)(w:World)(K:Frag)(mg:Str->Option Value)(base:Heap):Prop:=bZ P w K mg base 2 "refuse_wrong_looks" ["web","looks"] (aN mg K [false,false] sA)
def lO:aB ["web","looks"] ["web","looks"] (ao dU):=by ac_rfl
def lu (T:Txt K mg)(h_are_looks:wo P w K mg base){f:Addr}{fd:FuncData}(F:cH K "refuse_wrong_looks" "refuse_wrong_looks" dU f fd):aX P w K mg base (bF P w) 2 f fd ["web","looks"] (aN mg K [false,false] sA) :=
 bK (m:=0) F lO rfl (by decide) (d:=d8 vB) (fun cdv A outer s H Ex hr=>ak (jg (xJ (bX.st (tU (aM h_are_looks bg hr (aP 0 (aP 1 a0)))))) (ak (rN T.Hh)) (cU))) PB.Jt
abbrev j4:Stmt:=top 12
abbrev wB (P:Program)(w:World)(K:Frag)(mg:Str->Option Value)(base:Heap):Prop:=bZ P w K mg base 1 "things_of" ["web","kind"] (aN mg K [false,false] wX)
def gE:aB ["web","kind","many","ties","places","joins"] ["web","kind"] (ao j4):=by ac_rfl
def wK (T:Txt K mg){f:Addr}{fd:FuncData}(F:cH K "things_of" "things_of" j4 f fd):aX P w K mg base (bF P w) 1 f fd ["web","kind"] (aN mg K [false,false] wX) :=
 bK (m:=4) F gE rfl (by decide) (d:=kW) (fun cdv A outer s H Ex hr=>have hu:=hr.units;ah (Dw gE.nd (gC 2 (gC 3 g0)) (xV 0)) (ah (aZ 4 gE.nd (Av (bX.st (GL hu (aP 1 (aE (xS) a0)))) (eV a0) (u5 T.list T.range (aP 2 a0)))) (ah (aZ 5 gE.nd (Av (bX.st (GL hu (aP 1 (aE (xS) a0)))) (eV a0) (oF T.list (aP 3 a0)))) (ak (cy (fK (aP 4 (aP 5 a0)))))))) PB.J4
abbrev fh:Stmt:=top 8
abbrev nv (P:Program)(w:World)(K:Frag)(mg:Str->Option Value)(base:Heap):Prop:=bZ P w K mg base 1 "refuse_no_place" ["web","place"] (aN mg K [false,false] xr)
def ni:aB ["web","place"] ["web","place"] (ao fh):=by ac_rfl
def nR (T:Txt K mg){f:Addr}{fd:FuncData}(F:cH K "refuse_no_place" "refuse_no_place" fh f fd):aX P w K mg base (bF P w) 1 f fd ["web","place"] (aN mg K [false,false] xr) :=
 bK (m:=0) F ni rfl (by decide) (d:=fH) (fun cdv A outer s H Ex hr=>have hu:=hr.units;ak (jg (xJ (bX.st (tN MI ue rfl (xI) (xV 1) (bH hu (aP 0 (aE (xI) a0)))))) (ak (rN T.IA)) (cU))) PB.IT
abbrev ff:Stmt:=top 6
abbrev m7 (P:Program)(w:World)(K:Frag)(mg:Str->Option Value)(base:Heap):Prop:=bZ P w K mg base 1 "neighbour_lists" ["web"] (aN mg K [false] vL)
def dI:aB ["web","many","ties","lists","one","other"] ["web"] (ao ff):=by ac_rfl
def nA (T:Txt K mg){f:Addr}{fd:FuncData}(F:cH K "neighbour_lists" "neighbour_lists" ff f fd):aX P w K mg base (bF P w) 1 f fd ["web"] (aN mg K [false] vL) :=
 bK (m:=6) F dI rfl (by decide) (d:=fJ) (fun cdv A outer s H Ex hr=>ah (Dw dI.nd (gC 1 (gC 2 g0)) (xV 0)) (ah (KJ (j:=3) dI.nd (vs:=["place"]) (NB:=["place"]) (ix:=[]) (by rfl) (yD T.range (aP 1 a0)) (fun _ _ _ _=>gN 0) (fun _ _ _ _=>.nil) (fun _ _ _ _=>eV a0)) (ah (gA PassesOwn.leaving dI.nd (dM (xV 2)) (gT (gC 4 (gC 5 g0))) (ah (gx (Gz 3 5 dX eK PySem.F.slot_list_append PySem.F.type_list_append (xV 4))) (ak (gx (Gz 3 4 dX eK PySem.F.slot_list_append PySem.F.type_list_append (xV 5)))))) (ak (qG 3))))) PB.K2
abbrev gF:Stmt:=top 7
abbrev qy (P:Program)(w:World)(K:Frag)(mg:Str->Option Value)(base:Heap):Prop:=bZ P w K mg base 2 "fars_or_none" ["web","place"] (aN mg K [false,false] vZ)
def bT:aB ["web","place","lists","fars","edge","reached","here","there"] ["web","place"] (ao gF):=by ac_rfl
def qS (T:Txt K mg)(h_neighbour_lists:m7 P w K mg base){f:Addr}{fd:FuncData}(F:cH K "fars_or_none" "fars_or_none" gF f fd):aX P w K mg base (bF P w) 2 f fd ["web","place"] (aN mg K [false,false] vZ) :=
 bK (m:=6) F bT rfl (by decide) (d:=ig vL) (fun cdv A outer s H Ex hr=>have hu:=hr.units;ah (aZ 2 bT.nd (aM h_neighbour_lists bg hr (aP 0 a0))) (ah (aZ 3 bT.nd (ny (aE (eV (aE (xN) a0)) (aE (bH hu (aP 0 (aE (xI) a0))) a0)))) (ah (rH 3 hu (xI) (xV 1)) (ah (aZ 4 bT.nd (eV (aP 1 a0))) (ah (CP PassesOwn.leaving (tV 4) (ah (aZ 5 bT.nd (eV a0)) (ah (gA PassesOwn.leaving bT.nd (dM (xV 4)) (gN 6) (ak (gA PassesOwn.leaving bT.nd (dM (bH hu (aP 2 (aP 6 a0)))) (gN 7) (ak (jg (bX.st (MS (aE (bH hu (aP 3 (aP 7 a0))) (aE (xN) a0)))) (ah (rH 3 hu (fK (aE (bH hu (aP 3 (aP 6 a0))) (aE (xI) a0))) (xV 7)) (ak (gx (xM 5 dX eK PySem.F.slot_list_append PySem.F.type_list_append (eC (xV 7) e0))))) (cU)))))) (ak (aZ 4 bT.nd (xV 5)))))) (ak (qG 3))))))) PB.J6
abbrev jU:Stmt:=top 9
abbrev uC (P:Program)(w:World)(K:Frag)(mg:Str->Option Value)(base:Heap):Prop:=bZ P w K mg base 3 "fars_from" ["web","place"] (aN mg K [false,false] wF)
def vJ:aB ["web","place"] ["web","place"] (ao jU):=by ac_rfl
def xm (T:Txt K mg)(h_refuse_no_place:nv P w K mg base)(h_fars_or_none:qy P w K mg base){f:Addr}{fd:FuncData}(F:cH K "fars_from" "fars_from" jU f fd):aX P w K mg base (bF P w) 3 f fd ["web","place"] (aN mg K [false,false] wF) :=
 bK (m:=0) F vJ rfl (by decide) (d:=kP xr vZ) (fun cdv A outer s H Ex hr=>ah (gx (aM h_refuse_no_place bg hr (aP 0 (aP 1 a0)))) (ak (cy (aM h_fars_or_none bg hr (aP 0 (aP 1 a0)))))) PB.K6
abbrev iZ:Stmt:=top 10
abbrev ud (P:Program)(w:World)(K:Frag)(mg:Str->Option Value)(base:Heap):Prop:=bZ P w K mg base 1 "nearer_end" ["fars","tie"] (aN mg K [false,false] wL)
def t6:aB ["fars","tie"] ["fars","tie"] (ao iZ):=by ac_rfl
def t8 (T:Txt K mg){f:Addr}{fd:FuncData}(F:cH K "nearer_end" "nearer_end" iZ f fd):aX P w K mg base (bF P w) 1 f fd ["fars","tie"] (aN mg K [false,false] wL) :=
 bK (m:=0) F t6 rfl (by decide) (d:=j6) (fun cdv A outer s H Ex hr=>have hu:=hr.units;ak (cy (AA T.min (aE (bH hu (aP 0 (aE (bH hu (aP 1 (aE (xI) a0))) a0))) (aE (bH hu (aP 0 (aE (bH hu (aP 1 (aE (xI) a0))) a0))) a0))))) PB.JJ
abbrev jX:Stmt:=top 15
abbrev wN (P:Program)(w:World)(K:Frag)(mg:Str->Option Value)(base:Heap):Prop:=bZ P w K mg base 2 "thing_far" ["fars","thing"] (aN mg K [false,false] vE)
def vO:aB ["fars","thing"] ["fars","thing"] (ao jX):=by ac_rfl
def uJ (T:Txt K mg)(h_nearer_end:ud P w K mg base){f:Addr}{fd:FuncData}(F:cH K "thing_far" "thing_far" jX f fd):aX P w K mg base (bF P w) 2 f fd ["fars","thing"] (aN mg K [false,false] vE) :=
 bK (m:=0) F vO rfl (by decide) (d:=kE wL) (fun cdv A outer s H Ex hr=>have hu:=hr.units;ah (jg (bX.st (tU (Al T.kit T.isinstance T.int PyProof.Rows.boot_int (aP 1 a0)))) (ak (cy (bH hu (aP 0 (aP 1 a0))))) (cU)) (ak (cy (aM h_nearer_end bg hr (aP 0 (aP 1 a0)))))) PB.JF
abbrev kG:Stmt:=top 16
abbrev xQ (P:Program)(w:World)(K:Frag)(mg:Str->Option Value)(base:Heap):Prop:=bZ P w K mg base 4 "codes_of" ["web","looks","things"] (aN mg K [false,false,false] wu)
def oR:aB ["web","looks","things","rows"] ["web","looks","things"] (ao kG):=by ac_rfl
def xU (T:Txt K mg)(h_fars_from:uC P w K mg base)(h_thing_far:wN P w K mg base){f:Addr}{fd:FuncData}(F:cH K "codes_of" "codes_of" kG f fd):aX P w K mg base (bF P w) 4 f fd ["web","looks","things"] (aN mg K [false,false,false] wu) :=
 bK (m:=3) F oR rfl (by decide) (d:=mC wF vE) (fun cdv A outer s H Ex hr=>ah (aZ 3 oR.nd (i8 (vs:=["look"]) (NB:=["look","web"]) (ix:=[0]) (by rfl) (dM (xV 1)) (fun _ _ _ _=>gN 0) (fun _ _ _ _=>.nil) (fun _ _ _ _ _=>eu (aM h_fars_from n9 hr (aP 1 (aP 0 a0)))))) (ak (cy (Ky (cx:="thing") (vs:=["thing"]) (NB:=["thing","rows"]) (ix:=[3]) (by rfl) (dM (xV 2)) (fun _ _ _ _ _=>gN 0) (fun _ _ _ _ _=>.nil) (fun _ _ _ _ _ _=>eu (i8 (vs:=["fars"]) (NB:=["fars","thing"]) (ix:=[0]) (by rfl) (dM (xV 1)) (fun _ _ _ _=>gN 0) (fun _ _ _ _=>.nil) (fun _ _ _ _ _=>eu (aM h_thing_far n9 hr (aP 0 (aP 1 a0)))))))))) PB.IP
abbrev kQ:Stmt:=top 17
abbrev yu (P:Program)(w:World)(K:Frag)(mg:Str->Option Value)(base:Heap):Prop:=bZ P w K mg base 5 "likes_by" ["web","looks","kind"] (aN mg K [false,false,false] w6)
def iC:aB ["web","looks","kind","things","alike","thing","code"] ["web","looks","kind"] (ao kQ):=by ac_rfl
def yf (T:Txt K mg)(h_refuse_wrong_looks:lB P w K mg base)(h_things_of:wB P w K mg base)(h_codes_of:xQ P w K mg base){f:Addr}{fd:FuncData}(F:cH K "likes_by" "likes_by" kQ f fd):aX P w K mg base (bF P w) 5 f fd ["web","looks","kind"] (aN mg K [false,false,false] w6) :=
 bK (m:=5) F iC rfl (by decide) (d:=l8 sA wX wu) (fun cdv A outer s H Ex hr=>have hu:=hr.units;ah (gx (aM h_refuse_wrong_looks bg hr (aP 0 (aP 1 a0)))) (ah (aZ 3 iC.nd (aM h_things_of bg hr (aP 0 (aP 2 a0)))) (ah (aZ 4 iC.nd (MF)) (ah (gA PassesOwn.leaving iC.nd (E9 T.zip (xV 3) (aM h_codes_of bg hr (aP 0 (aP 1 (aP 3 a0))))) (gT (gC 5 (gC 6 g0))) (ak (gx (Nq 4 6 5 hu T.tuple)))) (ak (cy (i8 (vs:=["group"]) (NB:=["group"]) (ix:=[]) (by rfl) (JX 4) (fun _ _ _ _=>gN 0) (fun _ _ _ _=>.one (bX.st (Gd (aE (iY T.len (aP 0 a0)) (aE (xI) a0))))) (fun _ _ _ _ _=>eu (xV 0))))))))) PB.J0
abbrev i6:Stmt:=top 21
abbrev t9 (P:Program)(w:World)(K:Frag)(mg:Str->Option Value)(base:Heap):Prop:=bZ P w K mg base 6 "tree_likes" ["web","looks","kind"] (aN mg K [false,false,false] vG)
def mP:aB ["web","looks","kind","likes"] ["web","looks","kind"] (ao i6):=by ac_rfl
def tY (T:Txt K mg)(h_refuse_no_tree:oH P w K mg base)(h_likes_by:yu P w K mg base){f:Addr}{fd:FuncData}(F:cH K "tree_likes" "tree_likes" i6 f fd):aX P w K mg base (bF P w) 6 f fd ["web","looks","kind"] (aN mg K [false,false,false] vG) :=
 bK (m:=1) F mP rfl (by decide) (d:=jS wc w6) (fun cdv A outer s H Ex hr=>have hu:=hr.units;ah (gx (aM h_refuse_no_tree bg hr (aP 0 a0))) (ah (aZ 3 mP.nd (aM h_likes_by bg hr (aP 0 (aP 1 (aP 2 a0))))) (ak (cy (Av (tV 3) (Ax (aE (bH hu (aE (bH hu (aP 3 (aE (xI) a0))) (aE (xI) a0))) (aE (bH hu (aE (bH hu (aP 3 (aE (xI) a0))) (aE (xI) a0))) a0))) (xN)))))) PB.Lv
abbrev kF:Stmt:=top 29
abbrev xT (P:Program)(w:World)(K:Frag)(mg:Str->Option Value)(base:Heap):Prop:=bZ P w K mg base 1 "_law_near" ["web"] (aN mg K [false] uH)
def kL:aB ["web","found","a","b"] ["web"] (ao kF):=by ac_rfl
def xP (T:Txt K mg){f:Addr}{fd:FuncData}(F:cH K "_law_near" "_law_near" kF f fd):aX P w K mg base (bF P w) 1 f fd ["web"] (aN mg K [false] uH) :=
 bK (m:=4) F kL rfl (by decide) (d:=gI) (fun cdv A outer s H Ex hr=>have hu:=hr.units;ah (KJ (j:=1) kL.nd (vs:=["place"]) (NB:=["place"]) (ix:=[]) (by rfl) (yD T.range (aE (bH hu (aP 0 (aE (xI) a0))) a0)) (fun _ _ _ _=>gN 0) (fun _ _ _ _=>.nil) (fun _ _ _ _=>eV a0)) (ah (gA PassesOwn.leaving kL.nd (dM (bH hu (aP 0 (aE (xI) a0)))) (gT (gC 2 (gC 3 g0))) (ah (gx (Gz 1 3 dX eK PySem.F.slot_list_append PySem.F.type_list_append (xV 2))) (ak (gx (Gz 1 2 dX eK PySem.F.slot_list_append PySem.F.type_list_append (xV 3)))))) (ak (cy (i8 (vs:=["row"]) (NB:=["row"]) (ix:=[]) (by rfl) (dM (xV 1)) (fun _ _ _ _=>gN 0) (fun _ _ _ _=>.nil) (fun _ _ _ _ _=>eu (Ja T.sorted (aP 0 a0)))))))) PB.Kc
abbrev jH:Stmt:=top 30
abbrev xx (P:Program)(w:World)(K:Frag)(mg:Str->Option Value)(base:Heap):Prop:=bZ P w K mg base 1 "_law_steps" ["near","place"] (aN mg K [false,false] xK)
def dh:aB ["near","place","found","edge","beyond","one","other"] ["near","place"] (ao jH):=by ac_rfl
def wY (T:Txt K mg){f:Addr}{fd:FuncData}(F:cH K "_law_steps" "_law_steps" jH f fd):aX P w K mg base (bF P w) 1 f fd ["near","place"] (aN mg K [false,false] xK) :=
 bK (m:=5) F dh rfl (by decide) (d:=fW) (fun cdv A outer s H Ex hr=>have hu:=hr.units;ah (aZ 2 dh.nd (Ly (aE (xV 1) (aE (xI) a0)))) (ah (aZ 3 dh.nd (eV (aP 1 a0))) (ah (CP PassesOwn.leaving (bX.st (Gd (aE (iY T.len (aP 3 a0)) (aE (xI) a0)))) (ah (aZ 4 dh.nd (eV a0)) (ah (gA PassesOwn.leaving dh.nd (dM (xV 3)) (gN 5) (ak (gA PassesOwn.leaving dh.nd (dM (bH hu (aP 0 (aP 5 a0)))) (gN 6) (ak (jg (bX.st (Jx hu (aP 6 (aP 2 a0)))) (ah (rH 2 hu (fK (aE (bH hu (aP 2 (aP 5 a0))) (aE (xI) a0))) (xV 6)) (ak (gx (xM 4 dX eK PySem.F.slot_list_append PySem.F.type_list_append (eC (xV 6) e0))))) (cU)))))) (ak (aZ 3 dh.nd (xV 4)))))) (ak (qG 2))))) PB.JQ
abbrev kX:Stmt:=top 32
abbrev yw (P:Program)(w:World)(K:Frag)(mg:Str->Option Value)(base:Heap):Prop:=bZ P w K mg base 1 "_law_code" ["steps","thing"] (aN mg K [false,false] xO)
def yl:aB ["steps","thing"] ["steps","thing"] (ao kX):=by ac_rfl
def yh (T:Txt K mg){f:Addr}{fd:FuncData}(F:cH K "_law_code" "_law_code" kX f fd):aX P w K mg base (bF P w) 1 f fd ["steps","thing"] (aN mg K [false,false] xO) :=
 bK (m:=1) F yl rfl (by decide) (d:=gB) (fun cdv A outer s H Ex hr=>have hu:=hr.units;ah (jg (bX.st (tU (Al T.kit T.isinstance T.tuple PyProof.Rows.boot_tuple (aP 1 a0)))) (ak (cy (xH T.tuple (aE (i8 (vs:=["row"]) (NB:=["row","thing"]) (ix:=[1]) (by rfl) (dM (xV 0)) (fun _ _ _ _=>gN 0) (fun _ _ _ _=>.nil) (fun _ _ _ _ _=>eu (AA T.min (aE (bH hu (aP 0 (aE (bH hu (aP 1 (aE (xI) a0))) a0))) (aE (bH hu (aP 0 (aE (bH hu (aP 1 (aE (xI) a0))) a0))) a0))))) a0)))) (cU)) (ak (cy (xH T.tuple (aE (i8 (vs:=["row"]) (NB:=["row","thing"]) (ix:=[1]) (by rfl) (dM (xV 0)) (fun _ _ _ _=>gN 0) (fun _ _ _ _=>.nil) (fun _ _ _ _ _=>eu (bH hu (aP 0 (aP 1 a0))))) a0))))) PB.Kw
abbrev iV:Stmt:=top 31
abbrev mW (P:Program)(w:World)(K:Frag)(mg:Str->Option Value)(base:Heap):Prop:=bZ P w K mg base 1 "_law_things" ["web","kind"] (aN mg K [false,false] pL)
def mR:aB ["web","kind","places"] ["web","kind"] (ao iV):=by ac_rfl
def uc (T:Txt K mg){f:Addr}{fd:FuncData}(F:cH K "_law_things" "_law_things" iV f fd):aX P w K mg base (bF P w) 1 f fd ["web","kind"] (aN mg K [false,false] pL) :=
 bK (m:=1) F mR rfl (by decide) (d:=fM) (fun cdv A outer s H Ex hr=>have hu:=hr.units;ah (aZ 2 mR.nd (u5 T.list T.range (aE (bH hu (aP 0 (aE (xI) a0))) a0))) (ak (cy (bH hu (aE (JK (aE (xS) (aE (xV 2) (aE (xS) (aE (oF T.list (aE (bH hu (aP 0 (aE (xI) a0))) a0)) (aE (xS) (aE (fK (aP 2 (aE (oF T.list (aE (bH hu (aP 0 (aE (xI) a0))) a0)) a0))) a0))))))) (aP 1 a0)))))) PB.JM
abbrev j8:Stmt:=top 33
abbrev xq (P:Program)(w:World)(K:Frag)(mg:Str->Option Value)(base:Heap):Prop:=bZ P w K mg base 2 "_law_codes" ["web","looks","kind"] (aN mg K [false,false,false] wU)
def jF:aB ["web","looks","kind","near","steps"] ["web","looks","kind"] (ao j8):=by ac_rfl
def wW (T:Txt K mg)(h_law_near:xT P w K mg base)(h_law_steps:xx P w K mg base)(h_law_things:mW P w K mg base)(h_law_code:yw P w K mg base){f:Addr}{fd:FuncData}(F:cH K "_law_codes" "_law_codes" j8 f fd):aX P w K mg base (bF P w) 2 f fd ["web","looks","kind"] (aN mg K [false,false,false] wU) :=
 bK (m:=3) F jF rfl (by decide) (d:=fU uH xK pL xO) (fun cdv A outer s H Ex hr=>ah (aZ 3 jF.nd (aM h_law_near bg hr (aP 0 a0))) (ah (aZ 4 jF.nd (i8 (vs:=["look"]) (NB:=["look","near"]) (ix:=[3]) (by rfl) (dM (xV 1)) (fun _ _ _ _=>gN 0) (fun _ _ _ _=>.nil) (fun _ _ _ _ _=>eu (aM h_law_steps n9 hr (aP 1 (aP 0 a0)))))) (ak (cy (i8 (vs:=["thing"]) (NB:=["thing","steps"]) (ix:=[4]) (by rfl) (dM (aM h_law_things bg hr (aP 0 (aP 2 a0)))) (fun _ _ _ _=>gN 0) (fun _ _ _ _=>.nil) (fun _ _ _ _ _=>eu (aM h_law_code n9 hr (aP 1 (aP 0 a0))))))))) PB.K5
abbrev jQ:Stmt:=top 36
abbrev vA (P:Program)(w:World)(K:Frag)(mg:Str->Option Value)(base:Heap):Prop:=bZ P w K mg base 7 "_law_right" ["web","looks","kind"] (aN mg K [false,false,false] qw)
def c8:aB ["web","looks","kind","handed","found","codes","things","one","both"] ["web","looks","kind"] (ao jQ):=by ac_rfl
def vm (T:Txt K mg)(h_tree_likes:t9 P w K mg base)(h_law_codes:xq P w K mg base)(h_law_things:mW P w K mg base){f:Addr}{fd:FuncData}(F:cH K "_law_right" "_law_right" jQ f fd):aX P w K mg base (bF P w) 7 f fd ["web","looks","kind"] (aN mg K [false,false,false] qw) :=
 bK (m:=7) F c8 rfl (by decide) (d:=fV vG wU pL) (fun cdv A outer s H Ex hr=>have hu:=hr.units;ah (aZ 3 c8.nd (oF T.list (aP 1 a0))) (ah (aZ 4 c8.nd (aM h_tree_likes bg hr (aP 0 (aP 3 (aP 2 a0))))) (ah (aZ 5 c8.nd (aM h_law_codes bg hr (aP 0 (aP 1 (aP 2 a0))))) (ah (jg (bX.st (rB.yU (lq (KI hu (aP 3 (aP 1 a0))) (nZ (KI hu (aE (aM h_tree_likes bg hr (aP 0 (aP 3 (aP 2 a0)))) (aP 4 a0))))))) (ak (cy (xB))) (cU)) (ah (jg (bX.st (MS (aP 4 (aE (xN) a0)))) (ak (cy (Ga hu (aE (Lf hu T.len T.set (aP 5 a0)) (aE (iY T.len (aP 5 a0)) a0))))) (cU)) (ah (aZ 6 c8.nd (aM h_law_things bg hr (aP 0 (aP 2 a0)))) (ah (jg (bX.st (rB.yU (lq (yS (tU (Al T.kit T.isinstance T.tuple PyProof.Rows.boot_tuple (aP 4 a0)))) (lq (KI hu (aE (iY T.len (aP 4 a0)) (aE (xI) a0))) (nZ (GL hu (aE (bH hu (aP 4 (aE (xI) a0))) (aE (bH hu (aP 4 (aE (xI) a0))) a0)))))))) (ak (cy (xB))) (cU)) (ah (gA PassesOwn.leaving c8.nd (dM (xV 4)) (gN 7) (ak (jg (bX.st (rB.yU (lq (Jx hu (aP 7 (aP 6 a0))) (lq (yS (tU (ML T.D3 T.El T.isinstance T.int T.tuple (aP 7 a0)))) (nZ (tU (Al T.kit T.isinstance T.bool PyProof.Rows.boot_bool (aP 7 a0)))))))) (ak (cy (xB))) (cU)))) (ah (Nz (j:=8) c8.nd (vs:=["one"]) (NB:=["one","codes","things"]) (ix:=[5,6]) (by rfl) (dM (xV 4)) (fun _ _ _ _=>gN 0) (fun _ _ _ _=>.nil) (fun _ _ _ _ _=>eu (bH hu (aP 1 (aE (xIdx 2 0 hu) a0))))) (ak (cy (Ga hu (aE (bH hu (aP 8 (aE (xI) a0))) (aE (bH hu (aP 8 (aE (xI) a0))) a0)))))))))))))) PB.Ht
abbrev wk:Stmt:=top 37
def fP:aB ["script","cells","k","pool","web","ends","at","some","looks","kind"] ["script"] (ao wk):=by ac_rfl
def IJ (T:Txt K mg)(h_law_cells:vz P w K mg base)(h_law_pool:x9 P w K mg base)(h_law_tree:ye P w K mg base)(h_law_take:iI P w K mg base)(h_law_ends:yr P w K mg base)(h_law_looks:xo P w K mg base)(h_law_right:vA P w K mg base){f:Addr}{fd:FuncData}(F:cH K "law" "law" wk f fd):aX P w K mg base (bF P w) 8 f fd ["script"] (aN mg K [false] rX) :=
 bK (m:=9) F fP rfl (by decide) (d:=l6 nG qI qC gJ uI m9 qw) (fun cdv A outer s H Ex hr=>have hu:=hr.units;ah (aZ 1 fP.nd (aM h_law_cells bg hr (aP 0 (aE (xI) a0)))) (ah (gA PassesOwn.leaving fP.nd (yD T.range (aE (Es T.max (aE (xI) (aE (iY T.len (aP 1 a0)) a0))) a0)) (gN 2) (ah (aZ 3 fP.nd (aM h_law_pool bg hr (aP 1 (aP 2 a0)))) (ah (aZ 4 fP.nd (aM h_law_tree bg hr (aP 3 (aE (bH hu (aE (eV (aE (xI) (aE (xI) a0))) (aE (NC T.int (aE (Ga hu (aE (aM h_law_take bg hr (aP 3 (aE (xI) a0))) (aE (xI) a0))) a0)) a0))) a0)))) (ah (aZ 5 fP.nd (aM h_law_ends bg hr (aP 4 a0))) (ah (aZ 6 fP.nd (aM h_law_take bg hr (aP 3 (aE (fK (aE (iY T.len (aP 5 a0)) (aE (xI) a0))) a0)))) (ah (aZ 7 fP.nd (eV (aE (aM h_law_looks bg hr (aP 3 (aE (bH hu (aP 4 (aE (xI) a0))) a0))) (aE (aM h_law_looks bg hr (aP 3 (aE (bH hu (aP 4 (aE (xI) a0))) a0))) a0)))) (ak (gA PassesOwn.leaving fP.nd (dM (fK (aP 7 (aE (eV (aP 5 (aE (fK (aE (B0 (aP 5 (aP 6 a0))) (aE (LF (aP 5 (aE (fK (aP 6 (aE (xI) a0))) a0))) a0))) a0))) a0)))) (gN 8) (ak (gA PassesOwn.leaving fP.nd (dM (eV (aE (xS) (aE (xS) (aE (xS) a0))))) (gN 9) (ak (jg (xJ (bX.st (tU (aM h_law_right bg hr (aP 4 (aP 8 (aP 9 a0))))))) (ak (cy (xB))) (cU))))))))))))) (ak (cy (xB))))) PB.EX
end
def CT:∀ {us:List Value},us.length=1->∃ a0,us=[a0]
 | [a0],_=>⟨_,rfl⟩
def je:∀ {us:List Value},us.length=2->∃ a0 a1,us=[a0,a1]
 | [a0,a1],_=>⟨_,_,rfl⟩
def uQ:∀ {us:List Value},us.length=3->∃ a0 a1 a2,us=[a0,a1,a2]
 | [a0,a1,a2],_=>⟨_,_,_,rfl⟩
def all_mk {l:OpenLaw}{w:World}{K:Frag}{h:Heap}{mg:Str->Option Value}{fa:Addr}(X:K.In h)(G:h.Ns mainGlobals mg)(hfa:mg "law"=some (.ref fa))
  (qd00:Rec K "_law_cells" jD)
  (qd01:Rec K "_law_pool" kT)
  (qd02:Rec K "_law_take" kH)
  (qd03:Rec K "_law_some" kD)
  (qd04:Rec K "_law_named" jG)
  (qd05:Rec K "_law_tree" kK)
  (qd06:Rec K "_law_ends" kU)
  (qd07:Rec K "_law_looks" j5)
  (qd08:Rec K "is_tree" lV)
  (qd09:Rec K "refuse_no_tree" fF)
  (qd10:Rec K "are_looks" j7)
  (qd11:Rec K "refuse_wrong_looks" dU)
  (qd12:Rec K "things_of" j4)
  (qd13:Rec K "refuse_no_place" fh)
  (qd14:Rec K "neighbour_lists" ff)
  (qd15:Rec K "fars_or_none" gF)
  (qd16:Rec K "fars_from" jU)
  (qd17:Rec K "nearer_end" iZ)
  (qd18:Rec K "thing_far" jX)
  (qd19:Rec K "codes_of" kG)
  (qd20:Rec K "likes_by" kQ)
  (qd21:Rec K "tree_likes" i6)
  (qd22:Rec K "_law_near" kF)
  (qd23:Rec K "_law_steps" jH)
  (qd24:Rec K "_law_code" kX)
  (qd25:Rec K "_law_things" iV)
  (qd26:Rec K "_law_codes" j8)
  (qd27:Rec K "_law_right" jQ)
  (qd28:Rec K "law" wk)
  (zabs:nsIn K mainGlobals "abs"=some none)
  (zbool:nsIn K mainGlobals "bool"=some none)
  (zenumerate:nsIn K mainGlobals "enumerate"=some none)
  (zint:nsIn K mainGlobals "int"=some none)
  (zisinstance:nsIn K mainGlobals "isinstance"=some none)
  (zlen:nsIn K mainGlobals "len"=some none)
  (zlist:nsIn K mainGlobals "list"=some none)
  (zmax:nsIn K mainGlobals "max"=some none)
  (zmin:nsIn K mainGlobals "min"=some none)
  (zrange:nsIn K mainGlobals "range"=some none)
  (zset:nsIn K mainGlobals "set"=some none)
  (zsorted:nsIn K mainGlobals "sorted"=some none)
  (ztuple:nsIn K mainGlobals "tuple"=some none)
  (zzip:nsIn K mainGlobals "zip"=some none)
  (xNoLooks:zW K "NoLooks")
  (xNoPlace:zW K "NoPlace")
  (xNoTree:zW K "NoTree")
  (kit:uV K ["bool","int","tuple"]=true)
  (D3:kitAny K (.type "int") [.type "int",.type "tuple"]=some true)
  (El:kitAny K (.type "tuple") [.type "int",.type "tuple"]=some true) :
  ∃ fd:FuncData,(∀ (s:Shared)(v:Value),BindsTo s fd ⟨[v],[]⟩ [("script",v)])/\∀ base:Heap,K.In base->base.Ns mainGlobals mg->aX l.prog w K mg base (bF l.prog w) 8 fa fd ["script"] (aN mg K [false] rX):=by
 have T:Txt K mg:=⟨mg_none_of X G zabs,mg_none_of X G zbool,mg_none_of X G zenumerate,mg_none_of X G zint,mg_none_of X G zisinstance,mg_none_of X G zlen,mg_none_of X G zlist,mg_none_of X G zmax,mg_none_of X G zmin,mg_none_of X G zrange,mg_none_of X G zset,mg_none_of X G zsorted,mg_none_of X G ztuple,mg_none_of X G zzip,(let ⟨C,h1,h2⟩:=xNoLooks;⟨C,mg_of X G h1,h2⟩),(let ⟨C,h1,h2⟩:=xNoPlace;⟨C,mg_of X G h1,h2⟩),(let ⟨C,h1,h2⟩:=xNoTree;⟨C,mg_of X G h1,h2⟩),kit,D3,El⟩
 obtain ⟨fl,fdl,nl,Fl⟩:=qd28;have e:=hfa.symm.trans (mg_of X G nl);cases e;refine ⟨fdl,?_,fun base _ _=>?_⟩
 ·obtain ⟨_,_,_,_,_,_,_,_,_,rfl,_,_⟩:=Fl.ex;exact fun s v=>.of_eq rfl
 have Hd00:=bq (P:=l.prog) (w:=w) (base:=base) X G qd00 (fun _ _ _ _ _ _ us hl=>by obtain ⟨_,_,rfl⟩:=je hl;rfl) (wO T)
 have Hd01:=bq (P:=l.prog) (w:=w) (base:=base) X G qd01 (fun _ _ _ _ _ _ us hl=>by obtain ⟨_,_,rfl⟩:=je hl;rfl) (yi T)
 have Hd02:=bq (P:=l.prog) (w:=w) (base:=base) X G qd02 (fun _ _ _ _ _ _ us hl=>by obtain ⟨_,_,rfl⟩:=je hl;rfl) (xZ T)
 have Hd03:=bq (P:=l.prog) (w:=w) (base:=base) X G qd03 (fun _ _ _ _ _ _ us hl=>by obtain ⟨_,_,_,rfl⟩:=uQ hl;rfl) (yb T Hd02)
 have Hd04:=bq (P:=l.prog) (w:=w) (base:=base) X G qd04 (fun _ _ _ _ _ _ us hl=>by obtain ⟨_,_,_,rfl⟩:=uQ hl;rfl) (wG T Hd03)
 have Hd05:=bq (P:=l.prog) (w:=w) (base:=base) X G qd05 (fun _ _ _ _ _ _ us hl=>by obtain ⟨_,_,rfl⟩:=je hl;rfl) (yc T Hd02 Hd04)
 have Hd06:=bq (P:=l.prog) (w:=w) (base:=base) X G qd06 (fun _ _ _ _ _ _ us hl=>by obtain ⟨_,rfl⟩:=CT hl;rfl) (x6 T)
 have Hd07:=bq (P:=l.prog) (w:=w) (base:=base) X G qd07 (fun _ _ _ _ _ _ us hl=>by obtain ⟨_,_,rfl⟩:=je hl;rfl) (vQ T Hd02)
 have Hd08:=bq (P:=l.prog) (w:=w) (base:=base) X G qd08 (fun _ _ _ _ _ _ us hl=>by obtain ⟨_,rfl⟩:=CT hl;rfl) (Aa T)
 have Hd09:=bq (P:=l.prog) (w:=w) (base:=base) X G qd09 (fun _ _ _ _ _ _ us hl=>by obtain ⟨_,rfl⟩:=CT hl;rfl) (oM T Hd08)
 have Hd10:=bq (P:=l.prog) (w:=w) (base:=base) X G qd10 (fun _ _ _ _ _ _ us hl=>by obtain ⟨_,_,rfl⟩:=je hl;rfl) (xj T)
 have Hd11:=bq (P:=l.prog) (w:=w) (base:=base) X G qd11 (fun _ _ _ _ _ _ us hl=>by obtain ⟨_,_,rfl⟩:=je hl;rfl) (lu T Hd10)
 have Hd12:=bq (P:=l.prog) (w:=w) (base:=base) X G qd12 (fun _ _ _ _ _ _ us hl=>by obtain ⟨_,_,rfl⟩:=je hl;rfl) (wK T)
 have Hd13:=bq (P:=l.prog) (w:=w) (base:=base) X G qd13 (fun _ _ _ _ _ _ us hl=>by obtain ⟨_,_,rfl⟩:=je hl;rfl) (nR T)
 have Hd14:=bq (P:=l.prog) (w:=w) (base:=base) X G qd14 (fun _ _ _ _ _ _ us hl=>by obtain ⟨_,rfl⟩:=CT hl;rfl) (nA T)
 have Hd15:=bq (P:=l.prog) (w:=w) (base:=base) X G qd15 (fun _ _ _ _ _ _ us hl=>by obtain ⟨_,_,rfl⟩:=je hl;rfl) (qS T Hd14)
 have Hd16:=bq (P:=l.prog) (w:=w) (base:=base) X G qd16 (fun _ _ _ _ _ _ us hl=>by obtain ⟨_,_,rfl⟩:=je hl;rfl) (xm T Hd13 Hd15)
 have Hd17:=bq (P:=l.prog) (w:=w) (base:=base) X G qd17 (fun _ _ _ _ _ _ us hl=>by obtain ⟨_,_,rfl⟩:=je hl;rfl) (t8 T)
 have Hd18:=bq (P:=l.prog) (w:=w) (base:=base) X G qd18 (fun _ _ _ _ _ _ us hl=>by obtain ⟨_,_,rfl⟩:=je hl;rfl) (uJ T Hd17)
 have Hd19:=bq (P:=l.prog) (w:=w) (base:=base) X G qd19 (fun _ _ _ _ _ _ us hl=>by obtain ⟨_,_,_,rfl⟩:=uQ hl;rfl) (xU T Hd16 Hd18)
 have Hd20:=bq (P:=l.prog) (w:=w) (base:=base) X G qd20 (fun _ _ _ _ _ _ us hl=>by obtain ⟨_,_,_,rfl⟩:=uQ hl;rfl) (yf T Hd11 Hd12 Hd19)
 have Hd21:=bq (P:=l.prog) (w:=w) (base:=base) X G qd21 (fun _ _ _ _ _ _ us hl=>by obtain ⟨_,_,_,rfl⟩:=uQ hl;rfl) (tY T Hd09 Hd20)
 have Hd22:=bq (P:=l.prog) (w:=w) (base:=base) X G qd22 (fun _ _ _ _ _ _ us hl=>by obtain ⟨_,rfl⟩:=CT hl;rfl) (xP T)
 have Hd23:=bq (P:=l.prog) (w:=w) (base:=base) X G qd23 (fun _ _ _ _ _ _ us hl=>by obtain ⟨_,_,rfl⟩:=je hl;rfl) (wY T)
 have Hd24:=bq (P:=l.prog) (w:=w) (base:=base) X G qd24 (fun _ _ _ _ _ _ us hl=>by obtain ⟨_,_,rfl⟩:=je hl;rfl) (yh T)
 have Hd25:=bq (P:=l.prog) (w:=w) (base:=base) X G qd25 (fun _ _ _ _ _ _ us hl=>by obtain ⟨_,_,rfl⟩:=je hl;rfl) (uc T)
 have Hd26:=bq (P:=l.prog) (w:=w) (base:=base) X G qd26 (fun _ _ _ _ _ _ us hl=>by obtain ⟨_,_,_,rfl⟩:=uQ hl;rfl) (wW T Hd22 Hd23 Hd25 Hd24)
 have Hd27:=bq (P:=l.prog) (w:=w) (base:=base) X G qd27 (fun _ _ _ _ _ _ us hl=>by obtain ⟨_,_,_,rfl⟩:=uQ hl;rfl) (vm T Hd21 Hd26 Hd25)
 exact IJ T Hd00 Hd01 Hd05 Hd02 Hd06 Hd07 Hd27 Fl
def walk {l:OpenLaw}{q:Program}{loose:List Str}{XP:(Str->Option Value)->Heap->Prop}{YP:World->Heap->Prop}{d:DefRec}{K:Params->Frag}(hn:l.most=some 63)(hdf:d.params.defaults=[])
  (hY:∀ (w:World)(h:Heap),YP w h->(K w.params).In h)
  (F:∀ (w:World)(mg:Str->Option Value)(fa:Addr)(h:Heap),(K w.params).In h->h.Ns mainGlobals mg->mg d.name=some (.ref fa) ->
   ∃ fd:FuncData,(∀ (s:Shared)(u:Value),BindsTo s fd ⟨[u],[]⟩ [("script",u)])/\∀ base:Heap,(K w.params).In base->base.Ns mainGlobals mg->aX l.prog w (K w.params) mg base (bF l.prog w) 8 fa fd ["script"] (aN mg (K w.params) [false] rX)) :
  WalkO q loose XP YP l.row.toRowW d [] (fun f vs=>PySem.call f vs):=C9 hn hdf ⟨rfl,by decide,by decide⟩ hY F
end Lo
open PySem PySem.W PyProof.Rows Dv
set_option maxRecDepth 100000 in
set_option maxHeartbeats 0 in
theorem PySem.Challenge.cw_farhail_k19_tree_likes_told_holds : PySem.Challenge.rw_farhail_k19_tree_likes_told.Holds := by
 w_on;o_law;k_head;(case hw=>w_witness2)
 k_fill
 refine Lo.walk (l:=PySem.Challenge.rw_farhail_k19_tree_likes_told) rfl rfl (fun w h Y=>PySem.W.kIn_of Y) ?F
 case F =>
  intro w mg fa h KX G hmg
  refine' Lo.all_mk KX G hmg ?_ ?_ ?_ ?_ ?_ ?_ ?_ ?_ ?_ ?_ ?_ ?_ ?_ ?_ ?_ ?_ ?_ ?_ ?_ ?_ ?_ ?_ ?_ ?_ ?_ ?_ ?_ ?_ ?_ ?_ ?_ ?_ ?_ ?_ ?_ ?_ ?_ ?_ ?_ ?_ ?_ ?_ ?_ ?_ ?_ ?_ ?_ ?_ ?_
  iterate 29
   apply JU
   iterate 4 (first | k_is | kernel_rfl)
  iterate 14
   first | k_is | kernel_rfl
  iterate 3
   apply GX
   iterate 2 (first | k_is | kernel_rfl)
  all_goals first | kernel_rfl | k_is
