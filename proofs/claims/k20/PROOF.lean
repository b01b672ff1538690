import PyProof.Rows.All
import PySem.PyData
import Wide.All
import OpenK.AllK
import Wide.FinOn
import Lean
import PyProof.EqAt
import PyProof.EqKinds
import PyProof.TupleCall
import PyProof.SetKind
import PyProof.TupleKey
import PyProof.IsRules
import PyProof.SetRoads
import PyProof.RaisesMany
import PyProof.RulesTry
import PyProof.ExcClass2
import KE.KTryMore
import PyProof.RulesAs
import PyProof.NsDelKeeps
import KE.KDictList
import PyProof.P3In
import PyProof.Rows.SortShellK
import PyProof.TupleOfSeq
import PyProof.WalkInts
import PyProof.SeqI3
import PyProof.SumAnyB
import PyProof.Rows.SeqWords
import PyProof.ListRange
import PySem.Challenge.RW_farhail_k20_tree_strength_told
local macro_rules | `(tactic| omega) => `(tactic| lia)
set_option genSizeOf false
set_option genInjectivity false
noncomputable section
namespace PySem.W.Fast
theorem tw9490378451249210812:True:=⟨⟩
theorem tw5714021251977413803:True:=⟨⟩
theorem tw17973516619139417189:True:=⟨⟩
theorem tw15435301061553067004:True:=⟨⟩
theorem tw4696557065055231996:True:=⟨⟩
theorem tw15933945057692570650:True:=⟨⟩
theorem tw14747520744260736167:True:=⟨⟩
theorem tw9945474503276996673:True:=⟨⟩
theorem tw10907283630278756800:True:=⟨⟩
theorem tw3601410676478676541:True:=⟨⟩
theorem tw862174181181673952:True:=⟨⟩
theorem tw1281514895432410966:True:=⟨⟩
theorem tw4591585199300662592:True:=⟨⟩
theorem tw1315887495821456101:True:=⟨⟩
theorem tw15564889176000681376:True:=⟨⟩
theorem tw5161970195192814100:True:=⟨⟩
theorem tw2475082833821050156:True:=⟨⟩
theorem tw14892887152432406871:True:=⟨⟩
theorem tw17195092446936724319:True:=⟨⟩
theorem tw7446104748832072718:True:=⟨⟩
theorem tw6537944846989927210:True:=⟨⟩
theorem tw13581498841063624051:True:=⟨⟩
theorem tw11968274373162468295:True:=⟨⟩
theorem tw13257866225765609879:True:=⟨⟩
theorem tw2785020724730930336:True:=⟨⟩
theorem tw4932391035670115124:True:=⟨⟩
theorem tw1558191355970056072:True:=⟨⟩
theorem tw18340010995127443683:True:=⟨⟩
theorem tw8014801190339650508:True:=⟨⟩
theorem tw2767678348533292763:True:=⟨⟩
theorem tw11842332586545887017:True:=⟨⟩
theorem tw12397648784766380392:True:=⟨⟩
theorem tw16662855067555587306:True:=⟨⟩
theorem tw15766460688990894721:True:=⟨⟩
theorem tw12782552194513943600:True:=⟨⟩
theorem tw14839194648506370879:True:=⟨⟩
theorem tw14571566834321842169:True:=⟨⟩
theorem tw9314118429965371570:True:=⟨⟩
theorem tw15494433559957603595:True:=⟨⟩
theorem tw2496379077049089106:True:=⟨⟩
theorem tw4754879700136002094:True:=⟨⟩
theorem tw11218553887996988753:True:=⟨⟩
theorem tw6053170679673177480:True:=⟨⟩
theorem tw10828238946709593814:True:=⟨⟩
theorem tw2208277629134361777:True:=⟨⟩
theorem tw8747769364146982013:True:=⟨⟩
theorem tw4391715515715857513:True:=⟨⟩
theorem tw14371110778282035271:True:=⟨⟩
theorem tw6039428887183728054:True:=⟨⟩
theorem tw12750279700095369815:True:=⟨⟩
theorem tw12694157290942165138:True:=⟨⟩
theorem tw17450065258880900541:True:=⟨⟩
theorem tw6281330039721539632:True:=⟨⟩
theorem tw670302600814708100:True:=⟨⟩
theorem tw15757008665395536462:True:=⟨⟩
theorem tw14973175222406721079:True:=⟨⟩
theorem tw2701280670959607882:True:=⟨⟩
theorem tw1394849882512649423:True:=⟨⟩
theorem tw7308750397286614294:True:=⟨⟩
theorem tw10913012745392203959:True:=⟨⟩
theorem tw155677663393338680:True:=⟨⟩
theorem tw7825195707073161415:True:=⟨⟩
theorem tw2289712600055142603:True:=⟨⟩
theorem tw16234457402924716841:True:=⟨⟩
theorem tw17340586069027426048:True:=⟨⟩
theorem tw5525099403268930769:True:=⟨⟩
theorem tw9098546831540910494:True:=⟨⟩
theorem tw13970876152644791985:True:=⟨⟩
theorem tw18059826615953301333:True:=⟨⟩
theorem tw7064748446393849868:True:=⟨⟩
theorem tw15628658276521264340:True:=⟨⟩
theorem tw16409593941334784731:True:=⟨⟩
theorem tw12724800894929990331:True:=⟨⟩
theorem tw6147932359780168710:True:=⟨⟩
theorem tw4832170065798742544:True:=⟨⟩
theorem tw15198824437462379282:True:=⟨⟩
theorem tw12096241931836098537:True:=⟨⟩
theorem tw170175338490829288:True:=⟨⟩
theorem tw16259207129615621204:True:=⟨⟩
theorem tw1824698177157751034:True:=⟨⟩
theorem tw9123351711491080044:True:=⟨⟩
theorem tw614914990921725190:True:=⟨⟩
theorem tw15518858569017659383:True:=⟨⟩
theorem tw3299580190258640695:True:=⟨⟩
theorem tw9683170299545537088:True:=⟨⟩
theorem tw3000828347006121052:True:=⟨⟩
theorem tw9321022416943990229:True:=⟨⟩
theorem tw7720768204786323813:True:=⟨⟩
theorem tw14848840773139290273:True:=⟨⟩
theorem tw1535181643344805709:True:=⟨⟩
theorem tw18001073741445678055:True:=⟨⟩
theorem tw9574148172641861888:True:=⟨⟩
theorem tw4008476702443039628:True:=⟨⟩
theorem tw16336951137838190215:True:=⟨⟩
theorem tw4269850044218042365:True:=⟨⟩
theorem tw7633103337468277172:True:=⟨⟩
theorem tw2254933183093301870:True:=⟨⟩
theorem tw16505683635622134665:True:=⟨⟩
theorem tw14293609047856125001:True:=⟨⟩
theorem tw16564395231242062015:True:=⟨⟩
theorem tw16833781743722288793:True:=⟨⟩
theorem tw7260534492600087607:True:=⟨⟩
theorem tw1531405759238201259:True:=⟨⟩
theorem tw15580181587719260906:True:=⟨⟩
theorem tw3936641451055484662:True:=⟨⟩
theorem tw12726431931820240029:True:=⟨⟩
theorem tw14417654016294321901:True:=⟨⟩
theorem tw12079533131387938317:True:=⟨⟩
theorem tw7859956812186185955:True:=⟨⟩
theorem tw2821570242900133287:True:=⟨⟩
theorem tw9914412138341999332:True:=⟨⟩
theorem tw17381333834282023815:True:=⟨⟩
theorem tw3018359698552472794:True:=⟨⟩
theorem tw9903954401249794683:True:=⟨⟩
theorem tw3276592275861333091:True:=⟨⟩
theorem tw17281359102607591248:True:=⟨⟩
theorem tw6512006522464756224:True:=⟨⟩
theorem tw3221968624979156388:True:=⟨⟩
theorem tw2403313522597903150:True:=⟨⟩
theorem tw4243715450383235751:True:=⟨⟩
theorem tw14183114809702694864:True:=⟨⟩
theorem tw303837713300514226:True:=⟨⟩
theorem tw14854638109046603229:True:=⟨⟩
theorem tw10603596370232370049:True:=⟨⟩
theorem tw7892106156629131404:True:=⟨⟩
theorem tw4642655889624509251:True:=⟨⟩
theorem tw5704357925203528985:True:=⟨⟩
theorem tw6256641169921595203:True:=⟨⟩
theorem tw10846042474213071584:True:=⟨⟩
theorem tw14337469464805082673:True:=⟨⟩
theorem tw17571134681844460211:True:=⟨⟩
theorem tw13961576895621868733:True:=⟨⟩
theorem tw6145973202848257848:True:=⟨⟩
theorem tw9512974358446457180:True:=⟨⟩
theorem tw2706022949710512052:True:=⟨⟩
theorem tw8952406413377630143:True:=⟨⟩
theorem tw243178712906037028:True:=⟨⟩
theorem tw9359882577428144364:True:=⟨⟩
theorem tw11566722776472565685:True:=⟨⟩
theorem tw159749690449328638:True:=⟨⟩
theorem tw5256725366417671225:True:=⟨⟩
theorem tw6566360152885055183:True:=⟨⟩
theorem tw910439969218681617:True:=⟨⟩
theorem tw3379822111146540284:True:=⟨⟩
theorem tw13781534369191956818:True:=⟨⟩
theorem tw9530859033987360515:True:=⟨⟩
theorem tw7075074845332942780:True:=⟨⟩
theorem tw15319971947585861574:True:=⟨⟩
theorem tw12440788310869622641:True:=⟨⟩
theorem tw2177919507570956265:True:=⟨⟩
theorem tw13746009113486835562:True:=⟨⟩
theorem tw4295152322631802818:True:=⟨⟩
theorem tw7088711062073933345:True:=⟨⟩
theorem tw7654568362345802184:True:=⟨⟩
theorem tw7695035607805008266:True:=⟨⟩
theorem tw17650257484099579249:True:=⟨⟩
theorem tw1789602903727821942:True:=⟨⟩
theorem tw6135084853401914056:True:=⟨⟩
theorem tw7165592636396003644:True:=⟨⟩
theorem tw1721490411255927220:True:=⟨⟩
end PySem.W.Fast
set_option Elab.async false
set_option linter.all false
set_option maxHeartbeats 4000000
set_option maxRecDepth 100000
/-! Data in the place of the heap: a def's body by what its names hold,as data. -/
namespace Dv
open PySem
inductive Kd where
 | sh | ow (p:Bool) | dp (p:Bool) | dk (p:Bool) | dt (p:Bool) | st (p:Bool)
 deriving DecidableEq
def jB (n:Nat) (i:Int):Option Nat:=if 0<=i then (if i < n then some i.toNat else none) else if -(n:Int)<=i then some (i + n).toNat else none
def j7:PyData->Bool
 | .int _ | .str _=>true
 | _=>false
noncomputable instance LM:DecidableEq PyData:=fun a b=>Classical.propDecidable (a=b)
noncomputable def cR (kvs:List (PyData×PyData))(k:PyData):Option PyData:=(kvs.find? fun kv=>decide (kv.1=k)).map (·.2)
noncomputable def putD (kvs:List (PyData×PyData))(k v:PyData):List (PyData×PyData):=if (kvs.any fun kv=>decide (kv.1=k))=true then kvs.map (fun kv=>if kv.1=k then (kv.1,v) else kv) else kvs++[(k,v)]
abbrev En:=List (Option (Kd×PyData))
abbrev XC:=Str->PyData->Prop
abbrev xF:XC:=fun _ _=>False
abbrev DE:=XC->En->(En->Kd->PyData->Prop)->Prop
abbrev DT:=XC->En->(En->Bool->Prop)->Prop
abbrev DI:=XC->En->(En->List PyData->Prop)->Prop
structure bY where
 nx:En->Prop
 rt:En->Kd->PyData->Prop
 xc:XC
abbrev DS:=bY->En->Prop
abbrev bW:=List PyData->(List PyData->Kd->PyData->Prop)->XC->Prop
def lf:PyData->Bool
 | .none | .bool _ | .int _ | .str _=>true
 | .tuple ds=>lfs ds
 | .list _ | .dict _=>false
where lfs:List PyData->Bool
 | []=>true
 | d::ds=>lf d && lfs ds
theorem rR:∀ ds:List PyData,lf.lfs ds=ds.all lf
 | []=>by rw [lf.lfs];rfl
 | d::ds=>by rw [lf.lfs,rR ds];rfl
def zf:PyData->Bool
 | .list _=>true
 | _=>false
def flat:Kd->PyData->Bool
 | .sh,d=>lf d
 | .ow _,.list ds=>ds.all lf
 | .dp _,.list ds=>ds.all fun d=>match d with | .list es=>es.all lf | d=>lf d
 | .dk _,.dict kvs=>kvs.all fun kv=>lf kv.2
 | .dt _,.dict kvs=>kvs.all fun kv=>lf kv.2
 | _,_=>false
def Kd.fz:Kd->Bool
 | .sh | .ow false | .dp false | .dk false | .dt false=>true
 | _=>false
def Kd.rd:Kd->Bool
 | .st _=>false
 | _=>true
def Kd.pin:Kd->Bool
 | .ow p | .dp p | .dk p | .dt p | .st p=>p
 | .sh=>false
def cT (E:En) (i:Nat):Option En:=match E[i]? with
 | some (some (k,d))=>if k.fz then some (E.set i (some (.sh,d))) else none
 | _=>none
def cU:List Nat->En->Option En
 | [],E=>some E
 | i::r,E=>(cT E i).bind (cU r)
inductive Arg where
 | pk (i:Nat) | ev (d:DE)
def gI:List Arg->List Nat
 | []=>[]
 | .pk i::r=>i::gI r
 | .ev _::r=>gI r
def here (E:En) (i:Nat):Bool:=match E[i]? with
 | some (some _)=>true
 | _=>false
def ig:List Arg->XC->En->(En->List (Option PyData)->Prop)->Prop
 | [],_,E,Q=>Q E []
 | .pk i::r,x,E,Q=>here E i=true/\ig r x E fun E' os=>Q E' (none::os)
 | .ev d::r,x,E,Q=>d x E fun E1 k v=>k.fz=true/\ig r x E1 fun E' os=>Q E' (some v::os)
def fill:List Arg->En->List (Option PyData)->Option (List PyData)
 | [],_,[]=>some []
 | .pk i::r,E,none::os=>match E[i]? with
  | some (some (k,d))=>if k.rd then (fill r E os).map (d::·) else none
  | _=>none
 | .ev _::r,E,some v::os=>(fill r E os).map (v::·)
 | _,_,_=>none
def kF (E:En) (i:Nat):Bool:=match E[i]? with
 | some (some (.sh,_))=>true
 | _=>false
theorem uP {E:En}:∀ {is:List Nat},is.all (kF E)=true->cU is E=some E
 | [],_=>rfl
 | i::r,h=>by
  rw [List.all_cons,Bool.and_eq_true] at h
  have e:cT E i=some E:=by
   have h1:=h.1
   unfold kF at h1
   unfold cT
   split at h1
   ·rename_i d e
    rw [e]
    show some (E.set i (some (.sh,d)))=some E
    congr 1
    refine List.ext_getElem? fun j=>?_
    rw [List.getElem?_set]
    by_cases c:i=j
    ·subst c
     rw [if_pos rfl,e]
     have l:i < E.length:=by
      rcases Nat.lt_or_ge i E.length with z | z
      ·exact z
      ·rw [List.getElem?_eq_none z] at e;cases e
     rw [if_pos l]
    ·rw [if_neg c]
   ·cases h1
  show (cT E i).bind (cU r)=some E
  rw [e]
  exact uP h.2
def Ao (as:List Arg)(E:En)(k:Kd)(v:PyData):Option En:=if ((gI as).all (kF E) || flat k v)=true then some E else cU (gI as) E
theorem vf {is:List Nat}{E E2:En}{b:Bool}(h:(if (is.all (kF E) || b)=true then some E else cU is E)=some E2):(if b=true then some E else cU is E)=some E2:=by
 cases hs:is.all (kF E) with
 | true =>
  rw [hs,Bool.true_or,if_pos rfl] at h
  rw [uP hs,h,ite_self]
 | false =>
  rw [hs,Bool.false_or] at h
  exact h
abbrev DR:=List PyData->(Kd->PyData->Prop)->Prop
def ah (r:DR)(as:List Arg):DE:=fun x E Q=>ig as x E fun E1 os=>∃ ds,fill as E1 os=some ds/\r ds fun k v=>∃ E2,Ao as E1 k v=some E2/\Q E2 k v
def dC (v:PyData):DE:=fun _ E Q=>Q E .sh v
def bE (i:Nat):DE:=fun _ E Q=>∃ k d E',E[i]?=some (some (k,d))/\cT E i=some E'/\Q E' .sh d
def gZ:List Bool->List Arg->List PyData->En->Option En
 | [],[],[],E=>some E
 | false::ms,_::r,us,E=>gZ ms r us E
 | true::ms,.pk i::r,u::us,E=>match E[i]? with
  | some (some (.ow p,.list _))=>if zf u then gZ ms r us (E.set i (some (.ow p,u))) else none
  | _=>none
 | _,_,_,_=>none
def lent:List Bool->List Arg->List Nat
 | true::ms,.pk i::r=>i::lent ms r
 | _::ms,_::r=>lent ms r
 | _,_=>[]
def kept:List Bool->List Arg->List Nat
 | false::ms,.pk i::r=>i::kept ms r
 | _::ms,_::r=>kept ms r
 | _,_=>[]
def shape:List Bool->List Arg->Bool
 | [],[]=>true
 | true::ms,.pk _::r=>shape ms r
 | false::ms,_::r=>shape ms r
 | _,_=>false
def nF (ms:List Bool)(as:List Arg)(E:En):Bool:=shape ms as && decide (lent ms as).Nodup && (lent ms as).all (fun i=>!(kept ms as).contains i && (match E[i]? with | some (some (.ow _,.list _))=>true | _=>false))
def pO (ms:List Bool)(as:List Arg)(us:List PyData)(E:En)(k:Kd)(v:PyData):Option En:=if ((kept ms as).all (kF E) || (flat k v && us.all (flat (.ow false))))=true then some E else cU (kept ms as) E
def aX (sp:bW)(ms:List Bool)(as:List Arg):DE:=fun x E Q=>ig as x E fun E1 os=>∃ ds,fill as E1 os=some ds/\nF ms as E1=true/\sp ds (fun us k v=>∃ E2 E3,gZ ms as us E1=some E2/\pO ms as us E2 k v=some E3/\Q E3 k v) x
def jC:PyData->Option Bool
 | .bool b=>some b
 | .int i=>some (!decide (i=0))
 | .none=>some false
 | .str _=>none
 | .list ds=>some !ds.isEmpty
 | .tuple ds=>some !ds.isEmpty
 | .dict _=>none
def cA (d:DE):DT:=fun x E Q=>d x E fun E' _ v=>∃ b,jC v=some b/\Q E' b
def xH (i:Nat):DT:=fun _ E Q=>∃ k d b,E[i]?=some (some (k,d))/\k.rd=true/\jC d=some b/\Q E b
def wB (t:DT):DT:=fun x E Q=>t x E fun E' b=>Q E' (!b)
def pC (a b:DE):DE:=fun x E Q=>a x E fun E1 _ v=>∃ c,v=.bool c/\if c=true then b x E1 Q else Q E1 .sh (.bool false)
def uC (a b:DE):DE:=fun x E Q=>a x E fun E1 _ v=>∃ c,v=.bool c/\if c=true then Q E1 .sh (.bool true) else b x E1 Q
def sr (a:DE):DE:=fun x E Q=>a x E fun E1 _ v=>∃ c,jC v=some c/\Q E1 .sh (.bool !c)
def kT (f f':Int->Int->Bool)(a b c:DE):DE:=fun x E Q=>a x E fun E1 _ u=>∃ i,u=.int i/\b x E1 fun E2 _ v=>∃ j,v=.int j/\if f i j=true then c x E2 fun E3 _ w=>∃ k,w=.int k/\Q E3 .sh (.bool (f' j k)) else Q E2 .sh (.bool false)
def zZ (c:DT)(a b:DE):DE:=fun x E Q=>c x E fun E1 t=>if t=true then a x E1 Q else b x E1 Q
/-! ### statements -/
def f7:DS:=fun D E=>D.nx E
def aC (a b:DS):DS:=fun D E=>a { D with nx:=b D } E
def qT (a b:DS):DS:=fun D E=>∃ J:En->Prop,a { D with nx:=J } E/\∀ E',J E'->b D E'
def eU (c:DT)(a b:DS):DS:=fun D E=>c D.xc E fun E1 t=>if t=true then a D E1 else b D E1
def cy (E:En) (i:Nat):Bool:=match E[i]? with
 | some (some (k,_))=>!k.pin
 | some none=>true
 | none=>false
def aV (i:Nat)(e:DE):DS:=fun D E=>e D.xc E fun E' k v=>cy E' i=true/\D.nx (E'.set i (some (k,v)))
inductive Tg where
 | nm (i:Nat) | tp (is:List Nat)
def Tg.slots:Tg->List Nat
 | .nm i=>[i]
 | .tp is=>is
def b8:List Nat->List PyData->En->Option En
 | [],[],E=>some E
 | i::is,d::ds,E=>if cy E i then b8 is ds (E.set i (some (.sh,d))) else none
 | _,_,_=>none
def cH:Tg->PyData->En->Option En
 | .nm i,d,E=>b8 [i] [d] E
 | .tp is,.tuple ds,E=>b8 is ds E
 | _,_,_=>none
def lP (is:List Nat)(e:DE):DS:=fun D E=>e D.xc E fun E' k v=>∃ E2,k.fz=true/\cH (.tp is) v E'=some E2/\D.nx E2
def cJ (e:DE):DS:=fun D E=>e D.xc E D.rt
def ji (i:Nat):DS:=fun D E=>∃ k d,E[i]?=some (some (k,d))/\k.pin=false/\D.rt (E.set i none) k d
def kP (E:En) (i:Nat):Bool:=match E[i]? with
 | some (some (.ow _,.list _))=>true
 | _=>false
abbrev DM:=List PyData->List PyData->(List PyData->PyData->Prop)->Prop
def nE (f:DM) (i:Nat)(es:List DE):DE:=fun x E Q=>kP E i=true/\ig (es.map .ev) x E fun E1 os=>∃ args p ds,fill (es.map .ev) E1 os=some args/\E1[i]?=some (some (.ow p,.list ds))/\f ds args fun new v=>Q (E1.set i (some (.ow p,.list new))) .sh v
def jq:List (PyData×PyData)->Bool
 | (.none,_)::_=>false
 | _=>true
noncomputable def iL (i:Nat)(j:DE)(e:DE):DS:=fun D E=>e D.xc E fun E1 k v=>(k.fz=true/\here E1 i=true)/\j D.xc E1 fun E2 k2 w=>k2.fz=true/\setI E2 i w v D.nx
where setI (E:En) (i:Nat)(w v:PyData)(Q:En->Prop):Prop:=match E[i]?,w with
 | some (some (.ow p,.list ds)),.int a=>∃ n,jB ds.length a=some n/\Q (E.set i (some (.ow p,.list (ds.set n v))))
 | some (some (.dk p,.dict kvs)),w=>(j7 w=true/\kvs.length < 16777216)/\Q (E.set i (some (.dk p,.dict (putD kvs w v))))
 | some (some (.dt p,.dict (_::kvs))),.tuple ks=>(ks.all j7=true/\kvs.length < 16777216)/\Q (E.set i (some (.dt p,.dict ((.none,.none)::putD kvs (.tuple ks) v))))
 | _,_=>False
def Bj (f:Int->Int->Int) (i:Nat)(e:DE):DS:=fun D E=>here E i=true/\e D.xc E fun E1 _ v=>∃ k a b,E1[i]?=some (some (k,.int a))/\v=.int b/\D.nx (E1.set i (some (.sh,.int (f a b))))
def uN (most:Nat) (i:Nat)(e:DE):DS:=fun D E=>kP E i=true/\e D.xc E fun E1 k v=>k.fz=true/\∃ p ds es,E1[i]?=some (some (.ow p,.list ds))/\v=.list es/\ds.length + es.length<=most/\D.nx (E1.set i (some (.ow p,.list (ds++es))))
def pM (f:DM) (i:Nat)(j:DE) (n:Nat):DE:=fun x E Q=>here E i=true/\j x E fun E1 _ w=>∃ a p ds m es k d E2,w=.int a/\E1[i]?=some (some (.dp p,.list ds))/\jB ds.length a=some m/\ds[m]?=some (.list es)/\E1[n]?=some (some (k,d))/\i≠n/\cT E1 n=some E2/\f es [d] fun new v=>Q (E2.set i (some (.dp p,.list (ds.set m (.list new))))) .sh v
def mW (c:Str):DS:=fun D _=>D.xc c .none
def fH (e:DE):DS:=fun D E=>e D.xc E fun E' _ _=>D.nx E'
def f9 (it:DI)(tg:Tg)(b:DS):DS:=fun D E=>it D.xc E fun E1 xs=>∃ I:Nat->En->Prop,I 0 E1/\(∀ i d E,xs[i]?=some d->I i E->∃ E2,cH tg d E=some E2/\b { D with nx:=I (i + 1) } E2)/\∀ E,I xs.length E->D.nx E
def mL (c:DT)(b:DS):DS:=fun D E=>∃ W:Nat->En->Prop,(∃ m,W m E)/\∀ m E,W m E->c D.xc E fun E1 t=>if t=true then b { D with nx:=fun E'=>∃ m',m' < m/\W m' E' } E1 else D.nx E1
/-! ### what is gone through -/
def items:PyData->Option (List PyData)
 | .list ds=>some ds
 | .tuple ds=>some ds
 | _=>none
def iE (e:DE):DI:=fun x E Q=>e x E fun E' k v=>k.fz=true/\∃ ds,items v=some ds/\Q E' ds
def iT (g:List PyData->Option (List PyData))(as:List Arg):DI:=fun x E Q=>ig as x E fun E1 os=>∃ ds xs,fill as E1 os=some ds/\g ds=some xs/\Q E1 xs
def jj (ds:List PyData):List PyData:=ds.zipIdx.map fun p=>.tuple [.int p.2,p.1]
def xK (e:DE):DI:=fun x E Q=>e x E fun E' k v=>k.fz=true/\∃ ds,v=.list ds/\Q E' (jj ds)
def GF (a b:DE):DI:=fun x E Q=>a x E fun E1 k v=>k.fz=true/\b x E1 fun E2 k2 v2=>k2.fz=true/\∃ ds es,v=.list ds/\v2=.list es/\Q E2 ((ds.zip es).map fun p=>.tuple [p.1,p.2])
/-! ### comprehensions -/
def bg:List Nat->En->Option En
 | [],E=>some E
 | i::r,E=>if cy E i then bg r (E.set i none) else none
abbrev DC:=XC->List PyData->En->(List PyData->En->Prop)->Prop
def eo:DT:=fun _ E Q=>Q E true
def b7 (most:Nat)(e:DE):DC:=fun x ys E Q=>e x E fun E1 k v=>k.fz=true/\ys.length < most/\Q (ys++[v]) E1
def LC (it:DI)(tg:Tg)(c:DT)(r:DC):DC:=fun x ys E Q=>it x E fun E1 xs=>∃ I:Nat->List PyData->En->Prop,I 0 ys E1/\(∀ i d ys E,xs[i]?=some d->I i ys E->∃ E2,cH tg d E=some E2/\c x E2 fun E3 b=>if b=true then r x ys E3 (I (i + 1)) else I (i + 1) ys E3)/\∀ ys E,I xs.length ys E->Q ys E
def bV (cs:List Nat)(it:DI)(tg:Tg)(c:DT)(r:DC):DE:=fun x E Q=>it x E fun E1 xs=>∃ (E0:En)(I:Nat->List PyData->En->Prop),bg cs E1=some E0/\I 0 [] E0/\(∀ i d ys E,xs[i]?=some d->I i ys E->∃ E2,cH tg d E=some E2/\c xF E2 fun E3 b=>if b=true then r xF ys E3 (I (i + 1)) else I (i + 1) ys E3)/\∀ ys E,I xs.length ys E->∃ E2,bg cs E=some E2/\Q E2 (.ow false) (.list ys)
def nC (most:Nat)(cs:List Nat)(it:DI)(tg:Tg)(c:DT)(e:DE):DE:=fun x E Q=>it x E fun E1 xs=>∃ (E0:En)(I:Nat->List PyData->En->Prop),bg cs E1=some E0/\I 0 [] E0/\(∀ i d ys E,xs[i]?=some d->I i ys E->∃ E2,cH tg d E=some E2/\c xF E2 fun E3 b=>if b=true then e xF E3 (fun E4 k v=>(∃ p,k=.ow p)/\ys.length < most/\I (i + 1) (ys++[v]) E4) else I (i + 1) ys E3)/\∀ ys E,I xs.length ys E->∃ E2,bg cs E=some E2/\Q E2 (.dp false) (.list ys)
def jD (lo:Int) (n:Nat):List PyData:=(List.range n).map fun i:Nat=>PyData.int (lo + i)
end Dv
/-! THE HAND LAYER,for ints,bools,texts,own classes,LISTS and tuples (index,slices,in,append,pop ..),calls,loops. Paste it whole ahead of your own text;what your proof does not reach may be deleted. -/
namespace L2
open PySem PySem.Spec PyProof.Rows
abbrev Key:=Sum Int Str
def nV:Key->Value->Bool
 | .inl k,v=>Value.isInt k v
 | .inr x,v=>Value.isStrOf x v
def K8 (w:World):Key->Int
 | .inl k=>hashInt k
 | .inr x=>hashStr w x
theorem c7:∀ {k:Key}{v:Value},nV k v=true->(∃ i t,k=Sum.inl i/\v=Value.int i t)\/(∃ x t,k=Sum.inr x/\v=Value.str x t)
 | .inl i,v,h=>by
  obtain ⟨t,e⟩:=Value.isInt_shape (k:=i) (v:=v) h
  exact .inl ⟨i,t,rfl,e⟩
 | .inr x,v,h=>by
  obtain ⟨t,e⟩:=Value.isStrOf_shape (x:=x) (v:=v) h
  exact .inr ⟨x,t,rfl,e⟩
theorem Aj (i:Int)(t:Tok):nV (.inl i) (.int i t)=true:=by simp [nV,Value.isInt]
theorem zp (x:Str)(t:Tok):nV (.inr x) (.str x t)=true:=by simp [nV,Value.isStrOf]
theorem GU (a b:Int):decide ((Sum.inl a:Key)=Sum.inl b)=(a == b):=by
 by_cases e:a=b
 ·subst e;simp
 ·have h:¬ (Sum.inl a:Key)=Sum.inl b:=fun q=>e (Sum.inl.inj q)
  rw [decide_eq_false h]
  exact (beq_eq_false_iff_ne.mpr e).symm
theorem GI (a b:Str):decide ((Sum.inr a:Key)=Sum.inr b)=decide (a=b):=by
 by_cases e:a=b
 ·subst e;simp
 ·have h:¬ (Sum.inr a:Key)=Sum.inr b:=fun q=>e (Sum.inr.inj q)
  rw [decide_eq_false h,decide_eq_false e]
theorem Hr (a:Int) (b:Str):decide ((Sum.inl a:Key)=Sum.inr b)=false:=decide_eq_false (fun q=>nomatch q)
theorem GO (a:Str) (b:Int):decide ((Sum.inr a:Key)=Sum.inl b)=false:=decide_eq_false (fun q=>nomatch q)
def cO (prog:Program)(w:World):PySem.KeyKind prog w Key where
 is:=nV
 hash:=K8 w
 inj:=fun v a b ha hb=>by
  rcases c7 ha with ⟨i,t,rfl,rfl⟩ | ⟨x,t,rfl,rfl⟩
  ·rcases c7 hb with ⟨j,u,rfl,e⟩ | ⟨y,u,rfl,e⟩
   ·injection e with e1 _;rw [e1]
   ·exact nomatch e
  ·rcases c7 hb with ⟨j,u,rfl,e⟩ | ⟨y,u,rfl,e⟩
   ·exact nomatch e
   ·injection e with e1 _;rw [e1]
 byValue:=fun k v h=>by
  rcases c7 h with ⟨i,t,rfl,rfl⟩ | ⟨x,t,rfl,rfl⟩ <;> rfl
 pyHash:=fun hv h=>by
  rcases c7 hv with ⟨i,t,rfl,rfl⟩ | ⟨x,t,rfl,rfl⟩
  ·exact wpAny_pyHash_int h
  ·exact wpAny_pyHash_str h
 eqBool:=fun hu hv h=>by
  rcases c7 hu with ⟨i,t,rfl,rfl⟩ | ⟨x,t,rfl,rfl⟩
  ·rcases c7 hv with ⟨j,u,rfl,rfl⟩ | ⟨y,u,rfl,rfl⟩
   ·rw [GU] at h;exact wpAny_eqBool_int h
   ·rw [Hr] at h;exact SeqAt.EqAt.int_str i t y u _ _ _ _ h
  ·rcases c7 hv with ⟨j,u,rfl,rfl⟩ | ⟨y,u,rfl,rfl⟩
   ·rw [GO] at h;exact SeqAt.EqAt.str_int x t j u _ _ _ _ h
   ·rw [GI] at h;exact wpAny_eqBool_str h
 «strs»:=fun k x t v h=>by
  rcases c7 h with ⟨i,u,rfl,e⟩ | ⟨y,u,rfl,e⟩
  ·exact nomatch e
  ·injection e with e1 _
   subst e1
   cases v <;> rfl
theorem wm (prog:Program)(w:World) (i:Int)(t:Tok):(cO prog w).is (.inl i) (.int i t)=true:=Aj i t
theorem wj (prog:Program)(w:World) (x:Str)(t:Tok):(cO prog w).is (.inr x) (.str x t)=true:=zp x t
end L2
namespace L2
open PySem PySem.Spec PyProof.Rows
set_option genInjectivity true in
inductive V where
 | br | bl (b:Bool) | int (i:Int) | str (x:Str) | lG (b:Array UInt8) | xR (b:UInt64) | ref (a:Addr) | ty (n:String)
 deriving DecidableEq
def RelV:V->Value->Prop
 | .br,u=>u=Value.none
 | .bl b,u=>u=Value.bool b
 | .int i,u=>∃ t,u=Value.int i t
 | .str x,u=>∃ t,u=Value.str x t
 | .lG b,u=>∃ t,u=Value.bytes b t
 | .xR b,u=>∃ t,u=Value.float b t
 | .ref a,u=>u=Value.ref a
 | .ty n,u=>u=Value.type n
abbrev Vals:List V->List Value->Prop:=Paired RelV
theorem Vals.length {xs:List V}{us:List Value}(r:Vals xs us):xs.length=us.length:=Paired.length r
theorem Vals.get:∀ {xs:List V}{us:List Value}{i:Nat}{x:V},Vals xs us->xs[i]?=some x->∃ u,us[i]?=some u/\RelV x u
 | _,_,_,_,.nil,e=>by simp at e
 | _,_,0,_,.cons r _,e=>by simp at e;subst e;exact ⟨_,rfl,r⟩
 | _,_,i + 1,x,.cons _ t,e=>by
  obtain ⟨u,h1,h2⟩:=Vals.get (i:=i) (x:=x) t (by simpa using e)
  exact ⟨u,by simpa using h1,h2⟩
theorem Vals.set {x:V}{u:Value}(r:RelV x u):∀ {xs:List V}{us:List Value} (i:Nat),Vals xs us->Vals (xs.set i x) (us.set i u)
 | _,_,_,.nil=>.nil
 | _,_,0,.cons _ t=>.cons r t
 | _,_,i + 1,.cons q t=>.cons q (Vals.set r i t)
theorem Vals.append:∀ {xs ys:List V}{us ws:List Value},Vals xs us->Vals ys ws->Vals (xs++ys) (us++ws)
 | _,_,_,_,.nil,s=>s
 | _,_,_,_,.cons r t,s=>.cons r (Vals.append t s)
theorem Vals.take:∀ {xs:List V}{us:List Value} (n:Nat),Vals xs us->Vals (xs.take n) (us.take n)
 | _,_,0,_=>.nil
 | _,_,_ + 1,.nil=>.nil
 | _,_,n + 1,.cons r t=>.cons r (Vals.take n t)
theorem Vals.drop:∀ {xs:List V}{us:List Value} (n:Nat),Vals xs us->Vals (xs.drop n) (us.drop n)
 | _,_,0,r=>r
 | _,_,_ + 1,.nil=>.nil
 | _,_,n + 1,.cons _ t=>Vals.drop n t
def jV:Option V->Option Value->Prop
 | some v,some u=>RelV v u
 | none,none=>True
 | _,_=>False
def KV {κ:Type}:List (κ×V)->List (κ×Value)->Prop:=Paired fun (p:κ×V)(q:κ×Value)=>p.1=q.1/\RelV p.2 q.2
def kV:Key->V
 | .inl i=>.int i
 | .inr x=>.str x
inductive HO where
 /-- a list -/
 | lst (xs:List V)
 /-- a tuple (never changes) -/
 | tup (xs:List V)
 /-- a dict whose keys are ints and texts;one whose keys are tuples of ints and texts (the empty one is both) -/
 | dK (kvs:List (Key×V)) | dT (kvs:List (List Key×V))
 /-- a set of ints: its members,its size -/
 | set (S:Int->Bool) (n:Nat)
 /-- an instance of the class at C,its dict at dx,its attributes -/
 | ins (C dx:Addr)(fs:List (Str×V))
 /-- the dict of the instance at x -/
 | own (x:Addr)
 /-- the dict of an exception -/
 | xd (fs:List (Str×V))
 /-- a bound method,f of x -/
 | met (f x:Addr)
 /-- a range object lo,lo + 1,.. below hi -/
 | oN (lo hi:Int)
 /-- a thing that is known to the object (the script;a dict while a loop walks it): read,never written while it is so -/
 | fM (o:Obj)(u:HO)
 /-- a code object's table -/
 | sJ (ps:Array Value)
 /-- any other thing,by what is true of its one object (a def of one's own: SetO a S n:=HO.ext fun h=>..) -/
 | ext (φ:Heap->Prop)
abbrev Hp:=Addr->Option HO
def upd (H:Hp)(a:Addr)(o:HO):Hp:=fun b=>if b=a then some o else H b
theorem aL {H:Hp}{a:Addr}{o:HO}:upd H a o a=some o:=by unfold upd;rw [if_pos rfl]
theorem au {H:Hp}{a b:Addr}{o:HO}(h:b≠a):upd H a o b=H b:=by unfold upd;rw [if_neg h]
theorem JC {H:Hp}{a b:Addr}{o u:HO}(h:H a=some o)(h':H b=some u)(d:o≠u):a≠b:=by
 intro e;subst e;rw [h] at h';exact d (Option.some.inj h')
theorem gi {H:Hp}{a b:Addr}{o:HO}(h:H a=some o)(h':H b=none):a≠b:=by
 intro e;subst e;rw [h] at h';cases h'
section
variable (P:Program)(w:World)
def bP (H:Hp)(h:Heap)(a:Addr):HO->Prop
 | .lst xs=>xs.length<=sizeLine/\∃ (its:List Value) (n:Nat),Vals xs its/\h.get? a=some { cls:=.type "list",data:=.seq its.toArray n }
 | .tup xs=>xs.length<=sizeLine/\∃ its:List Value,Vals xs its/\IsTup h a its.toArray
 | .dK kvs=>kvs.length<=sizeLine/\(a == sysModules)=false/\∃ vs,KV kvs vs/\h.DictOf (cO P w) a vs
 | .dT kvs=>kvs.length<=sizeLine/\(a == sysModules)=false/\∃ xs:List (List Key×Addr×Value),
   Paired (fun (p:List Key×V)(q:List Key×Addr×Value)=>p.1=q.1/\H q.2.1=some (.tup (p.1.map kV))/\RelV p.2 q.2.2) kvs xs /\
   ∃ o es ep,h.get? a=some o/\o.ExactDict/\o.data=.dict es ep/\es.toList=xs.map (entryOfKey (tupleKind (cO P w)))/\(xs.map (·.1)).Nodup
 | .set S n=>h.SetOf (intKind P w) a S n
 | .ins C dx fs=>H dx=some (.own a)/\fs.length<=1000/\dx≠a/\h.get? a=some (PySem.W.instObj C dx) /\
   ∃ mA,h.Ns1 dx mA/\(∀ f,jV (fs.lookup f) (mA f))/\PySem.Within mA (fs.map (·.1))
 | .own _=>∃ o,h.get? a=some o
 | .xd fs=>∃ mA,h.Ns1 a mA/\∀ f,jV (fs.lookup f) (mA f)
 | .oN lo hi=>∃ t u v,h.get? a=some { cls:=.type "range",data:=.fields #[.int lo t,.int hi u,.int 1 v] }
 | .fM o u=>h.get? a=some o/\bP H h a u
 | .sJ ps=>h.get? a=some { cls:=.none,data:=.fields ps }
 | .met f x=>h.get? a=some (PySem.W.methodObj (.ref f) (.ref x))
 | .ext φ=>φ h/\(∃ o,h.get? a=some o)/\∀ h1 h2:Heap,φ h1->(∀ o,h1.get? a=some o->h2.get? a=some o)->φ h2
def dJ (H:Hp)(h:Heap):Prop:=∀ a o,H a=some o->bP P w H h a o
end
section
variable {P:Program}{w:World}{H H':Hp}{h h':Heap}{a:Addr}{o:HO}
theorem bP.lt (x:bP P w H h a o):a < h.objs.size:=by
 cases o with
 | lst xs=>obtain ⟨_,_,_,_,e⟩:=x;exact Heap.lt_size e
 | tup xs=>obtain ⟨_,_,_,p⟩:=x;exact p.lt
 | dK kvs=>obtain ⟨_,_,_,_,o,_,_,e,_⟩:=x;exact Heap.lt_size e
 | dT kvs=>obtain ⟨_,_,_,_,o,_,_,e,_⟩:=x;exact Heap.lt_size e
 | set S n=>obtain ⟨o,_,_,_,e,_⟩:=x;exact Heap.lt_size e
 | ins C dx fs=>obtain ⟨_,_,_,e,_⟩:=x;exact Heap.lt_size e
 | own y=>obtain ⟨_,e⟩:=x;exact Heap.lt_size e
 | xd fs=>obtain ⟨_,⟨_,_,_,e,_⟩,_⟩:=x;exact Heap.lt_size e
 | oN lo hi=>obtain ⟨_,_,_,e⟩:=x;exact Heap.lt_size e
 | fM ob u=>obtain ⟨e,_⟩:=x;exact Heap.lt_size e
 | sJ ps=>exact Heap.lt_size (show h.get? a=some _ from x)
 | met f y=>exact Heap.lt_size (show h.get? a=some _ from x)
 | ext φ=>obtain ⟨_,⟨_,e⟩,_⟩:=x;exact Heap.lt_size e
theorem Paired.Cr {α β:Type}{F G:α->β->Prop}:∀ {l₁:List α}{l₂:List β},Paired F l₁ l₂->(∀ a b,F a b->G a b)->Paired G l₁ l₂
 | _,_,.nil,_=>.nil
 | _,_,.cons r t,f=>.cons (f _ _ r) (Paired.Cr t f)
theorem bP.stay (x:bP P w H h a o)(k:∀ b u,(b=a\/H b=some (.own a))->h.get? b=some u->h'.get? b=some u)
  (ho:∀ b,H b=some (.own a)->H' b=some (.own a))(ht:∀ b xs,H b=some (.tup xs)->H' b=some (.tup xs)):bP P w H' h' a o:=by
 induction o with
 | lst xs=>obtain ⟨z,its,n,r,e⟩:=x;exact ⟨z,its,n,r,k _ _ (.inl rfl) e⟩
 | tup xs=>obtain ⟨z,its,r,ob,e,c⟩:=x;exact ⟨z,its,r,ob,k _ _ (.inl rfl) e,c⟩
 | dK kvs=>obtain ⟨z,y,vs,r,ob,es,ep,e,c⟩:=x;exact ⟨z,y,vs,r,ob,es,ep,k _ _ (.inl rfl) e,c⟩
 | dT kvs =>
  obtain ⟨z,y,xs,r,ob,es,ep,e,c⟩:=x
  exact ⟨z,y,xs,Paired.Cr r fun p q z=>⟨z.1,ht _ _ z.2.1,z.2.2⟩,ob,es,ep,k _ _ (.inl rfl) e,c⟩
 | set S n=>obtain ⟨ob,es,ep,t,e,c⟩:=x;exact ⟨ob,es,ep,t,k _ _ (.inl rfl) e,c⟩
 | ins C dx fs =>
  obtain ⟨d,z,ne,e,mA,⟨od,es,ep,e2,c⟩,r⟩:=x
  exact ⟨ho _ d,z,ne,k _ _ (.inl rfl) e,mA,⟨od,es,ep,k _ _ (.inr d) e2,c⟩,r⟩
 | own y=>obtain ⟨ob,e⟩:=x;exact ⟨ob,k _ _ (.inl rfl) e⟩
 | xd fs=>obtain ⟨mA,⟨od,es,ep,e,c⟩,r⟩:=x;exact ⟨mA,⟨od,es,ep,k _ _ (.inl rfl) e,c⟩,r⟩
 | oN lo hi=>obtain ⟨t,u,v,e⟩:=x;exact ⟨t,u,v,k _ _ (.inl rfl) e⟩
 | fM ob u ih=>obtain ⟨e,q⟩:=x;exact ⟨k _ _ (.inl rfl) e,ih q⟩
 | sJ ps =>
  have e:h.get? a=some { cls:=.none,data:=.fields ps }:=x
  show h'.get? a=some { cls:=.none,data:=.fields ps }
  exact k a _ (.inl rfl) e
 | met f y =>
  have e:h.get? a=some (PySem.W.methodObj (.ref f) (.ref y)):=x
  show h'.get? a=some (PySem.W.methodObj (.ref f) (.ref y))
  exact k a _ (.inl rfl) e
 | ext φ=>obtain ⟨p,⟨o,e⟩,st⟩:=x;exact ⟨st _ _ p fun o q=>k _ _ (.inl rfl) q,⟨o,k _ _ (.inl rfl) e⟩,st⟩
theorem dJ.lt (x:dJ P w H h)(e:H a=some o):a < h.objs.size:=(x a o e).lt
theorem dJ.fresh (x:dJ P w H h)(e:h.objs.size<=a):H a=none:=by
 cases q:H a with
 | none=>rfl
 | some u=>exact absurd (Nat.lt_of_lt_of_le (x.lt q) e) (Nat.lt_irrefl _)
theorem dJ.kept (x:dJ P w H h)(k:∀ b u,h.get? b=some u->h'.get? b=some u):dJ P w H h':=fun a o e =>
 (x a o e).stay (fun b u _ q=>k b u q) (fun _ q=>q) fun _ _ q=>q
theorem dJ.laid (x:dJ P w H h)(k:∀ b u,h.get? b=some u->h'.get? b=some u)(hp:h.objs.size<=a)(new:bP P w (upd H a o) h' a o):dJ P w (upd H a o) h':=fun b u e=>by
 have hn:=x.fresh hp
 by_cases hb:b=a
 ·subst hb;rw [aL] at e;cases e;exact new
 ·rw [au hb] at e
  exact (x b u e).stay (fun c v _ q=>k c v q) (fun c q=>by rw [au (gi q hn)];exact q) fun c xs q=>by rw [au (gi q hn)];exact q
end
def Rd (H:Hp)(a:Addr)(u:HO):Prop:=H a=some u\/∃ o,H a=some (.fM o u)
theorem Rd.ok {P:Program}{w:World}{H:Hp}{h:Heap}{a:Addr}{u:HO}(r:Rd H a u)(x:dJ P w H h):bP P w H h a u:=by
 rcases r with r | ⟨o,r⟩
 ·exact x a u r
 ·obtain ⟨_,q⟩:=x a _ r
  exact q
def AV:Option HO->Prop
 | some (.lst _)=>True
 | some (.dK _)=>True
 | some (.dT _)=>True
 | some (.set _ _)=>True
 | some (.ins _ _ _)=>True
 | some (.ext _)=>True
 | _=>False
section
variable {P:Program}{w:World}{H:Hp}{h h':Heap}{x e:Addr}{o':HO}
theorem dJ.write (ok:dJ P w H h)(mu:AV (H x))(he:e=x\/H e=some (.own x))(k:∀ b u,b≠e->h.get? b=some u->h'.get? b=some u)(heo:∃ u,h'.get? e=some u)
  (new:bP P w (upd H x o') h' x o'):dJ P w (upd H x o') h':=fun b u q=>by
 have nown:∀ c y,H c=some (.own y)->c≠x:=fun c y r z=>by subst z;rw [r] at mu;exact mu
 have ntup:∀ c xs,H c=some (.tup xs)->c≠x:=fun c xs r z=>by subst z;rw [r] at mu;exact mu
 by_cases hb:b=x
 ·subst hb;rw [aL] at q;cases q;exact new
 ·rw [au hb] at q
  by_cases hbe:b=e
  ·have q':H b=some (.own x):=by
    rcases he with z | z
    ·exact absurd (hbe.trans z) hb
    ·rw [hbe];exact z
   rw [q] at q';cases q'
   obtain ⟨v,hv⟩:=heo
   exact ⟨v,by rw [hbe];exact hv⟩
  ·refine (ok b u q).stay (fun c v hc r=>k c v ?_ r) (fun c r=>by rw [au (nown c b r)];exact r) fun c xs r=>by rw [au (ntup c xs r)];exact r
   rcases hc with rfl | hc
   ·exact hbe
   ·rintro rfl
    rcases he with z | z
    ·exact nown c b hc z
    ·rw [hc] at z;cases z;exact hb rfl
end
/-! ### kept unless tracked;of the frames at fs (the callers') the slots may change (an exception that passes writes there);of the records at ex (iterators) nothing is said -/
structure Un (fs ex:List Addr)(H H':Hp)(h h':Heap):Prop where
 keep:∀ b o,h.get? b=some o->H b=none->b∉fs->b∉ex->h'.get? b=some o
 slot:∀ b o,h.get? b=some o->H b=none->b∈fs->b∉ex->∃ sl,h'.get? b=some { o with slots:=sl }
 free:∀ b o,h.get? b=some o->H b=none->b∉ex->H' b=none
 there:∀ b o,h.get? b=some o->b∉ex->∃ o',h'.get? b=some o'
 tups:∀ b xs,H b=some (.tup xs)->H' b=some (.tup xs)
 jy:∀ b o u,H b=some (.fM o u)->H' b=some (.fM o u)
 j5:∀ b ps,H b=some (.sJ ps)->∃ more,H' b=some (.sJ (ps++more))
section
variable {fs fs' ex ex':List Addr}{H H1 H2:Hp}{h h1 h2 h':Heap}{a x e:Addr}{o:HO}
theorem Un.any (u:Un fs ex H H1 h h1){b:Addr}{ob:Obj}(q:h.get? b=some ob)(n:H b=none)(hx:b∉ex):∃ sl,h1.get? b=some { ob with slots:=sl }:=by
 by_cases hb:b∈fs
 ·exact u.slot b ob q n hb hx
 ·exact ⟨ob.slots,u.keep b ob q n hb hx⟩
theorem Un.kept (k:∀ b u,h.get? b=some u->h'.get? b=some u):Un fs ex H H h h' :=
 ⟨fun b ob q _ _ _=>k b ob q,fun b ob q _ _ _=>⟨ob.slots,k b ob q⟩,fun _ _ _ n _=>n,fun b ob q _=>⟨ob,k b ob q⟩,fun _ _ q=>q,fun _ _ _ q=>q,fun _ ps q=>⟨#[],by rw [q];simp⟩⟩
theorem Un.refl:Un fs ex H H h h:=Un.kept fun _ _ q=>q
theorem Un.laid (k:∀ b u,h.get? b=some u->h'.get? b=some u)(hp:h.objs.size<=a)(hn:H a=none):Un fs ex H (upd H a o) h h' where
 keep:=fun b u q _ _ _=>k b u q
 slot:=fun b u q _ _ _=>⟨u.slots,k b u q⟩
 free:=fun b u q n _=>by rw [au (Nat.ne_of_lt (Nat.lt_of_lt_of_le (Heap.lt_size q) hp))];exact n
 there:=fun b u q _=>⟨u,k b u q⟩
 tups:=fun b xs q=>by rw [au (gi q hn)];exact q
 jy:=fun b u xs q=>by rw [au (gi q hn)];exact q
 j5:=fun b ps q=>⟨#[],by rw [au (gi q hn),q];simp⟩
theorem Un.write (mu:AV (H x))(he:e=x\/H e=some (.own x))(k:∀ b u,b≠e->h.get? b=some u->h'.get? b=some u)(heo:∃ u,h'.get? e=some u):Un fs ex H (upd H x o) h h':=by
 have hx:∀ b,H b=none->b≠x:=fun b n z=>by subst z;rw [n] at mu;exact mu
 have hb:∀ b,H b=none->b≠e:=fun b n z=>by
  subst z
  rcases he with r | r
  ·exact hx b n r
  ·rw [n] at r;cases r
 have hm:∀ b u,H b=some u->¬ AV (some u)->b≠x:=fun b u q nm z=>by subst z;rw [q] at mu;exact nm mu
 refine ⟨fun b u q n _ _=>k b u (hb b n) q,fun b u q n _ _=>⟨u.slots,k b u (hb b n) q⟩,fun b u q n _=>by rw [au (hx b n)];exact n,fun b u q _=>?_,
  fun b xs q=>by rw [au (hm b _ q fun z=>z)];exact q,fun b u xs q=>by rw [au (hm b _ q fun z=>z)];exact q,fun b ps q=>⟨#[],by rw [au (hm b _ q fun z=>z),q];simp⟩⟩
 by_cases hbe:b=e
 ·subst hbe;exact heo
 ·exact ⟨u,k b u hbe q⟩
end
/-! ### the heap without what is tracked -/
def Ds (h:Heap)(H:Hp):List Addr:=(List.range h.objs.size).filter fun a=>(H a).isSome
def l7 (h:Heap)(H:Hp):Heap:=PySem.W.hideAll h (Ds h H)
theorem zj (h:Heap)(H:Hp):(l7 h H).objs.size=h.objs.size:=PySem.W.hideAll_size _ _
theorem Bx {h:Heap}{H:Hp}{b:Addr}{o:Obj}(e:h.get? b=some o)(n:H b=none):(l7 h H).get? b=some o :=
 PySem.W.hideAll_get _ e fun hm=>by
  have q:(H b).isSome=true:=(List.mem_filter.mp hm).2
  rw [n] at q;simp at q
theorem Fq {h:Heap}{H:Hp}{b:Addr}{o:Obj}(e:(l7 h H).get? b=some o):h.get? b=some o/\H b=none:=by
 have e':h.get? b=some o:=PySem.W.of_hideAll (Ds h H) e
 refine ⟨e',?_⟩
 cases q:H b with
 | none=>rfl
 | some x =>
  have hm:b∈Ds h H:=List.mem_filter.mpr ⟨List.mem_range.mpr (Heap.lt_size e'),by simp [q]⟩
  have z:(l7 h H).get? b=none:=PySem.W.hideAll_none (Ds h H) hm
  rw [z] at e;cases e
/-! ### OpenK's ledger,filled with every new object but one -/
end L2
namespace L2
open PySem PySem.Spec PyProof.Rows
structure Mod (K:PySem.W.Frag)(mg:Str->Option Value)(base:Heap):Prop where
 CD:K.In base
 glob:base.Ns mainGlobals mg
 blt:∃ mb,base.Ns builtinsNs mb/\∀ x:Str,x≠"__name__"->mb x=bootBuiltins x
 nolimit:base.NoLimit
structure Cx where
 prog:Program
 w:World
 K:PySem.W.Frag
 mg:Str->Option Value
 base:Heap
 A:Around
 N:List Str
 s₀:Shared
 H₀:Hp
 env:Env
 outer:List Env
 stack:List Env
 ex:List Addr
 fn:Str->Bool
 calm:Bool
 pn:List (Addr×Obj)
 xe:Value->Shared->Prop
def frs (l:List Env):List Addr:=l.filterMap (·.frame)
abbrev Cx.fs (X:Cx):List Addr:=frs X.outer
def kY (sc:Scope) (x:Str):Prop:=sc.names.lookup x=some .local\/sc.names.lookup x=some .cell\/sc.names.lookup x=some .free
def Loc (sc:Scope) (x:Str):Prop:=sc.names.lookup x=some .local\/sc.names.lookup x=some .cell
def Look (env:Env)(h:Heap)(m:Str->Option Value) (x:Str)(u:Value):Prop :=
 (env.kindOf x=some .local/\m x=some u)\/((env.kindOf x=some .cell\/env.kindOf x=some .free)/\∃ c,env.cells.lookup x=some c/\h.IsCell c (some u))
structure Cx.Ok (X:Cx):Prop where
 mod:Mod X.K X.mg X.base
 kind:X.env.scope.kind=.function
 glob:X.env.globals=mainGlobals
 blt:X.env.builtins=builtinsNs
 above:X.s₀.heap.objs.size<=X.env.locals
 inj:∀ x y c,X.env.cells.lookup x=some c->X.env.cells.lookup y=some c->x=y
 has:∀ x,(X.env.kindOf x=some .cell\/X.env.kindOf x=some .free)->∃ c,X.env.cells.lookup x=some c
 zY:∀ x c,X.fn x=true->X.env.cells.lookup x=some c->X.s₀.heap.objs.size<=c
 hd:X.calm=true->X.A.handled=none
 frames:X.A.frames=some X.stack
 stk:X.stack=X.outer\/(X.stack=X.env::X.outer/\X.env.frame=some X.env.locals)
 KJ:∀ b∈X.ex,b≠X.env.locals/\∀ x c,X.env.cells.lookup x=some c->c≠b
 bs:∀ b o,X.base.get? b=some o->X.s₀.heap.get? b=some o/\X.H₀ b=none
 sW:X.base.objs.size<=X.s₀.heap.objs.size
 rS:∀ b o,X.base.get? b=some o->b∉X.ex
 yw:∀ b∈X.ex,b∉X.fs
 jQ:X.s₀.heap.FunFrames X.base X.outer
 wz:∀ b∈X.fs,X.H₀ b=none
structure Inv (X:Cx)(pins:List (Addr×Obj))(σ:List (Option V))(H:Hp)(s:Shared):Prop where
 ok:X.Ok
 os:s.os=X.s₀.os
 bare:AllBare s.gens
 base:Un X.fs X.ex X.H₀ H X.s₀.heap s.heap
 loc:∃ m,s.heap.Ns X.env.locals m/\∀ (i:Nat) (x:Str) (v:V),X.N[i]?=some x->σ[i]?=some (some v)->kY X.env.scope x->∃ u,RelV v u/\Look X.env s.heap m x u
 cell:∀ x c,X.env.cells.lookup x=some c->∃ v,s.heap.IsCell c v
 free:H X.env.locals=none
 iw:∀ x c,X.env.cells.lookup x=some c->H c=none
 pin:∀ p∈X.pn++pins,s.heap.get? p.1=some p.2/\H p.1=none/\p.1≠X.env.locals/\p.1∉X.fs/\∀ v,p.2.data≠.cell v
 hok:dJ X.prog X.w H s.heap
 len:σ.length=X.N.length
section
variable {X:Cx}{pins:List (Addr×Obj)}{σ:List (Option V)}{H H':Hp}{s:Shared}{h':Heap}
theorem Cx.Ok.La (ok:X.Ok){b:Addr}{o:Obj}(e:X.base.get? b=some o):b∉X.fs:=fun hb=>by
 have:=(ok.jQ.mem hb).1
 rw [e] at this;cases this
theorem Inv.bs (I:Inv X pins σ H s):∀ b o,X.base.get? b=some o->s.heap.get? b=some o/\H b=none:=fun b o e =>
 ⟨I.base.keep b o (I.ok.bs b o e).1 (I.ok.bs b o e).2 (I.ok.La e) (I.ok.rS b o e),I.base.free b o (I.ok.bs b o e).1 (I.ok.bs b o e).2 (I.ok.rS b o e)⟩
theorem Inv.bk (I:Inv X pins σ H s):∀ b o,X.base.get? b=some o->s.heap.get? b=some o:=fun b o e=>(I.bs b o e).1
theorem Inv.mod (I:Inv X pins σ H s):Mod X.K X.mg X.base:=I.ok.mod
theorem Inv.ic (I:Inv X pins σ H s):X.K.In s.heap:=I.ok.mod.CD.keeps I.bk
theorem Inv.lt (I:Inv X pins σ H s):X.env.locals < s.heap.objs.size:=let ⟨_,hn,_⟩:=I.loc;hn.lt
theorem Inv.sz (I:Inv X pins σ H s):X.s₀.heap.objs.size<=s.heap.objs.size:=Nat.le_trans I.ok.above (Nat.le_of_lt I.lt)
theorem Inv.BJ (I:Inv X pins σ H s){a:Addr}(h:s.heap.objs.size<=a):a∉X.fs:=fun hb=>by
 obtain ⟨_,o,ho,_⟩:=I.ok.jQ.mem hb
 exact absurd (Nat.lt_of_lt_of_le (Heap.lt_size ho) (Nat.le_trans I.sz h)) (Nat.lt_irrefl _)
theorem Inv.uO (I:Inv X pins σ H s):∀ x c,X.env.cells.lookup x=some c->c≠X.env.locals:=fun x c e z=>by
 obtain ⟨v,o,ho,hd⟩:=I.cell x c e
 obtain ⟨m,⟨o',es,ep,ho',hd',_⟩,_⟩:=I.loc
 rw [z,ho'] at ho;cases ho;rw [hd'] at hd;cases hd
theorem Inv.jQ (I:Inv X pins σ H s):s.heap.FunFrames X.base X.outer:=by
 have all:∀ (l:List Env),(∀ b∈frs l,b∈X.fs)->X.s₀.heap.FunFrames X.base l->s.heap.FunFrames X.base l:=by
  intro l
  induction l with
  | nil=>intro _ _;trivial
  | cons env r ih =>
   intro hs hl
   obtain ⟨hk,⟨L,o,hf,hn,ho,hd⟩,hr⟩:=hl
   have hL:L∈X.fs:=hs L (by unfold frs;rw [List.filterMap_cons,hf];exact List.mem_cons_self)
   obtain ⟨sl,e⟩:=I.base.slot L o ho (I.ok.wz L hL) hL fun z=>I.ok.yw L z hL
   exact ⟨hk,⟨L,_,hf,hn,e,hd⟩,ih (fun b hb=>hs b (by unfold frs;rw [List.filterMap_cons,hf];exact List.mem_cons_of_mem _ hb)) hr⟩
 exact all X.outer (fun _ hb=>hb) I.ok.jQ
theorem Inv.stack (I:Inv X pins σ H s):s.heap.FunFrames X.base X.stack:=by
 rcases I.ok.stk with e | ⟨e,hf⟩
 ·rw [e];exact I.jQ
 ·rw [e]
  obtain ⟨m,hn,_⟩:=I.loc
  refine .cons (by rw [I.ok.kind];decide) hf hn ?_ I.jQ
  exact Heap.get?_none_of_le (Nat.le_trans I.ok.sW I.ok.above)
theorem Inv.jo (I:Inv X pins σ H s):∀ b∈frs X.stack,b∈X.env.locals::X.fs:=fun b hb=>by
 rcases I.ok.stk with e | ⟨e,hf⟩
 ·rw [e] at hb;exact List.mem_cons_of_mem _ hb
 ·rw [e] at hb
  unfold frs at hb
  rw [List.filterMap_cons,hf] at hb
  exact hb
theorem Inv.nO (I:Inv X pins σ H s):∀ b∈frs X.stack,H b=none:=fun b hb=>by
 rcases List.mem_cons.mp (I.jo b hb) with e | hb
 ·rw [e];exact I.free
 ·obtain ⟨_,o,ho,_⟩:=I.ok.jQ.mem hb
  exact I.base.free b o ho (I.ok.wz b hb) fun z=>I.ok.yw b z hb
theorem Inv.step {g':Array GenState}{t':Nat}{d':Drawn}{ch:List Addr}(I:Inv X pins σ H s)
  (hch:∀ b∈ch,(b∈X.ex\/X.s₀.heap.objs.size<=b)/\b≠X.env.locals/\(∀ x c,X.env.cells.lookup x=some c->c≠b)/\∀ p∈X.pn++pins,p.1≠b)
  (keep:∀ b o,b≠X.env.locals->b∉X.fs->b∉ch->s.heap.get? b=some o->H b=none->h'.get? b=some o)
  (slot:∀ b o,b≠X.env.locals->b∈X.fs->b∉ch->s.heap.get? b=some o->H b=none->∃ sl,h'.get? b=some { o with slots:=sl })(free:∀ b o,b∉ch->s.heap.get? b=some o->H b=none->H' b=none)
  (there:∀ b o,b∉ch->s.heap.get? b=some o->∃ o',h'.get? b=some o')
  (tups:∀ b xs,H b=some (.tup xs)->H' b=some (.tup xs))(jy:∀ b o u,H b=some (.fM o u)->H' b=some (.fM o u))(j5:∀ b ps,H b=some (.sJ ps)->∃ more,H' b=some (.sJ (ps++more)))
  (ns:∀ m,s.heap.Ns X.env.locals m->h'.Ns X.env.locals m)(hok:dJ X.prog X.w H' h')(hg:AllBare g') :
  Inv X pins σ H' { s with heap:=h',gens:=g',drawn:=d',toks:=t' }:=by
 have neL:∀ b o,X.s₀.heap.get? b=some o->b≠X.env.locals:=fun b o e=>Nat.ne_of_lt (Nat.lt_of_lt_of_le (Heap.lt_size e) I.ok.above)
 have neC:∀ b o,X.s₀.heap.get? b=some o->b∉X.ex->b∉ch:=fun b o e hx hb=>by
  rcases (hch b hb).1 with z | z
  ·exact hx z
  ·exact absurd (Nat.lt_of_lt_of_le (Heap.lt_size e) z) (Nat.lt_irrefl _)
 have cellK:∀ x c,X.env.cells.lookup x=some c->∀ v,s.heap.IsCell c v->h'.IsCell c v:=fun x c e v ⟨o,ho,hd⟩=>by
  have nch:c∉ch:=fun z=>(hch c z).2.2.1 x c e rfl
  by_cases hc:c∈X.fs
  ·obtain ⟨sl,q⟩:=slot c o (I.uO x c e) hc nch ho (I.iw x c e)
   exact ⟨_,q,hd⟩
  ·exact ⟨o,keep c o (I.uO x c e) hc nch ho (I.iw x c e),hd⟩
 refine ⟨I.ok,I.os,hg,⟨fun b o e n hb hx=>?_,fun b o e n hb hx=>?_,fun b o e n hx=>?_,fun b o e hx=>?_,fun b xs e=>tups b xs (I.base.tups b xs e),fun b o xs e=>jy b o xs (I.base.jy b o xs e),fun b ps e=>?_⟩,?_,fun x c e=>?_,?_,fun x c e=>?_,fun p hp=>?_,hok,I.len⟩
 ·exact keep b o (neL b o e) hb (neC b o e hx) (I.base.keep b o e n hb hx) (I.base.free b o e n hx)
 ·obtain ⟨sl,e1⟩:=I.base.slot b o e n hb hx
  obtain ⟨sl',e2⟩:=slot b _ (neL b o e) hb (neC b o e hx) e1 (I.base.free b o e n hx)
  exact ⟨sl',e2⟩
 ·obtain ⟨o',e1⟩:=I.base.there b o e hx
  exact free b o' (neC b o e hx) e1 (I.base.free b o e n hx)
 ·obtain ⟨o',e1⟩:=I.base.there b o e hx
  exact there b o' (neC b o e hx) e1
 ·obtain ⟨m1,e1⟩:=I.base.j5 b ps e
  obtain ⟨m2,e2⟩:=j5 b _ e1
  exact ⟨m1++m2,by rw [e2,Array.append_assoc]⟩
 ·obtain ⟨m,hn,hl⟩:=I.loc
  refine ⟨m,ns m hn,fun i x v e1 e2 e3=>?_⟩
  obtain ⟨u,r,l⟩:=hl i x v e1 e2 e3
  refine ⟨u,r,?_⟩
  rcases l with l | ⟨k,c,e,z⟩
  ·exact .inl l
  ·exact .inr ⟨k,c,e,cellK x c e _ z⟩
 ·obtain ⟨v,z⟩:=I.cell x c e
  exact ⟨v,cellK x c e v z⟩
 ·obtain ⟨m,⟨o,_,_,ho,_⟩,_⟩:=I.loc
  exact free _ o (fun z=>(hch _ z).2.1 rfl) ho I.free
 ·obtain ⟨v,o,ho,hd⟩:=I.cell x c e
  exact free c o (fun z=>(hch c z).2.2.1 x c e rfl) ho (I.iw x c e)
 ·obtain ⟨e,n,ne,nf,d⟩:=I.pin p hp
  have nch:p.1∉ch:=fun z=>(hch p.1 z).2.2.2 p hp rfl
  exact ⟨keep p.1 p.2 ne nf nch e n,free p.1 p.2 nch e n,ne,nf,d⟩
theorem Inv.un {t':Nat}(I:Inv X pins σ H s)(u:Un X.fs [] H H' s.heap h')(hok:dJ X.prog X.w H' h'):Inv X pins σ H' { s with heap:=h',toks:=t' }:=by
 obtain ⟨m,⟨o,es,ep,ho,r⟩,_⟩:=id I.loc
 obtain ⟨sl,hL⟩:=u.any ho I.free (by simp)
 exact I.step (g':=s.gens) (d':=s.drawn) (ch:=[]) (fun _ z=>nomatch z) (fun b o _ hb _ e n=>u.keep b o e n hb (by simp)) (fun b o _ hb _ e n=>u.slot b o e n hb (by simp)) (fun b o _ e n=>u.free b o e n (by simp)) (fun b o _ e=>u.there b o e (by simp)) u.tups u.jy u.j5 (fun m' hm=>by
  obtain ⟨o',es',ep',ho',r'⟩:=hm
  rw [ho] at ho';cases ho'
  exact ⟨_,es',ep',hL,r'⟩) hok I.bare
theorem Inv.call {g':Array GenState}{t':Nat}{d':Drawn}{ch:List Addr}(I:Inv X pins σ H s)(u:Un (frs X.stack) ch H H' s.heap h')(hok:dJ X.prog X.w H' h')(hg:AllBare g')
  (hch:∀ b∈ch,(b∈X.ex\/X.s₀.heap.objs.size<=b)/\b≠X.env.locals/\(∀ x c,X.env.cells.lookup x=some c->c≠b)/\∀ p∈X.pn++pins,p.1≠b) :
  Inv X pins σ H' { s with heap:=h',gens:=g',drawn:=d',toks:=t' }:=by
 obtain ⟨m,⟨o,es,ep,ho,r⟩,_⟩:=id I.loc
 obtain ⟨sl,hL⟩:=u.any ho I.free fun z=>(hch _ z).2.1 rfl
 exact I.step (ch:=ch) hch (fun b o hL hb hc e n=>u.keep b o e n (fun z=>(List.mem_cons.mp (I.jo b z)).elim hL hb) hc) (fun b o _ _ hc e n=>u.any e n hc) (fun b o hc e n=>u.free b o e n hc) (fun b o hc e=>u.there b o e hc) u.tups u.jy u.j5 (fun m' hm=>by
  obtain ⟨o',es',ep',ho',r'⟩:=hm
  rw [ho] at ho';cases ho'
  exact ⟨_,es',ep',hL,r'⟩) hok hg
theorem Inv.turned {t':Nat}{it:Addr}(I:Inv X pins σ H s)(k:∀ b o,b≠it->s.heap.get? b=some o->h'.get? b=some o)(hn:H it=none)(hL:it≠X.env.locals)
  (h1:it∈X.ex\/X.s₀.heap.objs.size<=it)(h2:∀ x c,X.env.cells.lookup x=some c->c≠it)(h3:∀ p∈X.pn++pins,p.1≠it):Inv X pins σ H { s with heap:=h',toks:=t' }:=by
 have nit:∀ b u,H b=some u->b≠it:=fun b u e z=>by rw [z,hn] at e;cases e
 refine I.step (g':=s.gens) (d':=s.drawn) (ch:=[it]) (fun b hb=>?_) (fun b o _ _ hc e _=>k b o (fun z=>hc (by simp [z])) e) (fun b o _ _ hc e _=>⟨o.slots,k b o (fun z=>hc (by simp [z])) e⟩) (fun _ _ _ _ n=>n)
  (fun b o hc e=>⟨o,k b o (fun z=>hc (by simp [z])) e⟩) (fun _ _ e=>e) (fun _ _ _ e=>e) (fun b ps e=>⟨#[],by rw [e];simp⟩) (fun m hm=>?_) (fun b u e=>?_) I.bare
 ·have e:b=it:=by simpa using hb
  subst e
  exact ⟨h1,hL,h2,h3⟩
 ·obtain ⟨o,es,ep,ho,r⟩:=hm
  exact ⟨o,es,ep,k _ o (Ne.symm hL) ho,r⟩
 ·refine (I.hok b u e).stay (fun c v hc q=>k c v ?_ q) (fun _ q=>q) fun _ _ q=>q
  rcases hc with z | z
  ·rw [z];exact nit b u e
  ·exact nit c _ z
theorem Inv.tok (I:Inv X pins σ H s) (t:Nat):Inv X pins σ H { s with toks:=t }:=I.un (h':=s.heap) (t':=t) Un.refl I.hok
theorem Inv.kept {t':Nat}(I:Inv X pins σ H s)(k:∀ b u,s.heap.get? b=some u->h'.get? b=some u):Inv X pins σ H { s with heap:=h',toks:=t' }:=I.un (Un.kept k) (I.hok.kept k)
theorem Inv.laid {a:Addr}{o:HO}{t':Nat}(I:Inv X pins σ H s)(k:∀ b u,s.heap.get? b=some u->h'.get? b=some u)(hp:s.heap.objs.size<=a)(new:bP X.prog X.w (upd H a o) h' a o) :
  Inv X pins σ (upd H a o) { s with heap:=h',toks:=t' }:=I.un (Un.laid k hp (I.hok.fresh hp)) (I.hok.laid k hp new)
theorem Inv.write {x e:Addr}{o:HO}{t':Nat}(I:Inv X pins σ H s)(mu:AV (H x))(he:e=x\/H e=some (.own x))(k:∀ b u,b≠e->s.heap.get? b=some u->h'.get? b=some u)(heo:∃ u,h'.get? e=some u)
  (new:bP X.prog X.w (upd H x o) h' x o):Inv X pins σ (upd H x o) { s with heap:=h',toks:=t' }:=I.un (Un.write mu he k heo) (I.hok.write mu he k heo new)
theorem Inv.jG {pins':List (Addr×Obj)}(I:Inv X pins σ H s)(h:∀ p∈pins',s.heap.get? p.1=some p.2/\H p.1=none/\p.1≠X.env.locals/\p.1∉X.fs/\∀ v,p.2.data≠.cell v):Inv X pins' σ H s :=
 ⟨I.ok,I.os,I.bare,I.base,I.loc,I.cell,I.free,I.iw,fun p hp=>(List.mem_append.mp hp).elim (fun z=>I.pin p (List.mem_append_left _ z)) (h p),I.hok,I.len⟩
theorem vo {N:List Str}(hN:N.Nodup){i j:Nat}{x:Str}(a:N[i]?=some x)(b:N[j]?=some x):i=j:=by
 obtain ⟨h1,e1⟩:=List.getElem?_eq_some_iff.mp a
 obtain ⟨h2,e2⟩:=List.getElem?_eq_some_iff.mp b
 exact (List.getElem_inj hN).mp (e1.trans e2.symm)
theorem sR {M:Model}{A:Around}{E:Value->Shared->Prop}{i:Nat}{x:Str}{v:V}{u:Value}{Q:Unit->Shared->Prop}(I:Inv X pins σ H s)(hN:X.N.Nodup)(hi:X.N[i]?=some x)(hx:Loc X.env.scope x)(r:RelV v u)
  (h:∀ s',Inv X pins (σ.set i (some v)) H s'->(∃ a,Heap.SameBut a s.heap s'.heap/\(a=X.env.locals\/X.env.cells.lookup x=some a))->Q () s')(hf:X.fn x=true\/X.env.scope.names.lookup x=some .local:=by first | exact .inl rfl | exact .inr rfl | assumption):wpAny M A (storeName X.env x u) Q E s:=by
 obtain ⟨m,hn,hl⟩:=id I.loc
 have hcls:(X.env.scope.kind == .class || (X.env.scope.kind == .module && X.env.locals != X.env.globals))=false:=by rw [I.ok.kind];rfl
 have hiσ:i < σ.length:=by rw [I.len];exact (List.getElem?_eq_some_iff.mp hi).1
 have uO:=I.uO
 have tracked:∀ {a:Addr}{h':Heap},(∃ o,s.heap.get? a=some o/\H a=none)->Heap.SameBut a s.heap h'->dJ X.prog X.w H h':=fun {a h'} ha hs b ob e=>by
  obtain ⟨_,_,hfree⟩:=ha
  refine (I.hok b ob e).stay (fun c w' hc q=>(hs.2 c ?_).trans q) (fun _ q=>q) fun _ _ q=>q
  rintro rfl
  rcases hc with rfl | hc
  ·rw [hfree] at e;cases e
  ·rw [hfree] at hc;cases hc
 rcases hx with hk | hk
 ·refine wpAny_storeName_local hk hn (fun h' hn' hs=>?_) hcls
  obtain ⟨oL,_,_,hoL,_⟩:=id hn
  refine h _ ⟨I.ok,I.os,I.bare,⟨fun b o e n hb hx=>?_,fun b o e n hb hx=>?_,I.base.free,fun b o e hx=>?_,I.base.tups,I.base.jy,I.base.j5⟩,⟨_,hn',fun j y v' e1 e2 e3=>?_⟩,fun y c e=>?_,I.free,I.iw,fun p hp=>?_,tracked ⟨oL,hoL,I.free⟩ hs,by simpa using I.len⟩ ⟨_,hs,.inl rfl⟩
  ·exact (hs.2 b (Nat.ne_of_lt (Nat.lt_of_lt_of_le (Heap.lt_size e) I.ok.above))).trans (I.base.keep b o e n hb hx)
  ·obtain ⟨sl,e1⟩:=I.base.slot b o e n hb hx
   exact ⟨sl,(hs.2 b (Nat.ne_of_lt (Nat.lt_of_lt_of_le (Heap.lt_size e) I.ok.above))).trans e1⟩
  ·obtain ⟨o',e1⟩:=I.base.there b o e hx
   exact ⟨o',(hs.2 b (Nat.ne_of_lt (Nat.lt_of_lt_of_le (Heap.lt_size e) I.ok.above))).trans e1⟩
  ·by_cases hj:j=i
   ·subst hj
    rw [hi] at e1;cases e1
    rw [List.getElem?_set_self hiσ] at e2
    cases e2
    exact ⟨u,r,.inl ⟨hk,by simp⟩⟩
   ·rw [List.getElem?_set_ne (Ne.symm hj)] at e2
    obtain ⟨u',r',q⟩:=hl j y v' e1 e2 e3
    refine ⟨u',r',?_⟩
    rcases q with ⟨k,e⟩ | ⟨k,c,e,z⟩
    ·refine .inl ⟨k,?_⟩
     have:y≠x:=fun e=>hj (vo hN e1 (e ▸ hi))
     simp [this,e]
    ·exact .inr ⟨k,c,e,z.sameBut hs (uO y c e)⟩
  ·obtain ⟨w',z⟩:=I.cell y c e
   exact ⟨w',z.sameBut hs (uO y c e)⟩
  ·obtain ⟨e,n,ne,nf,d⟩:=I.pin p hp
   exact ⟨(hs.2 p.1 ne).trans e,n,ne,nf,d⟩
 ·have hfn:X.fn x=true:=by
   rcases hf with z | z
   ·exact z
   ·rw [z] at hk;cases hk
  obtain ⟨c,hc⟩:=I.ok.has x (.inl hk)
  obtain ⟨w',z⟩:=I.cell x c hc
  refine wpAny_storeName_cell I.ok.kind hk hc z (fun h' hc' hs=>?_)
  obtain ⟨oc,hoc,hocd⟩:=id z
  refine h { s with heap:=h' } ⟨I.ok,I.os,I.bare,⟨fun b o e n hb hx=>?_,fun b o e n hb hx=>?_,I.base.free,fun b o e hx=>?_,I.base.tups,I.base.jy,I.base.j5⟩,⟨m,hn.sameBut hs (Ne.symm (uO x c hc)),fun j y v' e1 e2 e3=>?_⟩,fun y c' e=>?_,I.free,I.iw,fun p hp=>?_,tracked ⟨oc,hoc,I.iw x c hc⟩ hs,by simpa using I.len⟩ ⟨c,hs,.inr hc⟩
  ·exact (hs.2 b (Nat.ne_of_lt (Nat.lt_of_lt_of_le (Heap.lt_size e) (I.ok.zY x c hfn hc)))).trans (I.base.keep b o e n hb hx)
  ·obtain ⟨sl,e1⟩:=I.base.slot b o e n hb hx
   exact ⟨sl,(hs.2 b (Nat.ne_of_lt (Nat.lt_of_lt_of_le (Heap.lt_size e) (I.ok.zY x c hfn hc)))).trans e1⟩
  ·obtain ⟨o',e1⟩:=I.base.there b o e hx
   exact ⟨o',(hs.2 b (Nat.ne_of_lt (Nat.lt_of_lt_of_le (Heap.lt_size e) (I.ok.zY x c hfn hc)))).trans e1⟩
  ·by_cases hj:j=i
   ·subst hj
    rw [hi] at e1;cases e1
    rw [List.getElem?_set_self hiσ] at e2
    cases e2
    exact ⟨u,r,.inr ⟨.inl hk,c,hc,hc'⟩⟩
   ·rw [List.getElem?_set_ne (Ne.symm hj)] at e2
    obtain ⟨u',r',q⟩:=hl j y v' e1 e2 e3
    refine ⟨u',r',?_⟩
    rcases q with q | ⟨k,c',e,z'⟩
    ·exact .inl q
    ·refine .inr ⟨k,c',e,z'.sameBut hs ?_⟩
     rintro rfl
     exact hj (vo hN e1 (I.ok.inj _ _ _ e hc ▸ hi))
  ·by_cases hcc:c'=c
   ·subst hcc;exact ⟨_,hc'⟩
   ·obtain ⟨w2,z2⟩:=I.cell y c' e
    exact ⟨w2,z2.sameBut hs hcc⟩
  ·obtain ⟨e,n,ne,nf,d⟩:=I.pin p hp
   refine ⟨(hs.2 p.1 ?_).trans e,n,ne,nf,d⟩
   intro q
   rw [q,hoc] at e
   have q':oc=p.2:=Option.some.inj e
   exact d w' (by rw [<- q'];exact hocd)
theorem oU {M:Model}{A:Around}{E:Value->Shared->Prop}{i:Nat}{x:Str}{v:V}{u:Value}{Q:Unit->Shared->Prop}(I:Inv X pins σ H s)(hN:X.N.Nodup)(hi:X.N[i]?=some x)(hx:Loc X.env.scope x)(r:RelV v u)
  (h:∀ s',Inv X pins (σ.set i (some v)) H s'->Q () s')(hf:X.fn x=true\/X.env.scope.names.lookup x=some .local:=by first | exact .inl rfl | exact .inr rfl | assumption):wpAny M A (storeName X.env x u) Q E s :=
 sR I hN hi hx r (fun s' I' _=>h s' I') hf
theorem Inv.xY {s':Shared}{ch:List Addr}(I:Inv X pins σ H s)(ho:s'.os=s.os)(u:Un (frs X.stack) ch H H' s.heap s'.heap)(hok:dJ X.prog X.w H' s'.heap)(hg:AllBare s'.gens)
  (hch:∀ b∈ch,(b∈X.ex\/X.s₀.heap.objs.size<=b)/\b≠X.env.locals/\(∀ x c,X.env.cells.lookup x=some c->c≠b)/\∀ p∈X.pn++pins,p.1≠b):Inv X pins σ H' s':=by
 obtain ⟨h',g',d',t',o'⟩:=s'
 have e:o'=s.os:=ho
 subst e
 exact I.call (g':=g') (t':=t') (d':=d') u hok hg hch
end
/-! ### the judgements -/
abbrev XK:=Value->Option Addr->Hp->Prop
abbrev St:=List (Option V)
abbrev VK:=V->Hp->Prop
abbrev TE:=St->Hp->VK->Prop
abbrev TT:=St->Hp->(Bool->Hp->Prop)->Prop
abbrev TA:=St->Hp->(List V->Hp->Prop)->Prop
structure Ends where
 nx:St->Hp->Prop
 rt:VK
 bk:St->Hp->Prop:=fun _ _=>False
 ct:St->Hp->Prop:=fun _ _=>False
abbrev TS:=Ends->St->Hp->Prop
def EP (X:Cx)(pins:List (Addr×Obj))(σ:St)(Q:VK)(u:Value)(s':Shared):Prop:=∃ v H',Inv X pins σ H' s'/\RelV v u/\Q v H'
def TP (X:Cx)(pins:List (Addr×Obj))(σ:St)(Q:Bool->Hp->Prop)(b:Bool)(s':Shared):Prop:=∃ H',Inv X pins σ H' s'/\Q b H'
def AP (X:Cx)(pins:List (Addr×Obj))(σ:St)(Q:List V->Hp->Prop)(us:List Value)(s':Shared):Prop:=∃ vs H',Inv X pins σ H' s'/\Vals vs us/\Q vs H'
def SP (X:Cx)(pins:List (Addr×Obj))(D:Ends)(f:Flow)(s':Shared):Prop :=
 match f with
 | .next=>∃ σ' H',Inv X pins σ' H' s'/\D.nx σ' H'
 | .brk=>∃ σ' H',Inv X pins σ' H' s'/\D.bk σ' H'
 | .cont=>∃ σ' H',Inv X pins σ' H' s'/\D.ct σ' H'
 | .ret u=>∃ v σ' H',Inv X pins σ' H' s'/\RelV v u/\D.rt v H'
def PE (X:Cx)(e:Expr)(t:TE):Prop :=
 ∀ (pins:List (Addr×Obj))(s:Shared)(σ:St)(H:Hp)(Q:VK),Inv X pins σ H s->t σ H Q->wpAny (model X.prog X.w) X.A (eval e X.env) (EP X pins σ Q) X.xe s
def PT (X:Cx)(e:Expr)(t:TT):Prop :=
 ∀ (pins:List (Addr×Obj))(s:Shared)(σ:St)(H:Hp)(Q:Bool->Hp->Prop),Inv X pins σ H s->t σ H Q->wpAny (model X.prog X.w) X.A (isTrue e X.env (eval e X.env)) (TP X pins σ Q) X.xe s
def PW (X:Cx)(e:Expr)(t:TT):Prop :=
 ∀ (whole:Sem Value)(pins:List (Addr×Obj))(s:Shared)(σ:St)(H:Hp)(Q:Bool->Hp->Prop),Inv X pins σ H s->t σ H Q->wpAny (model X.prog X.w) X.A (isTrue e X.env whole) (TP X pins σ Q) X.xe s
theorem PW.pt {X:Cx}{e:Expr}{t:TT}(h:PW X e t):PT X e t:=h _
def PA (X:Cx)(es:List Expr)(t:TA):Prop :=
 ∀ (pos:Pos)(pins:List (Addr×Obj))(s:Shared)(σ:St)(H:Hp)(Q:List V->Hp->Prop),Inv X pins σ H s->t σ H Q->wpAny (model X.prog X.w) X.A (spliced (backTo pos (starEach es X.env))) (AP X pins σ Q) X.xe s
def PS (X:Cx)(st:Stmt)(t:TS):Prop :=
 ∀ (pins:List (Addr×Obj))(s:Shared)(σ:St)(H:Hp)(D:Ends),Inv X pins σ H s->t D σ H->wpAny (model X.prog X.w) X.A (exec st X.env) (SP X pins D) X.xe s
def mE (X:Cx)(st:List Stmt)(t:TS):Prop :=
 ∀ (pins:List (Addr×Obj))(s:Shared)(σ:St)(H:Hp)(D:Ends),Inv X pins σ H s->t D σ H->wpAny (model X.prog X.w) X.A (execs st X.env) (SP X pins D) X.xe s
theorem aG {α:Type}{t:Sem α}{Q Q':α->Shared->Prop}{M:Model}{A:Around}{E:Value->Shared->Prop}{s:Shared}(h:wpAny M A t Q E s)(hQ:∀ a s,Q a s->Q' a s):wpAny M A t Q' E s:=wpAny_mono h hQ fun _ _ x=>x
end L2
namespace L2
open PySem PySem.Spec PyProof.Rows
section
variable {X:Cx}
/-! ### names and constants -/
inductive Dg (i:Nat)(σ:St)(H:Hp)(Q:VK):Prop
 | mk:∀ v,(σ[i]?=some (some v))->(Q v H)->Dg i σ H Q
def l0 (i:Nat):TE:=fun σ H Q=>Dg i σ H Q
def tC (v:V):TE:=fun _ H Q=>Q v H
theorem ju {i:Nat}{x:Str}{pos:Pos}(hN:X.N[i]?=some x)(hv:kY X.env.scope x)(hd:(x == ("__debug__":Str))=false:=by decide)(hcd:(x == ("__classdict__":Str))=false:=by decide):PE X (.Name x pos) (l0 i):=by
 intro pins s σ H Q I h
 obtain ⟨v,e,h⟩:=h
 obtain ⟨m,hn,hl⟩:=I.loc
 obtain ⟨u,r,l⟩:=hl i x v hN e hv
 have fin:EP X pins σ Q u s:=⟨v,H,I,r,h⟩
 rcases l with ⟨hk,hm⟩ | ⟨hk,c,hc,hcell⟩
 ·exact wpAny_Name (wpAny_loadName_local I.ok.kind hk hn hm fin) hd
 ·rcases hk with hk | hk
  ·exact wpAny_Name (wpAny_loadName_cell I.ok.kind hk hc hcell fin) hd
  ·exact wpAny_Name (wpAny_loadName_free I.ok.kind hk hc hcell fin hcd) hd
theorem IA {i j pos}:PE X (.Constant (.int i) j pos) (tC (.int i)):=fun _ _ _ H _ I h=>wpAny_Constant_int ⟨.int i,H,I.tok _,⟨_,rfl⟩,h⟩
theorem Kq {b j pos}:PE X (.Constant (.bool b) j pos) (tC (.bl b)):=fun _ _ _ H _ I h=>Constant_bool ⟨.bl b,H,I,rfl,h⟩
theorem Jh {j pos}:PE X (.Constant .none j pos) (tC .br):=fun _ _ _ H _ I h=>Constant_none ⟨.br,H,I,rfl,h⟩
theorem Bc {x j pos}:PE X (.Constant (.str x) j pos) (tC (.str x)):=fun _ _ _ H _ I h=>Calls.Constant_str ⟨.str x,H,I.tok _,⟨_,rfl⟩,h⟩
def Gl (X:Cx) (x:Str):Prop:=X.env.kindOf x=some .globalImplicit
theorem wF {E:Value->Shared->Prop}{pins:List (Addr×Obj)}{s:Shared}{σ:St}{H:Hp}{x:Str}{u:Value}{pos:Pos}{Q:Value->Shared->Prop}(I:Inv X pins σ H s)(hg:Gl X x)(hm:X.mg x=some u)(h:Q u s)
  (hd:(x == ("__debug__":Str))=false:=by decide):wpAny (model X.prog X.w) X.A (eval (.Name x pos) X.env) Q E s :=
 Calls.Name_function_global I.ok.kind hg (Calls.loadGlobal_global (by rw [I.ok.glob];exact I.mod.glob.keeps I.bk) hm h) hd
theorem j4 {E:Value->Shared->Prop}{pins:List (Addr×Obj)}{s:Shared}{σ:St}{H:Hp}{x:Str}{u:Value}{pos:Pos}{Q:Value->Shared->Prop}(I:Inv X pins σ H s)(hg:Gl X x)(hm:X.mg x=none)(hv:bootBuiltins x=some u)(h:Q u s)
  (hn:x≠"__name__":=by decide)(hd:(x == ("__debug__":Str))=false:=by decide):wpAny (model X.prog X.w) X.A (eval (.Name x pos) X.env) Q E s:=by
 obtain ⟨mb,h1,h2⟩:=I.mod.blt
 exact Calls.Name_function_global I.ok.kind hg (Calls.loadGlobal_builtin (by rw [I.ok.glob];exact I.mod.glob.keeps I.bk) hm (by rw [I.ok.blt];exact h1.keeps I.bk) ((h2 x hn).trans hv) h) hd
theorem EO {x:Str}{v:V}{u:Value}{pos:Pos}(hg:Gl X x)(hm:X.mg x=none)(hv:bootBuiltins x=some u)(r:RelV v u)(hn:x≠"__name__":=by decide)(hd:(x == ("__debug__":Str))=false:=by decide):PE X (.Name x pos) (tC v) :=
 fun _ _ _ H _ I h=>j4 I hg hm hv ⟨v,H,I,r,h⟩ hn hd
/-! ### arithmetic -/
variable {a b:Expr}{ta tb:TE}{pos:Pos}
/-! ### comparisons -/
/-! ### and,or,not -/
variable {tA tB':TT}{rest:List Expr}
def Lh (t u:TT):TT:=fun σ H Q=>t σ H fun c H1=>if c=true then u σ H1 Q else Q false H1
def LK (t u:TT):TT:=fun σ H Q=>t σ H fun c H1=>if c=true then Q true H1 else u σ H1 Q
def K0 (t:TT):TT:=fun σ H Q=>t σ H fun c H1=>Q (!c) H1
theorem pw_and1 (ha:PT X a tA):PW X (.BoolOp .And [a] pos) tA:=by
 intro wh pins s σ H Q I h
 refine isTrue_and (aG (ha pins s σ H Q I h) fun c s1 e=>?_)
 cases c with
 | true=>exact isTrue_and_nil e
 | false=>exact e
theorem pw_or1 (ha:PT X a tA):PW X (.BoolOp .Or [a] pos) tA:=by
 intro wh pins s σ H Q I h
 refine isTrue_or (aG (ha pins s σ H Q I h) fun c s1 e=>?_)
 cases c with
 | false=>exact isTrue_or_nil e
 | true=>exact e
theorem pw_and (ha:PT X a tA)(hb:PW X (.BoolOp .And (b::rest) pos) tB'):PW X (.BoolOp .And (a::b::rest) pos) (Lh tA tB'):=by
 intro wh pins s σ H Q I h
 refine isTrue_and (aG (ha pins s σ H _ I h) fun c s1 ⟨H1,I1,q1⟩=>?_)
 cases c with
 | true=>exact hb wh pins s1 σ H1 Q I1 q1
 | false=>exact ⟨H1,I1,q1⟩
theorem pw_or (ha:PT X a tA)(hb:PW X (.BoolOp .Or (b::rest) pos) tB'):PW X (.BoolOp .Or (a::b::rest) pos) (LK tA tB'):=by
 intro wh pins s σ H Q I h
 refine isTrue_or (aG (ha pins s σ H _ I h) fun c s1 ⟨H1,I1,q1⟩=>?_)
 cases c with
 | true=>exact ⟨H1,I1,q1⟩
 | false=>exact hb wh pins s1 σ H1 Q I1 q1
theorem zV (ha:PT X a tA):PT X (.UnaryOp .Not a pos) (K0 tA):=by
 intro pins s σ H Q I h
 exact isTrue_not (ha pins s σ H (fun c H1=>Q (!c) H1) I h)
inductive z9 (tb:TE)(σ:St)(Q:VK) (x:V)(H1:Hp):Prop
 | mk:∀ c,(x=.bl c)->(if c=true then tb σ H1 Q else Q (.bl false) H1)->z9 tb σ Q x H1
def Jx (ta tb:TE):TE:=fun σ H Q=>ta σ H fun x H1=>z9 tb σ Q x H1
theorem Gb {op}{t:TE}(h:PE X a t):PE X (.BoolOp op [a] pos) t:=fun pins s σ H Q I hw=>BoolOp_one (h pins s σ H Q I hw)
theorem GA (ha:PE X a ta)(hb:PE X (.BoolOp .And (b::rest) pos) tb):PE X (.BoolOp .And (a::b::rest) pos) (Jx ta tb):=by
 intro pins s σ H Q I h
 refine BoolOp_and (aG (ha pins s σ H _ I h) fun v s1 ⟨x,H1,I1,r1,q1⟩=>?_)
 obtain ⟨c,rfl,q1⟩:=q1
 cases r1
 refine wpAny_truthy_bool ?_
 cases c with
 | true=>exact hb pins s1 σ H1 Q I1 q1
 | false=>exact ⟨.bl false,H1,I1,rfl,q1⟩
def LA (t:TT)(ta tb:TE):TE:=fun σ H Q=>t σ H fun c H1=>if c=true then ta σ H1 Q else tb σ H1 Q
theorem BH {c:Expr}(hc:PT X c tA)(ha:PE X a ta)(hb:PE X b tb):PE X (.IfExp c a b pos) (LA tA ta tb):=by
 intro pins s σ H Q I h
 refine wpAny_IfExp (aG (hc pins s σ H _ I h) fun d s1 ⟨H1,I1,q1⟩=>?_)
 cases d with
 | true=>exact ha pins s1 σ H1 Q I1 q1
 | false=>exact hb pins s1 σ H1 Q I1 q1
end
end L2
namespace L2
open PySem PySem.Spec PyProof.Rows
/-! ### a list,a tuple that is read: tracked,frozen,or an object of the module -/
def cu (K:PySem.W.Frag)(H:Hp)(a:Addr)(xs:List V):Prop :=
 Rd H a (.lst xs) \/
  ∃ (o:Obj)(its:Array Value) (n:Nat),K.lookup a=some o/\o.cls=.type "list"/\o.dict=none/\o.data=.seq its n/\its.size<=sizeLine/\Vals xs its.toList
def cB (K:PySem.W.Frag)(H:Hp)(a:Addr)(xs:List V):Prop :=
 Rd H a (.tup xs) \/
  ∃ (o:Obj)(its:Array Value) (n:Nat),K.lookup a=some o/\o.cls=.type "tuple"/\o.data=.seq its n/\its.size<=sizeLine/\Vals xs its.toList
def KY:Value->Option V
 | .none=>some .br
 | .bool b=>some (.bl b)
 | .int i _=>some (.int i)
 | .str x _=>some (.str x)
 | .bytes b _=>some (.lG b)
 | .float b _=>some (.xR b)
 | .ref a=>some (.ref a)
 | .type n=>some (.ty n)
 | _=>none
theorem RelV.abs {x:V}{u:Value}(r:RelV x u):KY u=some x:=by
 cases x with
 | br=>cases r;rfl
 | bl _=>cases r;rfl
 | int _=>obtain ⟨t,rfl⟩:=r;rfl
 | str _=>obtain ⟨t,rfl⟩:=r;rfl
 | lG _=>obtain ⟨t,rfl⟩:=r;rfl
 | xR _=>obtain ⟨t,rfl⟩:=r;rfl
 | ref _=>cases r;rfl
 | ty _=>cases r;rfl
theorem RelV.inj {x y:V}{u:Value}(r:RelV x u)(q:RelV y u):x=y:=Option.some.inj (r.abs.symm.trans q.abs)
theorem Vals.inj:∀ {xs ys:List V}{us:List Value},Vals xs us->Vals ys us->xs=ys
 | _,_,_,.nil,.nil=>rfl
 | _,_,_,.cons r t,.cons r' t'=>by rw [r.inj r',Vals.inj t t']
section
variable {X:Cx}{pins:List (Addr×Obj)}{σ:St}{H:Hp}{s:Shared}{a:Addr}{xs ys:List V}
theorem cu.of {K:PySem.W.Frag}(h:H a=some (.lst xs)):cu K H a xs:=.inl (.inl h)
theorem cB.of {K:PySem.W.Frag}(h:H a=some (.tup xs)):cB K H a xs:=.inl (.inl h)
theorem Inv.list (I:Inv X pins σ H s)(h:cu X.K H a xs):∃ its:List Value,Vals xs its/\PlainL s.heap a its.toArray/\xs.length<=sizeLine:=by
 rcases h with h | ⟨o,its,n,hk,hc,hd,hs,hz,r⟩
 ·obtain ⟨z,its,n,r,e⟩:=h.ok I.hok
  exact ⟨its,r,⟨_,n,e,rfl,rfl,rfl⟩,z⟩
 ·refine ⟨its.toList,r,⟨o,n,I.ic a o hk,hc,hd,by simpa using hs⟩,?_⟩
  have e:=r.length
  simp only [Array.length_toList] at e
  omega
theorem Inv.tuple (I:Inv X pins σ H s)(h:cB X.K H a xs):∃ its:List Value,Vals xs its/\IsTup s.heap a its.toArray/\xs.length<=sizeLine:=by
 rcases h with h | ⟨o,its,n,hk,hc,hs,hz,r⟩
 ·obtain ⟨z,its,r,p⟩:=h.ok I.hok
  exact ⟨its,r,p,z⟩
 ·refine ⟨its.toList,r,⟨o,I.ic a o hk,hc,n,by simpa using hs⟩,?_⟩
  have e:=r.length
  simp only [Array.length_toList] at e
  omega
theorem Inv.uD (I:Inv X pins σ H s)(h:cu X.K H a xs)(h':cu X.K H a ys):xs=ys:=by
 obtain ⟨its,r,⟨o,n,e,_,_,d⟩,_⟩:=I.list h
 obtain ⟨its',r',⟨o',n',e',_,_,d'⟩,_⟩:=I.list h'
 rw [e] at e';cases e'
 rw [d] at d'
 injection d' with d1 _
 have:its=its':=by simpa using congrArg Array.toList d1
 subst this
 exact r.inj r'
theorem Inv.AR (I:Inv X pins σ H s)(h:cB X.K H a xs)(h':cB X.K H a ys):xs=ys:=by
 obtain ⟨its,r,⟨o,e,_,n,d⟩,_⟩:=I.tuple h
 obtain ⟨its',r',⟨o',e',_,n',d'⟩,_⟩:=I.tuple h'
 rw [e] at e';cases e'
 rw [d] at d'
 injection d' with d1 _
 have:its=its':=by simpa using congrArg Array.toList d1
 subst this
 exact r.inj r'
end
/-! ### another wish about exceptions -/
section
variable {X:Cx}{pins:List (Addr×Obj)}{σ:St}{H:Hp}{s:Shared}{E:Value->Shared->Prop}
end
/-! ### blocks and small statements -/
section
variable {X:Cx}{st:Stmt}{rest:List Stmt}{t u:TS}{e:Expr}{te:TE}{pos:Pos}
def Jl:TS:=fun D σ H=>D.nx σ H
def Ln (t u:TS):TS:=fun D σ H=>t { D with nx:=u D } σ H
theorem FO:mE X [] Jl:=fun _ _ σ H _ I h=>wpAny_execs_nil ⟨σ,H,I,h⟩
theorem vM (h1:PS X st t)(h2:mE X rest u):mE X (st::rest) (Ln t u):=by
 intro pins s σ H D I h
 refine wpAny_execs_cons (aG (h1 pins s σ H { D with nx:=u D } I h) fun f s1 q=>?_)
 cases f with
 | next =>
  obtain ⟨σ',H',I',q⟩:=q
  exact h2 pins s1 σ' H' D I' q
 | ret v=>exact q
 | brk=>exact q
 | cont=>exact q
theorem D6 (h1:PS X st t):mE X [st] t:=by
 intro pins s σ H D I h
 refine wpAny_execs_cons (aG (h1 pins s σ H D I h) fun f s1 q=>?_)
 cases f with
 | next=>exact wpAny_execs_nil q
 | ret v=>exact q
 | brk=>exact q
 | cont=>exact q
theorem Inv.quiet {pins:List (Addr×Obj)}{σ:St}{H:Hp}{s:Shared}(I:Inv X pins σ H s):interactive X.env=false:=by simp [interactive,I.ok.kind]
def JE (te:TE):TS:=fun D σ H=>te σ H fun _ H1=>D.nx σ H1
theorem Fp (he:PE X e te)(hs:swapsWith e none pos.line X.env=pure false:=by rfl):PS X (.Expr e pos) (JE te):=by
 intro pins s σ H D I h
 exact wpAny_Expr_any (aG (he pins s σ H _ I h) fun v s1 ⟨x,H1,I1,r1,q1⟩=>⟨σ,H1,I1,q1⟩) I.quiet hs
def Lp (te:TE):TS:=fun D σ H=>te σ H D.rt
theorem z4 (he:PE X e te):PS X (.Return (some e) pos) (Lp te):=by
 intro pins s σ H D I h
 exact wpAny_Return_some (aG (he pins s σ H _ I h) fun v s1 ⟨x,H1,I1,r1,q1⟩=>⟨x,σ,H1,I1,r1,q1⟩)
def KS (c:TT)(t u:TS):TS:=fun D σ H=>c σ H fun b H1=>if b=true then t D σ H1 else u D σ H1
theorem JM {c:Expr}{a b:List Stmt}{tc:TT}(hc:PT X c tc)(ha:mE X a t)(hb:mE X b u):PS X (.If c a b pos) (KS tc t u):=by
 intro pins s σ H D I h
 refine wpAny_If (aG (hc pins s σ H _ I h) fun d s1 ⟨H1,I1,q1⟩=>?_)
 cases d with
 | true=>exact ha pins s1 σ H1 D I1 q1
 | false=>exact hb pins s1 σ H1 D I1 q1
end
/-! ### targets -/
abbrev TG:=V->St->Hp->(St->Hp->Prop)->Prop
abbrev oG:=List V->St->Hp->(St->Hp->Prop)->Prop
def PG (X:Cx)(target:Expr)(t:TG):Prop :=
 ∀ (pins:List (Addr×Obj))(s:Shared)(σ:St)(H:Hp) (v:V)(u:Value)(Q:St->Hp->Prop),Inv X pins σ H s->RelV v u->t v σ H Q ->
  wpAny (model X.prog X.w) X.A (assign target X.env u) (fun _ s'=>∃ σ' H',Inv X pins σ' H' s'/\Q σ' H') X.xe s
def zD (X:Cx)(ts:List Expr)(t:oG):Prop :=
 ∀ (pins:List (Addr×Obj))(s:Shared)(σ:St)(H:Hp)(vs:List V)(us:List Value)(Q:St->Hp->Prop),Inv X pins σ H s->Vals vs us->t vs σ H Q ->
  wpAny (model X.prog X.w) X.A (assignInOrder ((assignEach ts X.env).map (·.2)) us) (fun _ s'=>∃ σ' H',Inv X pins σ' H' s'/\Q σ' H') X.xe s
abbrev yj:=V->V->V->Hp->(Hp->Prop)->Prop
def Cb (X:Cx)(t:yj):Prop :=
 ∀ (pins:List (Addr×Obj))(s:Shared)(σ:St)(H:Hp) (o i v:V)(ov iv u:Value)(Q:Hp->Prop),Inv X pins σ H s->RelV o ov->RelV i iv->RelV v u->t o i v H Q ->
  wpAny (model X.prog X.w) X.A (setItem ov iv u) (fun _ s'=>∃ H',Inv X pins σ H' s'/\Q H') X.xe s
abbrev DZ:=V->V->Hp->VK->Prop
def KA (X:Cx)(op:Operator)(t:DZ):Prop :=
 ∀ (pins:List (Addr×Obj))(s:Shared)(σ:St)(H:Hp) (x y:V)(v u:Value)(Q:VK),Inv X pins σ H s->RelV x v->RelV y u->t x y H Q ->
  wpAny (model X.prog X.w) X.A (inplaceOp op v u) (EP X pins σ Q) X.xe s
section
variable {X:Cx}{pos:Pos}
def n9 (i:Nat):TG:=fun v σ H Q=>Q (σ.set i (some v)) H
theorem wQ {i:Nat}{x:Str}(hN:X.N.Nodup)(hi:X.N[i]?=some x)(hx:Loc X.env.scope x)(hf:X.fn x=true\/X.env.scope.names.lookup x=some .local:=by first | exact .inl rfl | exact .inr rfl | assumption):PG X (.Name x pos) (n9 i):=by
 intro pins s σ H v u Q I r h
 exact wpAny_assign_Name (oU I hN hi hx r (fun s' I'=>⟨_,H,I',h⟩) hf)
def Je:oG:=fun vs σ H Q=>vs=[]/\Q σ H
inductive z3 (t:TG)(u:oG)(vs:List V)(σ:St)(H:Hp)(Q:(St->Hp->Prop)):Prop
 | mk:∀ v r,(vs=v::r)->(t v σ H fun σ' H'=>u r σ' H' Q)->z3 t u vs σ H Q
def C7 (t:TG)(u:oG):oG:=fun vs σ H Q=>z3 t u vs σ H Q
theorem D7:zD X [] Je:=by
 intro pins s σ H vs us Q I r h
 obtain ⟨e,h⟩:=h
 subst e
 cases r
 exact assignInOrder_nil ⟨σ,H,I,h⟩
theorem BU {e:Expr}{es:List Expr}{t:TG}{u:oG}(h1:PG X e t)(h2:zD X es u)
  (hs:(assignEach (e::es) X.env).map (·.2)=assign e X.env::(assignEach es X.env).map (·.2):=by rfl):zD X (e::es) (C7 t u):=by
 intro pins s σ H vs us Q I r h
 obtain ⟨v,vr,e1,h⟩:=h
 subst e1
 cases r with
 | cons r rr =>
  rw [hs]
  refine assignInOrder_cons (aG (h1 pins s σ H _ _ _ I r h) fun _ s1 ⟨σ1,H1,I1,q1⟩=>?_)
  exact h2 pins s1 σ1 H1 _ _ Q I1 rr q1
inductive C6 (K:PySem.W.Frag) (n:Nat)(t:oG) (v:V)(σ:St)(H:Hp)(Q:(St->Hp->Prop)):Prop
 | mk:∀ a xs,(v=.ref a)->(cB K H a xs)->(xs.length=n)->(t xs σ H Q)->C6 K n t v σ H Q
def iZ (K:PySem.W.Frag) (n:Nat)(t:oG):TG:=fun v σ H Q=>C6 K n t v σ H Q
theorem Gg {es:List Expr}{k:Nat}{t:oG}{n:Nat}(hc:X.calm=true)(h:zD X es t)
  (hn:(assignEach es X.env).length=n:=by rfl)(hst:(assignEach es X.env).findIdx? (·.1)=none:=by rfl):PG X (.Tuple es k pos) (iZ X.K n t):=by
 intro pins s σ H v u Q I r hw
 obtain ⟨a,xs,e1,hq,hl,hw⟩:=hw
 subst e1
 cases r
 obtain ⟨its,rv,ht,hz⟩:=I.tuple hq
 refine assign_Tuple_tuple (I.ok.hd hc) ht (by simp [hn,<- hl,rv.length]) hst fun h' hx=>?_
 have I1:Inv X pins σ H { s with heap:=h' }:=I.kept (t':=s.toks) fun b o e=>hx b o (Nat.ne_of_lt (Heap.lt_size e)) e
 exact h pins _ σ H xs _ Q I1 (by simpa using rv) hw
def kO (to ti:TE)(t:yj):TG:=fun v σ H Q=>to σ H fun o H1=>ti σ H1 fun i H2=>t o i v H2 fun H3=>Q σ H3
theorem Iv {o i:Expr}{to ti:TE}{t:yj}(ho:PE X o to)(hi:PE X i ti)(hs:Cb X t)
  (ha:∀ v,assign (.Subscript o i pos) X.env v=(do
   let ov <- holding [v] (eval o X.env)
   let iv <- holding [v,ov] (eval i X.env)
   standAt pos
   holding [v,ov,iv] (setItem ov iv v)
   release [v,ov,iv] []):=by intro _;rfl):PG X (.Subscript o i pos) (kO to ti t):=by
 intro pins s σ H v u Q I r h
 rw [ha]
 refine wpAny_bind (wpAny_holding (aG (ho pins s σ H _ I h) fun ov s1 ⟨x,H1,I1,r1,q1⟩=>?_))
 refine wpAny_bind (wpAny_holding (aG (hi pins s1 σ H1 _ I1 q1) fun iv s2 ⟨y,H2,I2,r2,q2⟩=>?_))
 refine wpAny_bind (wpAny_standAt (wpAny_bind (wpAny_holding (aG (hs pins s2 σ H2 x y v ov iv u _ I2 r1 r2 r q2) fun _ s3 ⟨H3,I3,q3⟩=>?_))))
 exact wpAny_release ⟨σ,H3,I3,q3⟩
def By (te:TE)(g:TG):TS:=fun D σ H=>te σ H fun x H1=>g x σ H1 D.nx
theorem zg {tg e:Expr}{te:TE}{g:TG}(he:PE X e te)(hg:PG X tg g)(hs:swapsWithSole [tg] e pos.line X.env=pure false:=by rfl)(hw:swappedStores [tg] e X.env=pure none:=by rfl)
  (h1:(assignEach [tg] X.env).map (·.2)=[assign tg X.env]:=by rfl):PS X (.Assign [tg] e pos) (By te g):=by
 intro pins s σ H D I h
 refine wpAny_Assign_stores (aG (he pins s σ H _ I h) fun v s1 ⟨x,H1,I1,r1,q1⟩=>?_) hs hw
 rw [h1]
 exact aG (hg pins s1 σ H1 x v _ I1 r1 q1) fun _ s2 q=>q
theorem F8 {i:Nat}{x:Str}{e:Expr}{te:TE}{pos':Pos}(hN:X.N.Nodup)(hi:X.N[i]?=some x)(hx:Loc X.env.scope x)(he:PE X e te)(hs:swapsWith e (some (.Name x pos')) pos.line X.env=pure false:=by rfl)(hf:X.fn x=true\/X.env.scope.names.lookup x=some .local:=by first | exact .inl rfl | exact .inr rfl | assumption) :
  PS X (.Assign [.Name x pos'] e pos) (By te (n9 i)):=by
 intro pins s σ H D I h
 refine wpAny_Assign_Name (aG (he pins s σ H _ I h) fun v s1 ⟨y,H1,I1,r1,q1⟩=>?_) hs
 exact oU I1 hN hi hx r1 (fun s2 I2=>⟨_,H1,I2,q1⟩) hf
def K7 (i:Nat)(te:TE)(ti:DZ):TS:=fun D σ H=>∃ x,σ[i]?=some (some x)/\te σ H fun y H1=>ti x y H1 fun z H2=>D.nx (σ.set i (some z)) H2
theorem HM {i:Nat}{x:Str}{e:Expr}{te:TE}{op:Operator}{ti:DZ}{pos':Pos}(hN:X.N.Nodup)(hi:X.N[i]?=some x)(hx:Loc X.env.scope x)(he:PE X e te)(ho:KA X op ti)(hf:X.fn x=true\/X.env.scope.names.lookup x=some .local:=by first | exact .inl rfl | exact .inr rfl | assumption) :
  PS X (.AugAssign (.Name x pos') op e pos) (K7 i te ti):=by
 intro pins s σ H D I h
 obtain ⟨v,e1,h⟩:=h
 obtain ⟨m,hn,hl⟩:=I.loc
 have vis:kY X.env.scope x:=by rcases hx with k | k;exact .inl k;exact .inr (.inl k)
 obtain ⟨u,r,l⟩:=hl i x v hi e1 vis
 refine wpAny_AugAssign_Name ?_
 have go:wpAny (model X.prog X.w) X.A (eval e X.env) (fun w s₂=>wpAny (model X.prog X.w) X.A (inplaceOp op u w) (fun r s₃=>wpAny (model X.prog X.w) X.A (storeName X.env x r) (fun _=>SP X pins D .next) X.xe s₃) X.xe s₂) X.xe s:=by
  refine aG (he pins s σ H _ I h) fun w s1 ⟨y,H1,I1,r1,q1⟩=>?_
  refine aG (ho pins s1 σ H1 v y u w _ I1 r r1 q1) fun z s2 ⟨zv,H2,I2,r2,q2⟩=>?_
  exact oU I2 hN hi hx r2 (fun s3 I3=>⟨_,H2,I3,q2⟩) hf
 rcases l with ⟨hk,hm⟩ | ⟨hk,c,hc,hcell⟩
 ·exact wpAny_loadName_local I.ok.kind hk hn hm go
 ·rcases hk with hk | hk
  ·exact wpAny_loadName_cell I.ok.kind hk hc hcell go
  ·rcases hx with k | k
   ·have:X.env.scope.names.lookup x=some .free:=hk
    rw [k] at this;cases this
   ·have:X.env.scope.names.lookup x=some .free:=hk
    rw [k] at this;cases this
end
/-! ### while -/
section
variable {X:Cx}{pos:Pos}
def Ij (c:TT)(tb:TS):TS:=fun D σ H=>∃ W:Nat->St->Hp->Prop,(∃ m,W m σ H)/\∀ m σ H,W m σ H ->
 c σ H fun b H1=>if b=true then ∃ N:St->Hp->Prop,(∀ σ' H',N σ' H'->∃ m',m' < m/\W m' σ' H')/\tb { D with nx:=N,ct:=N,bk:=D.nx } σ H1 else D.nx σ H1
theorem Cw {c:Expr}{body:List Stmt}{tc:TT}{tb:TS}(hp:PassesOwn (model X.prog X.w) X.A X.env X.xe)(hc:PT X c tc)(hb:mE X body tb):PS X (.While c body [] pos) (Ij tc tb):=by
 intro pins s σ H D I h
 obtain ⟨W,⟨m0,w0⟩,turn⟩:=h
 refine wpAny_While (codeAny_whileLoop (fun n s'=>∃ σ' H',Inv X pins σ' H' s'/\W n σ' H') ?_ m0 ⟨σ,H,I,w0⟩)
 rintro n s1 ⟨σ1,H1,I1,w1⟩
 refine wpAny_passesOwn hp (aG (hc pins s1 σ1 H1 _ I1 (turn n σ1 H1 w1)) fun b s2 ⟨H2,I2,q2⟩=>?_)
 cases b with
 | true =>
  obtain ⟨N,hN,q2⟩:=q2
  rw [if_pos rfl]
  refine wpAny_passesOwn hp (aG (hb pins s2 σ1 H2 _ I2 q2) fun f s3 q3=>?_)
  cases f with
  | next =>
   obtain ⟨σ3,H3,I3,n3⟩:=q3
   obtain ⟨m',hm,w3⟩:=hN σ3 H3 n3
   exact ⟨m',hm,σ3,H3,I3,w3⟩
  | cont =>
   obtain ⟨σ3,H3,I3,n3⟩:=q3
   obtain ⟨m',hm,w3⟩:=hN σ3 H3 n3
   exact ⟨m',hm,σ3,H3,I3,w3⟩
  | brk=>exact q3
  | ret v=>exact q3
 | false =>
  rw [if_neg Bool.false_ne_true]
  exact wpAny_execs_nil ⟨σ1,H2,I2,q2⟩
end
/-! ### what a loop or a comprehension walks -/
structure It where
 go:Nat->Hp->Prop
 oH:Nat->Hp->V->Hp->Prop
 stop:Nat->Hp->Prop
def eV (X:Cx)(pins:List (Addr×Obj))(H:Hp)(b:Addr):Prop :=
 H b=none/\b≠X.env.locals/\b∉X.fs/\(b∈X.ex\/X.s₀.heap.objs.size<=b)/\(∀ x c,X.env.cells.lookup x=some c->c≠b)/\∀ p∈X.pn++pins,p.1≠b
theorem Inv.rO {X:Cx}{pins:List (Addr×Obj)}{σ:St}{H H':Hp}{s:Shared}{b:Addr}(I:Inv X pins σ H s)(hb:s.heap.objs.size<=b)(hn:H' b=none):eV X pins H' b:=by
 refine ⟨hn,Nat.ne_of_gt (Nat.lt_of_lt_of_le I.lt hb),I.BJ hb,.inr (Nat.le_trans I.sz hb),fun x c e z=>?_,fun p hp z=>?_⟩
 ·obtain ⟨v,q⟩:=I.cell x c e
  exact absurd (Nat.lt_of_lt_of_le q.lt (by rw [z];exact hb)) (Nat.lt_irrefl _)
 ·exact absurd (Nat.lt_of_lt_of_le (Heap.lt_size (I.pin p hp).1) (by rw [z];exact hb)) (Nat.lt_irrefl _)
structure Turn (P:Program)(w:World)(K:PySem.W.Frag)(tg:Expr)(J:It)(fp:List Addr)(it:Addr)(tn:Nat->Heap->Prop):Prop where
 mem:it∈fp
 obj:∀ i h,tn i h->∀ b∈fp,∃ o,h.get? b=some o/\∀ v,o.data≠.cell v
 keep:∀ i h h',tn i h->(∀ b∈fp,∀ o,h.get? b=some o->h'.get? b=some o)->tn i h'
 item:∀ (X:Cx),X.prog=P->X.w=w->X.K=K->X.calm=true->∀ (i:Nat)(pins:List (Addr×Obj))(s:Shared)(σ:St)(H:Hp)(E:Value->Shared->Prop),Inv X pins σ H s->(∀ b∈fp,eV X pins H b)->tn i s.heap->J.go i H ->
  wpAny (model P w) X.A (pyNext (.ref it)) (fun r s1=>∃ u,r=some u /\
   wpAny (model P w) X.A (letOwnedTupleGo tg (.ref it) u) (fun _ s2=>∃ x H',Inv X pins σ H' s2/\RelV x u/\J.oH i H x H'/\tn (i + 1) s2.heap/\∀ b∈fp,H' b=none) E s1) E s
 done:∀ (X:Cx),X.prog=P->X.w=w->X.K=K->X.calm=true->∀ (i:Nat)(pins:List (Addr×Obj))(s:Shared)(σ:St)(H:Hp)(E:Value->Shared->Prop),Inv X pins σ H s->(∀ b∈fp,eV X pins H b)->tn i s.heap->J.stop i H ->
  wpAny (model P w) X.A (pyNext (.ref it)) (fun r s1=>r=none/\Inv X pins σ H s1) E s
 self:∀ (A:Around) (i:Nat)(s:Shared)(Q:Value->Shared->Prop)(E:Value->Shared->Prop),tn i s.heap->Q (.ref it) s->wpAny (model P w) A (pyIter (.ref it)) Q E s
abbrev TI:=St->Hp->(It->Hp->Prop)->Prop
def CT (X:Cx)(pins:List (Addr×Obj))(σ:St)(tg:Expr)(R:It->Hp->Prop)(itv:Value)(s2:Shared):Prop :=
 ∃ (it:Addr)(fp:List Addr)(tn:Nat->Heap->Prop)(J:It)(H':Hp),itv=.ref it/\Inv X pins σ H' s2/\Turn X.prog X.w X.K tg J fp it tn/\tn 0 s2.heap/\(∀ b∈fp,eV X pins H' b)/\R J H'
def PI (X:Cx)(tg iter:Expr)(wi:TI):Prop :=
 ∀ (pins:List (Addr×Obj))(s:Shared)(σ:St)(H:Hp)(R:It->Hp->Prop),Inv X pins σ H s->wi σ H R ->
  wpAny (model X.prog X.w) X.A (eval iter X.env) (fun v s1=>wpAny (model X.prog X.w) X.A (pyIter v) (CT X pins σ tg R) X.xe s1) X.xe s
theorem yV {M:Model}{A:Around}{E:Value->Shared->Prop}{s:Shared}{tg:Expr}{it:Addr}{u:Value}{o:Obj}{n:String}{vs:Array Value}{Q:Unit->Shared->Prop}(ho:s.heap.get? it=some o)(hc:o.cls=.type n)(hd:o.data=.fields vs)
  (hn:["enumerate","zip","dict_itemiterator","dict_reverseitemiterator","odict_iterator","itertools.zip_longest","itertools.pairwise"].contains n=false)(hQ:Q () s):wpAny M A (letOwnedTupleGo tg (.ref it) u) Q E s:=by
 unfold letOwnedTupleGo
 cases tg <;> first
  | exact wpAny_pure hQ
  | (cases u <;> first
    | exact wpAny_pure hQ
    | (refine wpAny_bind (wpAny_load ho ?_)
       rw [hc,hd]
       show wpAny M A (if (["enumerate","zip","dict_itemiterator","dict_reverseitemiterator","odict_iterator","itertools.zip_longest","itertools.pairwise"].contains n && vs[0]? == some (rawInt _))=true then _ else _) Q E s
       rw [if_neg (by intro h;rw [hn,Bool.false_and] at h;cases h)]
       exact wpAny_pure hQ))
def DY (K:PySem.W.Frag)(a:Addr):It :=
 ⟨fun i H=>∃ xs x,cu K H a xs/\xs[i]?=some x,fun i H x H'=>H'=H/\∀ xs,cu K H a xs->xs[i]?=some x,fun i H=>∃ xs,cu K H a xs/\xs.length<=i⟩
def CC (K:PySem.W.Frag)(a:Addr):It :=
 ⟨fun i H=>∃ xs x,cB K H a xs/\xs[i]?=some x,fun i H x H'=>H'=H/\∀ xs,cB K H a xs->xs[i]?=some x,fun i H=>∃ xs,cB K H a xs/\xs.length<=i⟩
def AI (lo:Int) (n:Nat):It:=⟨fun i _=>i < n,fun i H x H'=>H'=H/\x=.int (lo + i),fun i _=>n<=i⟩
theorem AO {P:Program}{w:World}{K:PySem.W.Frag}{tg:Expr}(a it:Addr):Turn P w K tg (DY K a) [it] it (fun i h=>h.IsListIter it a i) where
 mem:=by simp
 obj:=fun i h st b hb=>by
  have e:b=it:=by simpa using hb
  subst e
  obtain ⟨o,e,c,d⟩:=st
  exact ⟨o,e,fun v z=>by rw [d] at z;cases z⟩
 keep:=fun i h h' st k=>st.at fun o e=>k it (by simp) o e
 item:=by
  intro X hP hw hK hc i pins s σ H E I hf st hg
  subst hP hw hK
  obtain ⟨xs,x,hq,hx⟩:=hg
  obtain ⟨its,rv,p,hz⟩:=I.list hq
  obtain ⟨u,hu,ru⟩:=rv.get hx
  obtain ⟨f0,f1,f2,f3,f4,f5⟩:=hf it (by simp)
  refine wpAny_pyNext_list_item st p.isList (x:=u) (by simpa using hu) fun h' st' sb=>?_
  have I1:Inv X pins σ H { s with heap:=h' }:=I.turned (t':=s.toks) (fun b o hb e=>(sb.2 b hb).trans e) f0 f1 f3 f4 f5
  obtain ⟨o,e,c,d⟩:=id st'
  exact ⟨u,rfl,yV (s:={ s with heap:=h' }) e c d (by decide) ⟨x,H,I1,ru,⟨rfl,fun ys hy=>by rw [I.uD hy hq];exact hx⟩,st',fun b hb=>(hf b hb).1⟩⟩
 done:=by
  intro X hP hw hK hc i pins s σ H E I hf st hg
  subst hP hw hK
  obtain ⟨xs,hq,hx⟩:=hg
  obtain ⟨its,rv,p,hz⟩:=I.list hq
  obtain ⟨f0,f1,f2,f3,f4,f5⟩:=hf it (by simp)
  have hl:=rv.length
  exact wpAny_pyNext_list_end (I.ok.hd hc) st p.isList (by simp;omega) fun h' eb=>⟨rfl,I.turned (t':=s.toks) (fun b o hb e=>eb b o hb e) f0 f1 f3 f4 f5⟩
 self:=fun _ _ _ _ _ st h=>wpAny_pyIter_listiter st h
theorem yY {P:Program}{w:World}{K:PySem.W.Frag}{tg:Expr}(a it:Addr):Turn P w K tg (CC K a) [it] it (fun i h=>h.IsTupleIter it a i) where
 mem:=by simp
 obj:=fun i h st b hb=>by
  have e:b=it:=by simpa using hb
  subst e
  obtain ⟨o,e,c,d⟩:=st
  exact ⟨o,e,fun v z=>by rw [d] at z;cases z⟩
 keep:=fun i h h' st k=>st.at fun o e=>k it (by simp) o e
 item:=by
  intro X hP hw hK hc i pins s σ H E I hf st hg
  subst hP hw hK
  obtain ⟨xs,x,hq,hx⟩:=hg
  obtain ⟨its,rv,p,hz⟩:=I.tuple hq
  obtain ⟨u,hu,ru⟩:=rv.get hx
  obtain ⟨f0,f1,f2,f3,f4,f5⟩:=hf it (by simp)
  refine wpAny_pyNext_tuple_item st (show s.heap.IsTuple a its.toArray from p) (x:=u) (by simpa using hu) fun h' st' sb=>?_
  have I1:Inv X pins σ H { s with heap:=h' }:=I.turned (t':=s.toks) (fun b o hb e=>(sb.2 b hb).trans e) f0 f1 f3 f4 f5
  obtain ⟨o,e,c,d⟩:=id st'
  exact ⟨u,rfl,yV (s:={ s with heap:=h' }) e c d (by decide) ⟨x,H,I1,ru,⟨rfl,fun ys hy=>by rw [I.AR hy hq];exact hx⟩,st',fun b hb=>(hf b hb).1⟩⟩
 done:=by
  intro X hP hw hK hc i pins s σ H E I hf st hg
  subst hP hw hK
  obtain ⟨xs,hq,hx⟩:=hg
  obtain ⟨its,rv,p,hz⟩:=I.tuple hq
  obtain ⟨f0,f1,f2,f3,f4,f5⟩:=hf it (by simp)
  have hl:=rv.length
  exact wpAny_pyNext_tuple_end (I.ok.hd hc) st (show s.heap.IsTuple a its.toArray from p) (by simp;omega) fun h' eb=>⟨rfl,I.turned (t':=s.toks) (fun b o hb e=>eb b o hb e) f0 f1 f3 f4 f5⟩
 self:=fun _ _ _ _ _ st h=>wpAny_pyIter_tupleiter st h
theorem yC {P:Program}{w:World}{K:PySem.W.Frag}{tg:Expr}(it:Addr) (lo:Int) (n:Nat):Turn P w K tg (AI lo n) [it] it (fun i h=>IsRangeIter h it (lo + (i:Nat) * 1) ((n:Int) - (i:Nat)) 1) where
 mem:=by simp
 obj:=fun i h st b hb=>by
  have e:b=it:=by simpa using hb
  subst e
  exact ⟨_,st,fun v z=>by
   have z':Data.fields _=Data.cell v:=z
   cases z'⟩
 keep:=fun i h h' st k=>k it (by simp) _ st
 item:=by
  intro X hP hw hK hc i pins s σ H E I hf st hg
  subst hP hw hK
  obtain ⟨f0,f1,f2,f3,f4,f5⟩:=hf it (by simp)
  have W:=Walks.range (prog:=X.prog) (w:=X.w) (I.ok.hd hc) it lo 1 n
  refine W.item i s _ _ hg st fun v h' tk hv st' kk=>?_
  obtain ⟨t,rfl⟩:=hv
  have I1:Inv X pins σ H { s with heap:=h',toks:=tk }:=I.turned (fun b o hb e=>kk b o (by simpa using hb) e) f0 f1 f3 f4 f5
  refine ⟨_,rfl,yV (s:={ s with heap:=h',toks:=tk }) (n:="range_iterator") st' rfl rfl (by decide) ⟨.int (lo + i),H,I1,⟨t,?_⟩,⟨rfl,rfl⟩,st',fun b hb=>(hf b hb).1⟩⟩
  rw [Int.mul_one]
 done:=by
  intro X hP hw hK hc i pins s σ H E I hf st hg
  subst hP hw hK
  obtain ⟨f0,f1,f2,f3,f4,f5⟩:=hf it (by simp)
  exact wpAny_pyNext_range_end (I.ok.hd hc) st (by have:n<=i:=hg;omega) fun h' eb=>⟨rfl,I.turned (t':=s.toks) (fun b o hb e=>eb b o hb e) f0 f1 f3 f4 f5⟩
 self:=fun _ _ _ _ _ st h=>wpAny_pyIter_rangeiter st h
end L2
namespace L2
open PySem PySem.Spec PyProof.Rows
section
variable {X:Cx}{tg:Expr}
theorem vX {pins:List (Addr×Obj)}{σ:St}{H:Hp}{s:Shared}{R:It->Hp->Prop}{E:Value->Shared->Prop}{lo hi:Int}{t u v:Tok}{tk:Nat}(I:Inv X pins σ H s)(h1:-(2 ^ 62)<=lo)(h2:lo < 2 ^ 62)(h3:-(2 ^ 62)<=hi)(h4:hi < 2 ^ 62)
  (q:R (AI lo (hi - lo).toNat) H):wpAny (model X.prog X.w) X.A (pyIter (.ref s.heap.objs.size)) (CT X pins σ tg R) E { s with heap:=s.heap.push { cls:=.type "range",data:=.fields #[.int lo t,.int hi u,.int 1 v] },toks:=tk }:=by
 refine wpAny_pyIter_range (IsRange.new ..) (small_one h1 h2 h3 h4) ?_
 have I1:Inv X pins σ H { s with heap:=s.heap.push { cls:=.type "range",data:=.fields #[.int lo t,.int hi u,.int 1 v] },toks:=tk }:=I.kept fun b o e=>Heap.get?_push_of_some _ e
 refine ⟨(s.heap.push { cls:=.type "range",data:=.fields #[.int lo t,.int hi u,.int 1 v] }).objs.size,[(s.heap.push { cls:=.type "range",data:=.fields #[.int lo t,.int hi u,.int 1 v] }).objs.size],_,_,H,rfl,
  I1.kept (t':=tk) fun b o e=>Heap.get?_push_of_some _ e,yC _ lo (hi - lo).toNat,?_,fun b hb=>?_,q⟩
 ·have e1:lo + ((0:Nat):Int) * 1=lo:=by simp
  have e2:(((hi - lo).toNat:Nat):Int) - ((0:Nat):Int)=Builtin.Range.rangeSize lo hi 1:=by rw [rangeSize_one];split <;> omega
  show IsRangeIter _ _ (lo + ((0:Nat):Int) * 1) ((((hi - lo).toNat:Nat):Int) - ((0:Nat):Int)) 1
  rw [e1,e2]
  exact Heap.get?_push_size _ rfl
 ·have e:b=(s.heap.push { cls:=.type "range",data:=.fields #[.int lo t,.int hi u,.int 1 v] }).objs.size:=by simpa using hb
  subst e
  exact I1.rO (Nat.le_refl _) (I1.hok.fresh (Nat.le_refl _))
inductive zF (R:(It->Hp->Prop))(vs:List V)(H1:Hp):Prop
 | mk:∀ j:Int,(vs=[.int j])->(-(2 ^ 62)<=j)->(j < 2 ^ 62)->(R (AI 0 j.toNat) H1)->zF R vs H1
def Jw (ta:TA):TI:=fun σ H R=>ta σ H fun vs H1=>zF R vs H1
inductive zM (R:(It->Hp->Prop))(vs:List V)(H1:Hp):Prop
 | mk:∀ i j:Int,(vs=[.int i,.int j])->((-(2 ^ 62)<=i/\i < 2 ^ 62/\-(2 ^ 62)<=j/\j < 2 ^ 62))->(R (AI i (j - i).toNat) H1)->zM R vs H1
def JB (ta:TA):TI:=fun σ H R=>ta σ H fun vs H1=>zM R vs H1
theorem AX {a:Expr}{ta:TA}{p pos:Pos}(hg:Gl X "range")(hm:X.mg "range"=none)(ha:PA X [a] ta)(hs:starEach [a] X.env=[(false,eval a X.env)]:=by rfl):PI X tg (.Call (.Name "range" p) [a] [] pos) (Jw ta):=by
 intro pins s σ H R I h
 refine Call_ (j4 I hg hm boot_range (PyProof.Rows.callWith_type1 (aG (ha pos pins s σ H _ I h) fun us s1 ⟨vs,H1,I1,r1,q1⟩=>?_) hs rfl))
 obtain ⟨j,e,q1,q2,q⟩:=q1
 subst e
 cases r1 with
 | cons r rr =>
  cases rr
  obtain ⟨t,rfl⟩:=r
  exact call_range_1 (vX I1 (by omega) (by omega) q1 q2 (by simpa using q))
theorem zA {a b:Expr}{ta:TA}{p pos:Pos}(hg:Gl X "range")(hm:X.mg "range"=none)(ha:PA X [a,b] ta)(hs:starEach [a,b] X.env=[(false,eval a X.env),(false,eval b X.env)]:=by rfl)(hs2:starEach [b] X.env=[(false,eval b X.env)]:=by rfl) :
  PI X tg (.Call (.Name "range" p) [a,b] [] pos) (JB ta):=by
 intro pins s σ H R I h
 refine Call_ (j4 I hg hm boot_range (PyProof.Rows.callWith_type1 (aG (ha pos pins s σ H _ I h) fun us s1 ⟨vs,H1,I1,r1,q1⟩=>?_) (by rw [hs,hs2]) (by rw [hs2];rfl)))
 obtain ⟨i,j,e,⟨q1,q2,q3,q4⟩,q⟩:=q1
 subst e
 cases r1 with
 | cons r rr =>
  cases rr with
  | cons r' rr =>
   cases rr
   obtain ⟨t,rfl⟩:=r
   obtain ⟨t',rfl⟩:=r'
   exact call_range_2 (vX I1 q1 q2 q3 q4 q)
/-! ### for -/
def KZ (wi:TI)(g:TG)(tb:TS):TS:=fun D σ H=>wi σ H fun J H1=>∃ W:Nat->Nat->St->Hp->Prop,(∃ m,W 0 m σ H1)/\∀ i m σ H,W i m σ H ->
 (J.stop i H/\D.nx σ H)\/(J.go i H/\∃ N:St->Hp->Prop,(∀ σ' H',N σ' H'->∃ m',m' < m/\W (i + 1) m' σ' H')/\∀ x H',J.oH i H x H'->g x σ H' fun σ2 H2=>tb { D with nx:=N,ct:=N,bk:=D.nx } σ2 H2)
def gE (fp:List Addr)(h:Heap):List (Addr×Obj):=fp.filterMap fun b=>(h.get? b).map fun o=>(b,o)
theorem gg {fp:List Addr}{h:Heap}{b:Addr}{o:Obj}(hb:b∈fp)(e:h.get? b=some o):(b,o)∈gE fp h:=List.mem_filterMap.mpr ⟨b,hb,by rw [e];rfl⟩
theorem nJ {fp:List Addr}{h:Heap}{p:Addr×Obj}(hp:p∈gE fp h):p.1∈fp/\h.get? p.1=some p.2:=by
 obtain ⟨b,hb,e⟩:=List.mem_filterMap.mp hp
 cases q:h.get? b with
 | none=>rw [q] at e;cases e
 | some o =>
  rw [q] at e
  have e':(b,o)=p:=Option.some.inj e
  subst e'
  exact ⟨hb,q⟩
theorem Inv.pinned {pins:List (Addr×Obj)}{σ:St}{H:Hp}{s:Shared}{fp:List Addr}(I:Inv X pins σ H s)(hf:∀ b∈fp,eV X pins H b)(ho:∀ b∈fp,∃ o,s.heap.get? b=some o/\∀ v,o.data≠.cell v):Inv X (pins++gE fp s.heap) σ H s :=
 I.jG fun p hp=>(List.mem_append.mp hp).elim (fun z=>I.pin p (List.mem_append_right _ z)) fun z=>by
  obtain ⟨hb,e⟩:=nJ z
  obtain ⟨f0,f1,f2,_⟩:=hf p.1 hb
  obtain ⟨o,e',d⟩:=ho p.1 hb
  rw [e] at e';cases e'
  exact ⟨e,f0,f1,f2,d⟩
theorem Inv.pP {pins pl:List (Addr×Obj)}{σ:St}{H:Hp}{s:Shared}(I:Inv X (pins++pl) σ H s):Inv X pins σ H s:=I.jG fun p hp=>I.pin p (List.mem_append_right _ (List.mem_append_left _ hp))
theorem HG {iter:Expr}{body:List Stmt}{wi:TI}{g:TG}{tb:TS}{pos:Pos}(hp:PassesOwn (model X.prog X.w) X.A X.env X.xe)(hc:X.calm=true)(hi:PI X tg iter wi)(hg:PG X tg g)(hb:mE X body tb)
  (hs:∀ x,foldedSetIterable iter X.env x=pure x:=by intro _;rfl):PS X (.For tg iter body [] pos) (KZ wi g tb):=by
 intro pins s σ H D I h
 refine wpAny_For (aG (hi pins s σ H _ I h) fun v s1 h1=>aG h1 fun itv s2 h2=>?_) hs
 obtain ⟨it,fp,tn,J,H2,e,I2,T,st2,f2,W,⟨m0,w0⟩,turn⟩:=h2
 subst e
 -- what stays true of the iterator's objects through the loop
 have stat:∀ {H':Hp},(∀ b∈fp,H' b=none)->∀ b∈fp,eV X pins H' b:=fun hn b hb=>⟨hn b hb,(f2 b hb).2⟩
 refine codeAny_forLoop_any (fun n s'=>∃ i σ' H',Inv X pins σ' H' s'/\tn i s'.heap/\(∀ b∈fp,H' b=none)/\W i n σ' H') ?_ m0 ⟨0,σ,H2,I2,st2,fun b hb=>(f2 b hb).1,w0⟩
 rintro n s3 ⟨i,σ3,H3,I3,st3,fr3,w3⟩
 rcases turn i n σ3 H3 w3 with ⟨stop,qn⟩ | ⟨go,N,hN,step⟩
 ·refine wpAny_passesOwn hp (aG (T.done X rfl rfl rfl hc i pins s3 σ3 H3 X.xe I3 (stat fr3) st3 stop) fun r s4 ⟨hr,I4⟩=>?_)
  subst hr
  exact wpAny_execs_nil ⟨σ3,H3,I4,qn⟩
 ·refine wpAny_passesOwn hp (aG (T.item X rfl rfl rfl hc i pins s3 σ3 H3 X.xe I3 (stat fr3) st3 go) fun r s4 ⟨u,hr,h4⟩=>?_)
  subst hr
  refine wpAny_passesOwn hp (aG h4 fun _ s5 ⟨x,H5,I5,r5,y5,st5,fr5⟩=>?_)
  have I5':=I5.pinned (stat fr5) (T.obj _ _ st5)
  refine wpAny_passesOwn hp (aG (hg _ s5 σ3 H5 x u _ I5' r5 (step x H5 y5)) fun _ s6 ⟨σ6,H6,I6,q6⟩=>?_)
  refine wpAny_passesOwn hp (aG (hb _ s6 σ6 H6 _ I6 q6) fun f s7 q7=>?_)
  have again:∀ {σ7:St}{H7:Hp},Inv X (pins++gE fp s5.heap) σ7 H7 s7->N σ7 H7->∃ m,m < n/\∃ i σ' H',Inv X pins σ' H' s7/\tn i s7.heap/\(∀ b∈fp,H' b=none)/\W i m σ' H':=fun {σ7 H7} I7 n7=>by
   obtain ⟨m',hm,w7⟩:=hN σ7 H7 n7
   refine ⟨m',hm,i + 1,σ7,H7,I7.pP,T.keep _ _ _ st5 fun b hb o e=>(I7.pin (b,o) (List.mem_append_right _ (List.mem_append_right _ (gg hb e)))).1,fun b hb=>?_,w7⟩
   obtain ⟨o,e,d⟩:=T.obj _ _ st5 b hb
   exact (I7.pin (b,o) (List.mem_append_right _ (List.mem_append_right _ (gg hb e)))).2.1
  cases f with
  | next=>obtain ⟨σ7,H7,I7,n7⟩:=q7;exact again I7 n7
  | cont=>obtain ⟨σ7,H7,I7,n7⟩:=q7;exact again I7 n7
  | brk=>obtain ⟨σ7,H7,I7,q7⟩:=q7;exact ⟨σ7,H7,I7.pP,q7⟩
  | ret v=>obtain ⟨x7,σ7,H7,I7,r7,q7⟩:=q7;exact ⟨x7,σ7,H7,I7.pP,r7,q7⟩
end
/-! ### the forms one uses -/
end L2
namespace L2
open PySem PySem.Spec PyProof.Rows
abbrev R2:=V->V->Hp->VK->Prop
def bL (X:Cx)(f:Value->Value->Sem Value)(r:R2):Prop :=
 ∀ (pins:List (Addr×Obj))(s:Shared)(σ:St)(H:Hp) (x y:V)(v u:Value)(Q:VK),Inv X pins σ H s->RelV x v->RelV y u->r x y H Q ->
  wpAny (model X.prog X.w) X.A (f v u) (EP X pins σ Q) X.xe s
def Dm (X:Cx)(f:Value->Sem Value)(r:V->Hp->VK->Prop):Prop :=
 ∀ (pins:List (Addr×Obj))(s:Shared)(σ:St)(H:Hp) (x:V)(v:Value)(Q:VK),Inv X pins σ H s->RelV x v->r x H Q ->
  wpAny (model X.prog X.w) X.A (f v) (EP X pins σ Q) X.xe s
def cK (X:Cx)(f:Value)(r:List V->Hp->VK->Prop):Prop :=
 ∀ (pins:List (Addr×Obj))(s:Shared)(σ:St)(H:Hp)(xs:List V)(us:List Value)(Q:VK),Inv X pins σ H s->Vals xs us->r xs H Q ->
  wpAny (model X.prog X.w) X.A (call f us) (EP X pins σ Q) X.xe s
def KQ (X:Cx)(r:V->Hp->(Bool->Hp->Prop)->Prop):Prop :=
 ∀ (pins:List (Addr×Obj))(s:Shared)(σ:St)(H:Hp) (x:V)(v:Value)(Q:Bool->Hp->Prop),Inv X pins σ H s->RelV x v->r x H Q ->
  wpAny (model X.prog X.w) X.A (truthy v) (TP X pins σ Q) X.xe s
def F9 (r:R2)(ta tb:TE):TE:=fun σ H Q=>ta σ H fun x H1=>tb σ H1 fun y H2=>r x y H2 Q
def Lu (r:V->Hp->VK->Prop)(ta:TE):TE:=fun σ H Q=>ta σ H fun x H1=>r x H1 Q
inductive KL (C:Int->Int->Prop)(g:Int->Int->V) (x:V) (y:V)(H:Hp)(Q:VK):Prop
 | mk:∀ i j,(x=.int i)->(y=.int j)->(C i j)->(Q (g i j) H)->KL C g x y H Q
def rI (C:Int->Int->Prop)(g:Int->Int->V):R2:=fun x y H Q=>KL C g x y H Q
inductive HR (g:Int->Int->V) (x:V) (y:V)(H:Hp)(Q:VK):Prop
 | mk:∀ i j,(x=.int i)->(y=.int j)->(Q (g i j) H)->HR g x y H Q
def mw (g:Int->Int->V):R2:=fun x y H Q=>HR g x y H Q
inductive KD (g:Int->V) (x:V)(H:Hp)(Q:VK):Prop
 | mk:∀ i,(x=.int i)->(Q (g i) H)->KD g x H Q
def rU (g:Int->V):V->Hp->VK->Prop:=fun x H Q=>KD g x H Q
section
variable {X:Cx}{a b c:Expr}{ta tb tc:TE}{pos:Pos}
theorem BW (ha:PE X a ta)(hb:PE X b tb){pins:List (Addr×Obj)}{s:Shared}{σ:St}{H:Hp}{R:V->V->Hp->Prop}(I:Inv X pins σ H s)
  (h:ta σ H fun x H1=>tb σ H1 fun y H2=>R x y H2){Q:Value->Shared->Prop}{f:Value->Value->Sem Value}
  (hf:∀ v u s2 x y H2,Inv X pins σ H2 s2->RelV x v->RelV y u->R x y H2->wpAny (model X.prog X.w) X.A (f v u) Q X.xe s2) :
  wpAny (model X.prog X.w) X.A (eval a X.env) (fun v s₁=>wpAny (model X.prog X.w) X.A (eval b X.env) (fun u s₂=>wpAny (model X.prog X.w) X.A (f v u) Q X.xe s₂) X.xe s₁) X.xe s:=by
 refine aG (ha pins s σ H _ I h) fun v s1 ⟨x,H1,I1,r1,q1⟩=>?_
 refine aG (hb pins s1 σ H1 _ I1 q1) fun u s2 ⟨y,H2,I2,r2,q2⟩=>?_
 exact hf v u s2 x y H2 I2 r1 r2 q2
theorem JF {op:Operator}{r:R2}(ho:bL X (binaryOp op) r)(ha:PE X a ta)(hb:PE X b tb):PE X (.BinOp a op b pos) (F9 r ta tb):=by
 intro pins s σ H Q I h
 exact wpAny_BinOp (BW ha hb I h fun v u s2 x y H2 I2 rx ry q=>ho pins s2 σ H2 x y v u Q I2 rx ry q)
theorem Kg {op:UnaryOp}{r:V->Hp->VK->Prop}(ho:Dm X (unaryOp op) r)(ha:PE X a ta):PE X (.UnaryOp op a pos) (Lu r ta):=by
 intro pins s σ H Q I h
 exact UnaryOp_ (aG (ha pins s σ H _ I h) fun v s1 ⟨x,H1,I1,r1,q1⟩=>ho pins s1 σ H1 x v Q I1 r1 q1)
/-! ### ints -/
theorem CL {f:Value->Value->Sem Value}{C:Int->Int->Prop}{g:Int->Int->Int}
  (rule:∀ (i j:Int)(t u:Tok)(s:Shared)(Q:Value->Shared->Prop)(E:Value->Shared->Prop),C i j->Q (.int (g i j) s.toks) { s with toks:=s.toks + 1 }->wpAny (model X.prog X.w) X.A (f (.int i t) (.int j u)) Q E s) :
  bL X f (rI C fun i j=>.int (g i j)):=by
 intro pins s σ H x y v u Q I rx ry h
 obtain ⟨i,j,rfl,rfl,hc,q⟩:=h
 obtain ⟨t,rfl⟩:=rx
 obtain ⟨t',rfl⟩:=ry
 exact rule i j t t' s _ _ hc ⟨.int (g i j),H,I.tok _,⟨_,rfl⟩,q⟩
theorem Ib {f:Value->Value->Sem Value}{g:Int->Int->Int}
  (rule:∀ (i j:Int)(t u:Tok)(s:Shared)(Q:Value->Shared->Prop)(E:Value->Shared->Prop),Q (.int (g i j) s.toks) { s with toks:=s.toks + 1 }->wpAny (model X.prog X.w) X.A (f (.int i t) (.int j u)) Q E s) :
  bL X f (mw fun i j=>.int (g i j)):=by
 intro pins s σ H x y v u Q I rx ry h
 obtain ⟨i,j,rfl,rfl,q⟩:=h
 obtain ⟨t,rfl⟩:=rx
 obtain ⟨t',rfl⟩:=ry
 exact rule i j t t' s _ _ ⟨.int (g i j),H,I.tok _,⟨_,rfl⟩,q⟩
theorem zb {f:Value->Value->Sem Value}{g:Int->Int->Bool}
  (rule:∀ (i j:Int)(t u:Tok)(s:Shared)(Q:Value->Shared->Prop)(E:Value->Shared->Prop),Q (.bool (g i j)) s->wpAny (model X.prog X.w) X.A (f (.int i t) (.int j u)) Q E s) :
  bL X f (mw fun i j=>.bl (g i j)):=by
 intro pins s σ H x y v u Q I rx ry h
 obtain ⟨i,j,rfl,rfl,q⟩:=h
 obtain ⟨t,rfl⟩:=rx
 obtain ⟨t',rfl⟩:=ry
 exact rule i j t t' s _ _ ⟨.bl (g i j),H,I,rfl,q⟩
def B7 (i j:Int):Prop:=0<=j/\j<=1000000/\i.natAbs < 2 ^ 64
def lQ (i j:Int):Prop:=(-(2 ^ 64) < i/\i < 2 ^ 64)\/(-(2 ^ 64) < j/\j < 2 ^ 64)
theorem lQ.ok {i j:Int}(h:lQ i j):IntMulOk i j:=by
 rcases h with ⟨h1,h2⟩ | ⟨h1,h2⟩
 ·exact .of_left (intBits_le_64 h1 h2)
 ·exact .of_right (intBits_le_64 h1 h2)
theorem Gq:bL X (binaryOp .Add) (mw fun i j=>.int (i + j)):=Ib fun _ _ _ _ _ _ _ q=>add_int q
theorem Hi:bL X (binaryOp .Sub) (mw fun i j=>.int (i - j)):=Ib fun _ _ _ _ _ _ _ q=>sub_int q
theorem GS:bL X (binaryOp .Mult) (rI lQ fun i j=>.int (i * j)):=CL fun _ _ _ _ _ _ _ hc q=>mul_int q hc.ok
theorem GD:bL X (binaryOp .Mod) (rI (fun _ j=>0 < j) fun i j=>.int (i % j)):=CL fun i j _ _ _ _ _ hc q=>by
 have h1:(0:Int) < j:=hc
 exact mod_int' (by omega) (by rw [Int.fmod_eq_emod_of_nonneg i (by omega)];exact q)
theorem IV:bL X (binaryOp .Pow) (rI B7 fun i j=>.int (i ^ j.toNat)):=CL fun _ _ _ _ _ _ _ hc q=>pow_int_small hc.1 hc.2.1 hc.2.2 q
theorem LG {f:Value->Sem Value}{g:Int->Int}
  (rule:∀ (i:Int)(t:Tok)(s:Shared)(Q:Value->Shared->Prop)(E:Value->Shared->Prop),Q (.int (g i) s.toks) { s with toks:=s.toks + 1 }->wpAny (model X.prog X.w) X.A (f (.int i t)) Q E s) :
  Dm X f (rU fun i=>.int (g i)):=by
 intro pins s σ H x v Q I rx h
 obtain ⟨i,rfl,q⟩:=h
 obtain ⟨t,rfl⟩:=rx
 exact rule i t s _ _ ⟨.int (g i),H,I.tok _,⟨_,rfl⟩,q⟩
theorem HP:Dm X (unaryOp .USub) (rU fun i=>.int (-i)):=LG fun _ _ _ _ _ q=>neg_int q
/-! ### bools among ints: n += (a < b) -/
end
/-! ### comparisons -/
def Cy:V->V->Bool
 | .br,.br=>true | .br,.int _=>true | .int _,.br=>true | .br,.bl _=>true | .bl _,.br=>true | .br,.str _=>true | .str _,.br=>true
 | .int _,.int _=>true | .bl _,.bl _=>true | .str _,.str _=>true | .lG _,.lG _=>true
 | .int _,.str _=>true | .str _,.int _=>true | .bl _,.str _=>true | .str _,.bl _=>true
 | _,_=>false
def KH:R2:=fun x y H Q=>Cy x y=true/\Q (.bl (decide (x=y))) H
def KI:R2:=fun x y H Q=>Cy x y=true/\Q (.bl (!decide (x=y))) H
theorem wX {i j:Int}:decide (V.int i=V.int j)=(i == j):=by
 rw [Bool.eq_iff_iff]
 simp
theorem AB {i j:Bool}:decide (V.bl i=V.bl j)=(i == j):=by
 rw [Bool.eq_iff_iff]
 simp
theorem xw {i j:Str}:decide (V.str i=V.str j)=(i == j):=by
 rw [Bool.eq_iff_iff]
 simp
theorem xj {i j:Array UInt8}:decide (V.lG i=V.lG j)=(i.toList == j.toList):=by
 rw [Bool.eq_iff_iff]
 cases i
 cases j
 simp
section
variable {X:Cx}{a b c:Expr}{ta tb tc:TE}{pos:Pos}
theorem aZ {pins:List (Addr×Obj)}{σ:St}{H:Hp}{s:Shared}{Q:VK}{k k':Bool}(I:Inv X pins σ H s)(q:Q (.bl k) H)(e:k=k'):EP X pins σ Q (.bool k') s:=by
 subst e
 exact ⟨.bl k,H,I,rfl,q⟩
theorem JW:bL X (compareOp .Eq) KH:=by
 intro pins s σ H x y v u Q I rx ry h
 obtain ⟨hs,q⟩:=h
 cases x with
 | br =>
  cases rx
  cases y with
  | br=>cases ry;exact PySem.EqNone.eq_none_none (aZ I q (by simp))
  | bl j=>cases ry;exact PySem.EqNone.eq_none_bool (aZ I q (by simp))
  | int j=>obtain ⟨t',rfl⟩:=ry;exact PySem.EqNone.eq_none_int (aZ I q (by simp))
  | str j=>obtain ⟨t',rfl⟩:=ry;exact PySem.EqNone.eq_none_str (aZ I q (by simp))
  | _=>exact absurd (show false=true from hs) Bool.false_ne_true
 | bl i =>
  cases rx
  cases y with
  | br=>cases ry;exact PySem.EqNone.eq_bool_none (aZ I q (by simp))
  | bl j=>cases ry;exact eq_bool (aZ I q AB)
  | str j=>obtain ⟨t',rfl⟩:=ry;exact PySem.EqMixed.eq_bool_str (aZ I q (by simp))
  | _=>exact absurd (show false=true from hs) Bool.false_ne_true
 | int i =>
  obtain ⟨t,rfl⟩:=rx
  cases y with
  | br=>cases ry;exact PySem.EqNone.eq_int_none (aZ I q (by simp))
  | int j=>obtain ⟨t',rfl⟩:=ry;exact eq_int (aZ I q wX)
  | str j=>obtain ⟨t',rfl⟩:=ry;exact PySem.EqMixed.eq_int_str (aZ I q (by simp))
  | _=>exact absurd (show false=true from hs) Bool.false_ne_true
 | str i =>
  obtain ⟨t,rfl⟩:=rx
  cases y with
  | br=>cases ry;exact PySem.EqNone.eq_str_none (aZ I q (by simp))
  | bl j=>cases ry;exact PySem.EqMixed.eq_str_bool (aZ I q (by simp))
  | int j=>obtain ⟨t',rfl⟩:=ry;exact PySem.EqMixed.eq_str_int (aZ I q (by simp))
  | str j=>obtain ⟨t',rfl⟩:=ry;exact eq_str (aZ I q xw)
  | _=>exact absurd (show false=true from hs) Bool.false_ne_true
 | lG i =>
  obtain ⟨t,rfl⟩:=rx
  cases y with
  | lG j=>obtain ⟨t',rfl⟩:=ry;exact PySem.W.eq_bytes (aZ I q xj)
  | _=>exact absurd (show false=true from hs) Bool.false_ne_true
 | _=>cases y <;> exact absurd (show false=true from hs) Bool.false_ne_true
theorem JQ:bL X (compareOp .NotEq) KI:=by
 intro pins s σ H x y v u Q I rx ry h
 obtain ⟨hs,q⟩:=h
 cases x with
 | br =>
  cases rx
  cases y with
  | br=>cases ry;exact PySem.EqNone.ne_none_none (aZ I q (by simp))
  | bl j=>cases ry;exact PySem.EqNone.ne_none_bool (aZ I q (by simp))
  | int j=>obtain ⟨t',rfl⟩:=ry;exact PySem.EqNone.ne_none_int (aZ I q (by simp))
  | str j=>obtain ⟨t',rfl⟩:=ry;exact PySem.EqNone.ne_none_str (aZ I q (by simp))
  | _=>exact absurd (show false=true from hs) Bool.false_ne_true
 | bl i =>
  cases rx
  cases y with
  | br=>cases ry;exact PySem.EqNone.ne_bool_none (aZ I q (by simp))
  | bl j=>cases ry;exact ne_bool (aZ I q (congrArg not AB))
  | str j=>obtain ⟨t',rfl⟩:=ry;exact PySem.EqMixed.ne_bool_str (aZ I q (by simp))
  | _=>exact absurd (show false=true from hs) Bool.false_ne_true
 | int i =>
  obtain ⟨t,rfl⟩:=rx
  cases y with
  | br=>cases ry;exact PySem.EqNone.ne_int_none (aZ I q (by simp))
  | int j=>obtain ⟨t',rfl⟩:=ry;exact ne_int (aZ I q (congrArg not wX))
  | str j=>obtain ⟨t',rfl⟩:=ry;exact PySem.EqMixed.ne_int_str (aZ I q (by simp))
  | _=>exact absurd (show false=true from hs) Bool.false_ne_true
 | str i =>
  obtain ⟨t,rfl⟩:=rx
  cases y with
  | br=>cases ry;exact PySem.EqNone.ne_str_none (aZ I q (by simp))
  | bl j=>cases ry;exact PySem.EqMixed.ne_str_bool (aZ I q (by simp))
  | int j=>obtain ⟨t',rfl⟩:=ry;exact PySem.EqMixed.ne_str_int (aZ I q (by simp))
  | str j=>obtain ⟨t',rfl⟩:=ry;exact ne_str (aZ I q (congrArg not xw))
  | _=>exact absurd (show false=true from hs) Bool.false_ne_true
 | lG i =>
  obtain ⟨t,rfl⟩:=rx
  cases y with
  | lG j=>obtain ⟨t',rfl⟩:=ry;exact PySem.W.ne_bytes (aZ I q (congrArg not xj))
  | _=>exact absurd (show false=true from hs) Bool.false_ne_true
 | _=>cases y <;> exact absurd (show false=true from hs) Bool.false_ne_true
theorem uc:bL X (compareOp .Lt) (mw fun i j=>.bl (decide (i < j))):=zb fun _ _ _ _ _ _ _ q=>lt_int q
theorem JD:bL X (compareOp .LtE) (mw fun i j=>.bl (decide (i<=j))):=zb fun _ _ _ _ _ _ _ q=>le_int q
theorem Jv:bL X (compareOp .Gt) (mw fun i j=>.bl (decide (j < i))):=zb fun _ _ _ _ _ _ _ q=>gt_int q
theorem JH:bL X (compareOp .GtE) (mw fun i j=>.bl (decide (j<=i))):=zb fun _ _ _ _ _ _ _ q=>ge_int q
theorem HN:bL X (compareOp .Is) (fun x y H Q=>y=.br/\Q (.bl (decide (x=.br))) H):=by
 intro pins s σ H x y v u Q I rx ry h
 obtain ⟨rfl,q⟩:=h
 cases ry
 refine is_none_gen (aZ I q ?_)
 cases x <;> first
  | (cases rx;rfl)
  | (obtain ⟨t,rfl⟩:=rx;rfl)
theorem Fz:bL X (compareOp .IsNot) (fun x y H Q=>y=.br/\Q (.bl (!decide (x=.br))) H):=by
 intro pins s σ H x y v u Q I rx ry h
 obtain ⟨rfl,q⟩:=h
 cases ry
 refine isnot_none_gen (aZ I q ?_)
 cases x <;> first
  | (cases rx;rfl)
  | (obtain ⟨t,rfl⟩:=rx;rfl)
theorem bL.or {f:Value->Value->Sem Value}{r r':R2}(h:bL X f r)(h':bL X f r'):bL X f (fun x y H Q=>r x y H Q\/r' x y H Q):=by
 intro pins s σ H x y v u Q I rx ry q
 rcases q with q | q
 ·exact h pins s σ H x y v u Q I rx ry q
 ·exact h' pins s σ H x y v u Q I rx ry q
theorem jv (b:Expr){op:CmpOp}(h:op≠.In:=by decide)(h2:op≠.NotIn:=by decide):behindInMarks op b=false:=by
 have e1:(op == CmpOp.In)=false:=by cases op <;> first | rfl | exact absurd rfl h
 have e2:(op == CmpOp.NotIn)=false:=by cases op <;> first | rfl | exact absurd rfl h2
 cases b <;> simp [behindInMarks,e1,e2]
theorem Fx {op:CmpOp}{r:R2}(ho:bL X (compareOp op) r)(ha:PE X a ta)(hb:PE X b tb)(hm:behindInMarks op b=false):PE X (.Compare a [op] [b] pos) (F9 r ta tb):=by
 intro pins s σ H Q I h
 exact wpAny_Compare1 (BW ha hb I h fun v u s2 x y H2 I2 rx ry q=>ho pins s2 σ H2 x y v u Q I2 rx ry q) hm
inductive Bg (Q:(Bool->Hp->Prop)) (x:V)(H':Hp):Prop
 | mk:∀ k,(x=.bl k)->(Q k H')->Bg Q x H'
def Km (t:TE):TT:=fun σ H Q=>t σ H fun x H'=>Bg Q x H'
def GG (r r':R2)(ta tb tc:TE):TE:=fun σ H Q=>ta σ H fun x H1=>tb σ H1 fun y H2=>r x y H2 fun z H3=>∃ k,z=.bl k /\
 (if k=true then tc σ H3 fun w' H4=>r' y w' H4 Q else Q (.bl false) H3)
theorem Ct {op op':CmpOp}{r r':R2}(ho:bL X (compareOp op) r)(ho':bL X (compareOp op') r')(ha:PE X a ta)(hb:PE X b tb)(hc:PE X c tc)
  (hm:lastMarks [op,op'] [b,c]=false:=by with_unfolding_all rfl):PT X (.Compare a [op,op'] [b,c] pos) (Km (GG r r' ta tb tc)):=by
 intro pins s σ H Q I h
 refine isTrue_chain (aG (ha pins s σ H _ I h) fun v s1 ⟨x,H1,I1,r1,q1⟩=>test_link (aG (hb pins s1 σ H1 _ I1 q1) fun u s2 ⟨y,H2,I2,r2,q2⟩ =>
  aG (ho pins s2 σ H2 x y v u _ I2 r1 r2 q2) fun d s3 ⟨z,H3,I3,r3,k,e,q3⟩=>?_)) hm
 subst e
 cases r3
 refine wpAny_truthy_bool ?_
 cases k with
 | false =>
  obtain ⟨k',e',q'⟩:=q3
  cases e'
  exact ite_ff ⟨H3,I3,q'⟩
 | true =>
  refine ite_tt (test_last (aG (hc pins s3 σ H3 _ I3 q3) fun w' s4 ⟨z',H4,I4,r4,q4⟩=>aG (ho' pins s4 σ H4 y z' u w' _ I4 r2 r4 q4) fun d' s5 ⟨z2,H5,I5,r5,k2,e2,q5⟩=>?_))
  subst e2
  cases r5
  exact wpAny_truthy_bool ⟨H5,I5,q5⟩
/-! ### truth -/
def oV (K:PySem.W.Frag) (x:V)(H:Hp)(k:Bool):Prop :=
 match x with
 | .br=>k=false
 | .bl b=>k=b
 | .int i=>k=(i != 0)
 | .str y=>y.length<=sizeLine/\k=((y.length:Int) != 0)
 | .lG y=>y.size<=sizeLine/\k=((y.size:Int) != 0)
 | .ref p=>(∃ xs,cu K H p xs/\k=!xs.isEmpty)\/(∃ xs,cB K H p xs/\k=!xs.isEmpty)\/∃ kvs,H p=some (.dK kvs)/\k=!kvs.isEmpty
 | _=>False
theorem yE {κ:Type}{kvs:List (κ×V)}{vs:List (κ×Value)}(r:KV kvs vs):(!vs.isEmpty)=!kvs.isEmpty:=by
 cases r <;> rfl
theorem qo {xs:List V}{its:List Value}(r:Vals xs its):(!its.toArray.isEmpty)=!xs.isEmpty:=by
 cases r <;> simp
theorem lB:(sizeLine:Nat) < 2 ^ 63:=by rw [sizeLine_eq];decide
theorem vd:KQ X (fun x H Q=>∃ k,oV X.K x H k/\Q k H):=by
 intro pins s σ H x v Q I rx h
 obtain ⟨k,e,q⟩:=h
 have hl:=lB
 have hs:sizeLine=16777216:=sizeLine_eq
 cases x with
 | br =>
  cases rx
  have e':k=false:=e
  subst e'
  exact truthy_none ⟨H,I,q⟩
 | bl b =>
  cases rx
  have e':k=b:=e
  subst e'
  exact wpAny_truthy_bool ⟨H,I,q⟩
 | int i =>
  obtain ⟨t,rfl⟩:=rx
  have e':k=(i != 0):=e
  subst e'
  exact PySem.P.truthy_int ⟨H,I,q⟩
 | str y =>
  obtain ⟨t,rfl⟩:=rx
  obtain ⟨hy,e'⟩:y.length<=sizeLine/\k=((y.length:Int) != 0):=e
  subst e'
  exact PySem.P.truthy_str (by omega) ⟨H,I.tok _,q⟩
 | lG y =>
  obtain ⟨t,rfl⟩:=rx
  obtain ⟨hy,e'⟩:y.size<=sizeLine/\k=((y.size:Int) != 0):=e
  subst e'
  exact PySem.W.truthy_bytes (by omega) ⟨H,I.tok _,q⟩
 | ref p =>
  cases rx
  have e':(∃ xs,cu X.K H p xs/\k=!xs.isEmpty)\/(∃ xs,cB X.K H p xs/\k=!xs.isEmpty)\/∃ kvs,H p=some (.dK kvs)/\k=!kvs.isEmpty:=e
  rcases e' with ⟨xs,hx,e'⟩ | ⟨xs,hx,e'⟩ | ⟨kvs,hx,e'⟩
  ·subst e'
   obtain ⟨its,r,pl,hz⟩:=I.list hx
   have hlen:=r.length
   exact wpAny_truthy_list pl.isList (by simp only [List.size_toArray];omega) ⟨H,I.tok _,by rw [qo r];exact q⟩
  ·subst e'
   obtain ⟨its,r,pl,hz⟩:=I.tuple hx
   have hlen:=r.length
   exact truthy_tuple pl (by simp only [List.size_toArray];omega) ⟨H,I.tok _,by rw [qo r];exact q⟩
  ·subst e'
   obtain ⟨hz,hS,vs,r,m⟩:kvs.length<=sizeLine/\(p == sysModules)=false/\∃ vs,KV kvs vs/\s.heap.DictOf (cO X.prog X.w) p vs:=I.hok p _ hx
   have hlen:kvs.length=vs.length:=Paired.length r
   exact wpAny_truthy_dict hS m (by omega) ⟨H,I.tok _,by rw [yE r];exact q⟩
 | _=>exact (show False from e).elim
theorem vL (ha:PE X a ta)(he:∀ whole,isTrue a X.env whole=(do let v <- whole;standAt a.pos;holding [v] (truthy v))) :
  PT X a (fun σ H Q=>ta σ H fun x H'=>∃ k,oV X.K x H' k/\Q k H'):=by
 intro pins s σ H Q I h
 exact isTrue_plain (aG (ha pins s σ H _ I h) fun v s1 ⟨x,H1,I1,r1,q1⟩=>vd pins s1 σ H1 x v Q I1 r1 q1) (he _)
/-! ### strs and bytes -/
theorem yZ:bL X (binaryOp .Add) (fun x y H Q=>∃ i j,x=.str i/\y=.str j/\i.length + j.length<=sizeLine/\Q (.str (i++j)) H):=by
 intro pins s σ H x y v u Q I rx ry h
 obtain ⟨i,j,rfl,rfl,hz,q⟩:=h
 obtain ⟨t,rfl⟩:=rx
 obtain ⟨t',rfl⟩:=ry
 exact add_str (fun t' tk=>⟨.str (i++j),H,I.tok _,⟨_,rfl⟩,q⟩) hz
/-! ### scalar builtins,by CallR -/
theorem vals1 {x:V}{us:List Value}(r:Vals [x] us):∃ u,us=[u]/\RelV x u:=by
 cases r with
 | cons r1 r2=>cases r2;exact ⟨_,rfl,r1⟩
theorem vals2 {x y:V}{us:List Value}(r:Vals [x,y] us):∃ u w',us=[u,w']/\RelV x u/\RelV y w':=by
 cases r with
 | cons r1 r2 =>
  cases r2 with
  | cons r3 r4=>cases r4;exact ⟨_,_,rfl,r1,r3⟩
theorem BC:cK X (.builtin "abs") (fun xs H Q=>∃ i,xs=[.int i]/\Q (.int (if i < 0 then -i else i)) H):=by
 intro pins s σ H xs us Q I r h
 obtain ⟨i,rfl,q⟩:=h
 obtain ⟨u,rfl,t,rfl⟩:=vals1 r
 exact call_abs_int fun u tk=>⟨.int (if i < 0 then -i else i),H,I.tok _,⟨_,rfl⟩,q⟩
theorem Ak (hc:X.calm=true):cK X (.builtin "max") (fun xs H Q=>∃ i j,xs=[.int i,.int j]/\Q (.int (if j > i then j else i)) H):=by
 intro pins s σ H xs us Q I r h
 obtain ⟨i,j,rfl,q⟩:=h
 obtain ⟨u,w',rfl,⟨t,rfl⟩,⟨t',rfl⟩⟩:=vals2 r
 refine max_two_ints (I.ok.hd hc) fun h' tk k=>⟨_,H,I.kept k,?_,q⟩
 by_cases hj:j > i
 ·rw [if_pos hj,if_pos hj];exact ⟨_,rfl⟩
 ·rw [if_neg hj,if_neg hj];exact ⟨_,rfl⟩
theorem zo (hc:X.calm=true):cK X (.builtin "min") (fun xs H Q=>∃ i j,xs=[.int i,.int j]/\Q (.int (if j < i then j else i)) H):=by
 intro pins s σ H xs us Q I r h
 obtain ⟨i,j,rfl,q⟩:=h
 obtain ⟨u,w',rfl,⟨t,rfl⟩,⟨t',rfl⟩⟩:=vals2 r
 refine min_two_ints (I.ok.hd hc) fun h' tk k=>⟨_,H,I.kept k,?_,q⟩
 by_cases hj:j < i
 ·rw [if_pos hj,if_pos hj];exact ⟨_,rfl⟩
 ·rw [if_neg hj,if_neg hj];exact ⟨_,rfl⟩
theorem zQ:cK X (.type "int") (fun xs H Q=>(∃ i,xs=[.int i]/\Q (.int i) H)\/∃ k,xs=[.bl k]/\Q (.int (if k then 1 else 0)) H):=by
 intro pins s σ H xs us Q I r h
 rcases h with ⟨i,rfl,q⟩ | ⟨k,rfl,q⟩
 ·obtain ⟨u,rfl,t,rfl⟩:=vals1 r
  exact call_int_int ⟨.int i,H,I,⟨_,rfl⟩,q⟩
 ·obtain ⟨u,rfl,r1⟩:=vals1 r
  cases r1
  exact call_int_bool ⟨.int (if k then 1 else 0),H,I.tok _,⟨_,rfl⟩,q⟩
end
end L2
namespace L2
open PySem PySem.Spec PyProof.Rows
/-! ### an instance,its attributes a map -/
structure BD (h:Heap)(x dx C:Addr)(mA:Str->Option Value):Prop where
 obj:h.get? x=some (PySem.W.instObj C dx)
 ns:h.Ns1 dx mA
 ne:dx≠x
theorem AG {h:Heap}{dx:Addr}{mA:Str->Option Value}(n:h.Ns1 dx mA):∃ od,h.get? dx=some od/\∀ name,PySem.W.lookIn name od=some (mA name):=by
 obtain ⟨o,es,ep,ho,hd,hk,_,hm⟩:=n
 refine ⟨o,ho,fun name=>?_⟩
 have e:=hm name
 unfold nsFind findBy at e
 rw [<- Array.find?_toList] at e
 unfold PySem.W.lookIn
 rw [hd]
 dsimp only
 split
 ·rename_i y q
  rw [q] at e
  exact congrArg some e
 ·rename_i q
  rw [q] at e
  have a:es.toList.any (·.refKey)=false:=by
   rw [List.any_eq_false]
   intro y hy
   obtain ⟨z,t,hkey⟩:=hk y (Array.mem_toList_iff.mp hy)
   simp [DictEntry.refKey,hkey]
  have a':¬ es.toList.any (·.refKey)=true:=by rw [a];exact Bool.false_ne_true
  rw [if_neg a']
  exact congrArg some e
theorem BD.look {h:Heap}{x dx C:Addr}{mA:Str->Option Value}(I:BD h x dx C mA):∃ od,PySem.W.InstAt h x (PySem.W.instObj C dx) C (some od)/\∀ name,PySem.W.lookIn name od=some (mA name) :=
 let ⟨od,ho,hl⟩:=AG I.ns
 ⟨od,⟨I.obj,rfl,rfl,ho⟩,hl⟩
section
variable {prog:Program}{w:World}{A:Around}{E:Value->Shared->Prop}{s:Shared}{K:PySem.W.Frag}{x dx C f:Addr}{mA:Str->Option Value}{name:Str}{v:Value}
end
/-! ### the attributes as a list of pairs -/
theorem jV.some_of {v:V}{o:Option Value}(r:jV (some v) o):∃ u,o=some u/\RelV v u:=by
 cases o with
 | none=>exact (show False from r).elim
 | some u=>exact ⟨u,rfl,r⟩
section
variable {P:Program}{w:World}{H H':Hp}{h h':Heap}{a C dx:Addr}{fs fs':List (Str×V)}
theorem EM (hok:dJ P w H h)(e:H a=some (.ins C dx fs)):∃ mA,BD h a dx C mA/\(∀ f,jV (fs.lookup f) (mA f))/\PySem.Within mA (fs.map (·.1))/\fs.length<=1000/\H dx=some (.own a):=by
 obtain ⟨d,z,ne,ob,mA,n,r,q⟩:=(show bP P w H h a (.ins C dx fs) from hok a _ e)
 exact ⟨mA,⟨ob,n,ne⟩,r,q,z,d⟩
end
/-! ### what of the text a class must have -/
structure Gk (K:PySem.W.Frag)(C:Addr):Prop where
 pg:PySem.W.plainGet K C Str.empty=true
 hd:PySem.W.hasDictIn K C=true
 po:PySem.W.plainOver K C=true
 sa:PySem.W.findIn K (.ref C) "__setattr__"=some (some (.builtin "object.__setattr__"))
theorem Gk.get {K:PySem.W.Frag}{C:Addr}(c:Gk K C) (f:Str):PySem.W.plainGet K C f=true:=c.pg
section
variable {X:Cx}{pins:List (Addr×Obj)}{σ:St}{H:Hp}{s:Shared}{a C dx:Addr}{fs:List (Str×V)}{f:Str}{v:V}{A:Around}{E:Value->Shared->Prop}
end
/-! ### readings and rules -/
section
variable {X:Cx}{o e value:Expr}{f:Str}{pos pos' tpos:Pos}{ta tv:TE}
end
/-! ### isinstance -/
section
variable {X:Cx}{pins:List (Addr×Obj)}{σ:St}{H:Hp}{s:Shared}{A:Around}{E:Value->Shared->Prop}{Q:Value->Shared->Prop}{c:Value}{b:Bool}
inductive gu (K:PySem.W.Frag)(H:Hp):V->Value->Prop where
 | br:gu K H .br (.type "NoneType")
 | bl (x:Bool):gu K H (.bl x) (.type "bool")
 | int (i:Int):gu K H (.int i) (.type "int")
 | str (x:Str):gu K H (.str x) (.type "str")
 | xR (x:UInt64):gu K H (.xR x) (.type "float")
 | lst {a:Addr}{xs:List V}(e:H a=some (.lst xs)):gu K H (.ref a) (.type "list")
 | fM {a:Addr}{o:Obj}{xs:List V}(e:H a=some (.fM o (.lst xs))):gu K H (.ref a) (.type "list")
 | kl {a:Addr}{its:Array Value}{n:Nat}(e:K.lookup a=some { cls:=.type "list",data:=.seq its n }):gu K H (.ref a) (.type "list")
 | tup {a:Addr}{xs:List V}(e:H a=some (.tup xs)):gu K H (.ref a) (.type "tuple")
 | dK {a:Addr}{kvs:List (Key×V)}(e:H a=some (.dK kvs)):gu K H (.ref a) (.type "dict")
 | dT {a:Addr}{kvs:List (List Key×V)}(e:H a=some (.dT kvs)):gu K H (.ref a) (.type "dict")
 | ins {a C dx:Addr}{fs:List (Str×V)}(e:H a=some (.ins C dx fs))(cl:Gk K C)(ha:PySem.W.findIn K (.ref C) "__class__"=some (some (.builtin "object.__class__")))
   (hn:PySem.W.specialIn K (.builtin "object.__class__") "__get__"=some (some (.builtin "getset_descriptor.__get__")))(htk:PySem.W.takesIn K (.builtin "object.__class__")=some true)
   (hm:PySem.W.mroIn K C (.type "object")=some true):gu K H (.ref a) (.ref C)
theorem Ay {x:V}{u t:Value}(I:Inv X pins σ H s)(rx:RelV x u)(ty:gu X.K H x t)(e:PySem.W.kitOne X.K t c=some b)(h:∀ tk,Q (.bool b) { s with toks:=tk }) :
  wpAny (model X.prog X.w) A (call (.builtin "isinstance") [u,c]) Q E s:=by
 cases ty with
 | br=>cases (show u=Value.none from rx);exact PySem.W.kia_one PySem.W.kitx_none I.ic True.intro e (fun z=>nomatch z) h
 | bl y=>cases (show u=Value.bool y from rx);exact PySem.W.kia_one PySem.W.kitx_bool I.ic True.intro e (fun z=>nomatch z) h
 | int i=>obtain ⟨t,q⟩:=(show ∃ t,u=Value.int i t from rx);cases q;exact PySem.W.kia_one PySem.W.kitx_int I.ic True.intro e (fun z=>nomatch z) h
 | str y=>obtain ⟨t,q⟩:=(show ∃ t,u=Value.str y t from rx);cases q;exact PySem.W.kia_one PySem.W.kitx_str I.ic True.intro e (fun z=>nomatch z) h
 | xR y=>obtain ⟨t,q⟩:=(show ∃ t,u=Value.float y t from rx);cases q;exact PySem.W.kia_one PySem.W.kitx_float I.ic True.intro e (fun z=>nomatch z) h
 | @lst a xs ea =>
  cases (show u=Value.ref a from rx)
  obtain ⟨_,_,n,_,h1⟩:=(show bP X.prog X.w H s.heap a (.lst xs) from I.hok a _ ea)
  exact PySem.W.kia_one PySem.W.kitx_list I.ic ⟨_,h1,rfl⟩ e (fun z=>nomatch z) h
 | @fM a ob xs ea =>
  cases (show u=Value.ref a from rx)
  obtain ⟨_,_,_,n,_,h1⟩:=(show bP X.prog X.w H s.heap a (.fM ob (.lst xs)) from I.hok a _ ea)
  exact PySem.W.kia_one PySem.W.kitx_list I.ic ⟨_,h1,rfl⟩ e (fun z=>nomatch z) h
 | @kl a its n ea =>
  cases (show u=Value.ref a from rx)
  exact PySem.W.kia_one PySem.W.kitx_list I.ic ⟨_,I.ic a _ ea,rfl⟩ e (fun z=>nomatch z) h
 | @tup a xs ea =>
  cases (show u=Value.ref a from rx)
  obtain ⟨_,_,_,p⟩:=(show bP X.prog X.w H s.heap a (.tup xs) from I.hok a _ ea)
  obtain ⟨o,h1,h2,_⟩:=p
  exact PySem.W.kia_one PySem.W.kitx_tuple I.ic ⟨o,h1,h2⟩ e (fun z=>nomatch z) h
 | @dK a kvs ea =>
  cases (show u=Value.ref a from rx)
  obtain ⟨_,_,vs,_,p⟩:=(show bP X.prog X.w H s.heap a (.dK kvs) from I.hok a _ ea)
  obtain ⟨o,es,ep,h1,h2,_⟩:=p
  exact PySem.W.kia_one PySem.W.kitx_dict I.ic ⟨o,h1,h2.1⟩ e (fun z=>nomatch z) h
 | @dT a kvs ea =>
  cases (show u=Value.ref a from rx)
  obtain ⟨_,_,xs,_,o,es,ep,h1,h2,_⟩:=(show bP X.prog X.w H s.heap a (.dT kvs) from I.hok a _ ea)
  exact PySem.W.kia_one PySem.W.kitx_dict I.ic ⟨o,h1,h2.1⟩ e (fun z=>nomatch z) h
 | @ins a C dx fs ea cl ha hn htk hm =>
  cases (show u=Value.ref a from rx)
  obtain ⟨mA,O,_⟩:=EM I.hok ea
  obtain ⟨od,J,_⟩:=O.look
  exact PySem.W.kia_one (PySem.W.kitx_own (cl.get _) cl.hd ha hn htk hm) I.ic J e (fun z=>nomatch z) h
end
end L2
namespace L2
open PySem PySem.Spec PyProof.Rows
/-! ### room -/
structure d9 (k:Nat)(A:Around):Prop where
 hd:A.handled=none
 dp:A.depth + 3 * k + 5 < recursionLimit
 un:A.units + 16 * k + 200 < cLine
theorem d9.mono {j k:Nat}{A:Around}(r:d9 k A)(h:j<=k):d9 j A:=⟨r.hd,by have:=r.dp;omega,by have:=r.un;omega⟩
theorem d9.deeper {k:Nat}{A:Around}(r:d9 (k + 1) A)(env:Env):d9 k (A.deeper env) :=
 ⟨r.hd,by have:=r.dp;show A.depth + 1 + 3 * k + 5 < _;omega,by have:=r.un;show A.units + 3 + 16 * k + 200 < _;omega⟩
theorem d9.depth {k:Nat}{A:Around}(r:d9 k A):A.depth < recursionLimit:=by have:=r.dp;omega
theorem d9.units {k:Nat}{A:Around}(r:d9 k A):A.units + 64 < cLine:=by have:=r.un;omega
/-! ### argument lists and displays -/
def rV:TA:=fun _ H Q=>Q [] H
def nP (ta:TE)(tr:TA):TA:=fun σ H Q=>ta σ H fun x H1=>tr σ H1 fun xs H2=>Q (x::xs) H2
section
variable {X:Cx}{e:Expr}{es:List Expr}{te:TE}{t:TA}{pos:Pos}
theorem mX:PA X [] rV:=fun _ _ _ _ H Q I h=>Calls.spliced_nil ⟨[],H,I,.nil,h⟩
theorem jF (ha:PE X e te)(hr:PA X es t)(hs:starEach (e::es) X.env=(false,eval e X.env)::starEach es X.env:=by rfl):PA X (e::es) (nP te t):=by
 intro pos pins s σ H Q I h
 rw [hs]
 show wpAny _ _ (spliced ((false,eval e X.env)::backTo pos (starEach es X.env))) _ _ s
 refine Calls.spliced_cons (aG (ha pins s σ H _ I h) fun u s1 ⟨x,H1,I1,r1,q1⟩=>?_)
 exact aG (hr pos pins s1 σ H1 _ I1 q1) fun us s2 ⟨xs,H2,I2,r2,q2⟩=>⟨x::xs,H2,I2,.cons r1 r2,q2⟩
def Le (t:TA):TE:=fun σ H Q=>t σ H fun xs H1=>xs.length<=sizeLine/\∀ p,H1 p=none->Q (.ref p) (upd H1 p (.tup xs))
def K1 (t:TA):TE:=fun σ H Q=>t σ H fun xs H1=>xs.length<=sizeLine/\∀ p,H1 p=none->Q (.ref p) (upd H1 p (.lst xs))
theorem Gz {x1}(h:PA X es t):PE X (.Tuple es x1 pos) (Le t):=by
 intro pins s σ H Q I hq
 refine wpAny_Tuple_spliced (aG (h pos pins s σ H _ I hq) fun us s1 ⟨xs,H1,I1,r,z,q⟩=>⟨by rw [<- r.length];exact z,?_⟩)
 have hf:H1 s1.heap.objs.size=none:=I1.hok.fresh (Nat.le_refl _)
 refine ⟨.ref s1.heap.objs.size,upd H1 s1.heap.objs.size (.tup xs),I1.laid (t':=s1.toks) (fun b u e=>Heap.get?_push_of_some _ e) (Nat.le_refl _) ?_,rfl,q _ hf⟩
 exact ⟨z,us,r,⟨_,Heap.get?_push_size _ rfl,rfl,_,rfl⟩⟩
theorem Ji (h:PA X es t):PE X (.List es pos) (K1 t):=by
 intro pins s σ H Q I hq
 refine wpAny_List_spliced (aG (h pos pins s σ H _ I hq) fun us s1 ⟨xs,H1,I1,r,z,q⟩=>⟨by rw [<- r.length];exact z,?_⟩)
 have hf:H1 s1.heap.objs.size=none:=I1.hok.fresh (Nat.le_refl _)
 refine ⟨.ref s1.heap.objs.size,upd H1 s1.heap.objs.size (.lst xs),I1.laid (t':=s1.toks) (fun b u e=>Heap.get?_push_of_some _ e) (Nat.le_refl _) ?_,rfl,q _ hf⟩
 exact ⟨z,us,0,r,Heap.get?_push_size _ rfl⟩
end
/-! ### what a def promises -/
abbrev Sp:=List V->Hp->VK->XK->Prop
abbrev ku:=List Env->Hp->Shared->XK->Value->Shared->Prop
structure yt (P:Program)(w:World)(K:PySem.W.Frag)(mg:Str->Option Value)(base:Heap)(A:Around)(outer:List Env)(s:Shared)(H:Hp):Prop where
 frames:A.frames=some outer
 mod:Mod K mg base
 bs:∀ b o,base.get? b=some o->s.heap.get? b=some o/\H b=none
 sW:base.objs.size<=s.heap.objs.size
 jQ:s.heap.FunFrames base outer
 wz:∀ b∈frs outer,H b=none
 hok:dJ P w H s.heap
 bare:AllBare s.gens
def CE (outer:List Env)(P:Program)(w:World)(H:Hp)(s:Shared)(Q:VK)(u:Value)(s':Shared):Prop :=
 ∃ v H',s'.os=s.os/\AllBare s'.gens/\Un (frs outer) [] H H' s.heap s'.heap/\dJ P w H' s'.heap/\RelV v u/\Q v H'
def CR (CX:ku)(outer:List Env)(P:Program)(w:World)(H:Hp)(s:Shared)(Q:VK)(E:XK)(r:Result)(s':Shared):Prop :=
 match r with
 | .ok (.ret u)=>CE outer P w H s Q u s'
 | .ok _=>False
 | .error e=>CX outer H s E e s'
structure bF (P:Program)(w:World)(K:PySem.W.Frag)(mg:Str->Option Value)(base:Heap)(CX:ku) (k:Nat)(f:Addr)(fd:FuncData)(ps:List Str)(sp:Sp):Prop where
 len:∀ vs H Q E,sp vs H Q E->vs.length=ps.length
 run:∀ (A:Around)(outer:List Env)(s:Shared)(H:Hp)(args:Args)(us:List Value)(vs:List V)(Q:VK)(E:XK),d9 k A->yt P w K mg base A outer s H->BindsTo s fd args (ps.zip us)->Vals vs us->sp vs H Q E ->
  codeAny (model P w) A (.call (.ref f) args) (CR CX outer P w H s Q E) s
theorem bF.imp {P:Program}{w:World}{K:PySem.W.Frag}{mg:Str->Option Value}{base:Heap}{CX:ku}{k:Nat}{f:Addr}{fd:FuncData}{ps:List Str}{sp sp':Sp}(F:bF P w K mg base CX k f fd ps sp)
  (h:∀ vs H Q E,sp' vs H Q E->sp vs H Q E):bF P w K mg base CX k f fd ps sp' :=
 ⟨fun vs H Q E q=>F.len vs H Q E (h _ _ _ _ q),fun A outer s H args us vs Q E hr he hb hv hs=>F.run A outer s H args us vs Q E hr he hb hv (h _ _ _ _ hs)⟩
section
variable {X:Cx}{pins:List (Addr×Obj)}{σ:St}{H:Hp}{s s':Shared}
theorem Inv.Lo (I:Inv X pins σ H s):yt X.prog X.w X.K X.mg X.base X.A X.stack s H :=
 ⟨I.ok.frames,I.ok.mod,I.bs,Nat.le_trans I.ok.sW I.sz,I.stack,I.nO,I.hok,I.bare⟩
theorem Inv.after {Q:VK}{u:Value}(I:Inv X pins σ H s)(h:CE X.stack X.prog X.w H s Q u s'):EP X pins σ Q u s':=by
 obtain ⟨v,H',os,bare,un,hok,r,q⟩:=h
 obtain ⟨hh,g,d,t,os'⟩:=s'
 obtain rfl:os'=s.os:=os
 exact ⟨v,H',I.call (h':=hh) (g':=g) (d':=d) (t':=t) (ch:=[]) un hok bare (fun b z=>absurd z (by simp)),r,q⟩
end
/-! ### calls -/
def J5 (sp:Sp)(dvs:List V)(E:XK)(t:TA):TE:=fun σ H Q=>t σ H fun vs H1=>sp (vs++dvs) H1 Q E
def Binds (K:PySem.W.Frag)(fd:FuncData)(ps:List Str)(ds:List Value):Prop :=
 ∀ (s:Shared)(us:List Value),K.In s.heap->(us++ds).length=ps.length->BindsTo s fd ⟨us,[]⟩ (ps.zip (us++ds))
theorem Binds.all {K:PySem.W.Frag}{fd:FuncData}{ps:List Str}(h:∀ us:List Value,us.length=ps.length->bindArgs fd ⟨us,[]⟩=pure (ps.zip us)):Binds K fd ps []:=fun s us _ hl=>by
 rw [List.append_nil] at hl ⊢
 exact .of_eq (h us hl)
def Passes (CX:ku)(X:Cx)(E:XK):Prop:=∀ (pins:List (Addr×Obj))(σ:St)(H:Hp)(s:Shared)(e:Value)(s':Shared),Inv X pins σ H s->CX X.stack H s E e s'->X.xe e s'
section
variable {X:Cx}{CX:ku}{k:Nat}{f C:Addr}{fd:FuncData}{ps:List Str}{sp:Sp}{dvs:List V}{ds:List Value}{E:XK}{x m:Str}{p pos apos:Pos}{e o:Expr}{es:List Expr}{ta:TE}{t:TA}
theorem G6 {pins:List (Addr×Obj)}{σ:St}{H:Hp}{s:Shared}{Q:VK}{us:List Value}{vs:List V}(F:bF X.prog X.w X.K X.mg X.base CX k f fd ps sp)(hr:d9 k X.A)(hb:Binds X.K fd ps ds)(hd:Vals dvs ds)(hx:Passes CX X E)
  (I:Inv X pins σ H s)(r:Vals vs us)(h:sp (vs++dvs) H Q E):wpAny (model X.prog X.w) X.A (call (.ref f) us) (EP X pins σ Q) X.xe s:=by
 have r2:Vals (vs++dvs) (us++ds):=r.append hd
 have hl:(us++ds).length=ps.length:=by rw [<- r2.length];exact F.len _ _ _ _ h
 refine wpAny_call (codeAny_mono (F.run X.A X.stack s H ⟨us,[]⟩ (us++ds) (vs++dvs) Q E hr I.Lo (hb s us I.ic hl) r2 h) fun r s' hq=>?_)
 cases r with
 | error e=>exact hx pins σ H s e s' I hq
 | ok fl =>
  cases fl with
  | ret u=>exact I.after hq
  | next=>exact False.elim hq
  | brk=>exact False.elim hq
  | cont=>exact False.elim hq
theorem EU (F:bF X.prog X.w X.K X.mg X.base CX k f fd ps sp)(hr:d9 k X.A)(hg:Gl X x)(hm:X.mg x=some (.ref f))(hk:PySem.W.keepIn X.K (.ref f)=true)(hb:Binds X.K fd ps ds)(hd:Vals dvs ds)(hx:Passes CX X E)
  (ha:PA X (e::es) t)(hdb:(x == ("__debug__":Str))=false:=by decide)(he:starEach (e::es) X.env=(false,eval e X.env)::starEach es X.env:=by rfl)(hpl:(backTo pos (starEach es X.env)).any (·.1)=false:=by rfl) :
  PE X (.Call (.Name x p) (e::es) [] pos) (J5 sp dvs E t):=by
 intro pins s σ H Q I h
 refine wpAny_Call_Name_kw (wF I hg hm ?_ hdb)
 refine PySem.W.callWith_K (h₀:=X.base) I.ok.mod.CD hk (aG (ha pos pins s σ H _ I h) fun us s1 ⟨vs,H1,I1,r,q⟩=>⟨I1.ic,?_⟩) he hpl
 exact G6 F hr hb hd hx I1 r q
end
/-! ### keywords -/
def PK (X:Cx)(kws:List Keyword)(t:TA):Prop :=
 ∀ (pos:Pos)(pins:List (Addr×Obj))(s:Shared)(σ:St)(H:Hp)(Q:List V->Hp->Prop),Inv X pins σ H s->t σ H Q->wpAny (model X.prog X.w) X.A (evalAll ((backToKw pos (keywordEach kws X.env)).map (·.2))) (AP X pins σ Q) X.xe s
section
variable {X:Cx}{CX:ku}{k:Nat}{f C:Addr}{fd:FuncData}{ps ks:List Str}{sp:Sp}{E:XK}{x m:Str}{p pos apos kpos:Pos}{e o:Expr}{es:List Expr}{kws:List Keyword}{te ta:TE}{t tk:TA}{nm:Option Str}
theorem Gn:PK X [] rV:=fun _ _ _ _ H Q I h=>wpAny_evalAll_nil ⟨[],H,I,.nil,h⟩
theorem Fw (ha:PE X e te)(hr:PK X kws t):PK X (⟨nm,e,kpos⟩:: kws) (nP te t):=by
 intro pos pins s σ H Q I h
 show wpAny _ _ (evalAll ((do let v <- eval e X.env;standAt pos;pure v)::(backToKw pos (keywordEach kws X.env)).map (·.2))) _ _ s
 refine wpAny_evalAll_cons (wpAny_bind (aG (ha pins s σ H _ I h) fun u s1 ⟨x,H1,I1,r1,q1⟩=>wpAny_bind (wpAny_standAt (wpAny_pure ?_))))
 exact aG (hr pos pins s1 σ H1 _ I1 q1) fun us s2 ⟨xs,H2,I2,r2,q2⟩=>⟨x::xs,H2,I2,.cons r1 r2,q2⟩
variable {g:List Value->List Value->List Value}{gV:List V->List V->List V}
end
/-! ### a def's body keeps its promise -/
structure aQ (N P:List Str)(sc:Scope):Prop where
 kind:sc.kind=.function
 co:sc.isCoroutine=false
 gen:sc.isGenerator=false
 nd:N.Nodup
 pre:N.take P.length=P
 par:∀ x∈P,sc.names.lookup x=some .local\/sc.names.lookup x=some .cell
 uy:∀ y∈sc.names,y.2≠.free
theorem tN {kindOf:Str->Option NameKind}{x:Str}:∀ {binds:List (Str×Value)}{m:Str->Option Value},(∀ v,(x,v)∉binds)->bindL kindOf binds m x=m x
 | [],_,_=>rfl
 | (n,v)::r,m,h=>by
  unfold bindL
  rw [tN fun w hw=>h w (List.mem_cons_of_mem _ hw)]
  split
  ·have:x≠n:=by rintro rfl;exact h v List.mem_cons_self
   simp [this]
  ·rfl
theorem tL {kindOf:Str->Option NameKind}{x:Str}:∀ {binds:List (Str×Value)}{m:Str->Option Value},(∀ v,(x,v)∉binds)->bindC kindOf binds m x=m x
 | [],_,_=>rfl
 | (n,v)::r,m,h=>by
  unfold bindC
  rw [tL fun w hw=>h w (List.mem_cons_of_mem _ hw)]
  split
  ·rfl
  ·have:x≠n:=by rintro rfl;exact h v List.mem_cons_self
   simp [this]
theorem sP {kindOf:Str->Option NameKind}{x:Str}{v:Value}:∀ {P:List Str}{vs:List Value}{i:Nat}{m:Str->Option Value},P.Nodup->P[i]?=some x->vs[i]?=some v->kindOf x=some .local ->
  bindL kindOf (P.zip vs) m x=some v
 | [],_,_,_,_,h,_,_=>by simp at h
 | _::_,[],_,_,_,_,h,_=>by simp at h
 | p::P,w::vs,0,m,nd,h1,h2,hk=>by
  simp at h1 h2;subst h1;subst h2
  show bindL kindOf ((p,w)::P.zip vs) m p=_
  unfold bindL
  rw [tN fun v hv=>(List.nodup_cons.mp nd).1 (List.of_mem_zip hv).1,if_pos hk]
  simp
 | p::P,w::vs,i + 1,m,nd,h1,h2,hk=>by
  show bindL kindOf ((p,w)::P.zip vs) m x=_
  unfold bindL
  exact sP (i:=i) (List.nodup_cons.mp nd).2 (by simpa using h1) (by simpa using h2) hk
theorem sX {kindOf:Str->Option NameKind}{x:Str}{v:Value}:∀ {P:List Str}{vs:List Value}{i:Nat}{m:Str->Option Value},P.Nodup->P[i]?=some x->vs[i]?=some v->kindOf x≠some .local ->
  bindC kindOf (P.zip vs) m x=some v
 | [],_,_,_,_,h,_,_=>by simp at h
 | _::_,[],_,_,_,_,h,_=>by simp at h
 | p::P,w::vs,0,m,nd,h1,h2,hk=>by
  simp at h1 h2;subst h1;subst h2
  show bindC kindOf ((p,w)::P.zip vs) m p=_
  unfold bindC
  rw [tL fun v hv=>(List.nodup_cons.mp nd).1 (List.of_mem_zip hv).1,if_neg hk]
  simp
 | p::P,w::vs,i + 1,m,nd,h1,h2,hk=>by
  show bindC kindOf ((p,w)::P.zip vs) m x=_
  unfold bindC
  exact sX (i:=i) (List.nodup_cons.mp nd).2 (by simpa using h1) (by simpa using h2) hk
def start (N:List Str)(vs:List V):St:=vs.map some++List.replicate (N.length - vs.length) none
def gz (CX:ku)(P:Program)(w:World)(K:PySem.W.Frag)(mg:Str->Option Value)(base:Heap)(N:List Str) (qual:Str)(scope:Scope)(f:Addr)(cd:Value)(A:Around)(outer:List Env)(s:Shared)(H:Hp)(E:XK):Cx where
 prog:=P
 w:=w
 K:=K
 mg:=mg
 base:=base
 A:=A.deeper (envOfC qual scope s.heap.objs.size f cd)
 N:=N
 s₀:=s
 H₀:=H
 env:=envOfC qual scope s.heap.objs.size f cd
 outer:=outer
 stack:=envOfC qual scope s.heap.objs.size f cd::outer
 ex:=[]
 calm:=true
 fn:=fun _=>true
 pn:=[]
 xe:=fun e s'=>wpAny (model P w) (A.deeper (envOfC qual scope s.heap.objs.size f cd)) (leaving (envOfC qual scope s.heap.objs.size f cd) e) (fun _ s''=>CX outer H s E e s'') (fun e' s''=>CX outer H s E e' s'') s'
theorem uV {sc:Scope}{n:Nat}{x:Str}(h:sc.names.lookup x=some .cell):∃ c,(cellsFrom n sc.names []).lookup x=some c:=by
 have q:=PySem.W.cellsFrom_some sc.names n [] (.inl h)
 exact Option.isSome_iff_exists.mp q
theorem As {CX:ku}{P:Program}{w:World}{K:PySem.W.Frag}{mg:Str->Option Value}{base:Heap}{N ps:List Str}{qual:Str}{scope:Scope}{f:Addr}{cd:Value}{A:Around}{outer:List Env}{s s1:Shared}{H:Hp}{E:XK}{us:List Value}{vs:List V}
  (S:aQ N ps scope)(hd:A.handled=none)(e0:yt P w K mg base A outer s H)(hl:vs.length=ps.length)(r:Vals vs us)
  (x:InCallC s s.heap.objs.size (bindL (envOfC qual scope s.heap.objs.size f cd).kindOf (ps.zip us) fun _=>none) (cellsFrom (s.heap.objs.size + 1) scope.names []) (bindC (envOfC qual scope s.heap.objs.size f cd).kindOf (ps.zip us) fun _=>none) s1) :
  Inv (gz CX P w K mg base N qual scope f cd A outer s H E) [] (start N vs) H s1:=by
 have hpl:ps.length<=N.length:=by have:=congrArg List.length S.pre;rw [List.length_take] at this;omega
 obtain ⟨h1,tk,rfl,hk⟩:=x.done
 have noA:∀ b:Addr,b∉(gz CX P w K mg base N qual scope f cd A outer s H E).ex:=fun b z=>absurd (show b∈([]:List Addr) from z) (by simp)
 refine ⟨⟨e0.mod,S.kind,rfl,rfl,Nat.le_refl _,fun y z c h1 h2=>?_,fun y hy=>?_,fun y c _ h=>?_,fun _=>hd,Around.frames_deeper e0.frames,.inr ⟨rfl,rfl⟩,fun b z=>absurd z (noA b),e0.bs,e0.sW,fun b _ _=>noA b,fun b z=>absurd z (noA b),e0.jQ,e0.wz⟩,
  rfl,e0.bare,Un.kept hk,⟨_,x.toInCall.ns,fun i y v h1 h2 h3=>?_⟩,fun y c h=>⟨_,x.cell y c h⟩,e0.hok.fresh (Nat.le_refl _),fun y c h=>?_,fun p hp=>absurd (show p∈([]:List (Addr×Obj)) from hp) (by simp),e0.hok.kept hk,?_⟩
 ·exact name_of_addr x.apart (PySem.mem_of_lookup h1) (PySem.mem_of_lookup h2)
 ·have hy:scope.names.lookup y=some .cell\/scope.names.lookup y=some .free:=hy
  rcases hy with hy | hy
  ·exact uV hy
  ·exact absurd rfl (S.uy _ (PySem.mem_of_lookup hy))
 ·exact Nat.le_of_lt (x.above y c (PySem.mem_of_lookup h))
 ·have hi:i < vs.length:=by
   unfold start at h2
   by_cases hi:i < vs.length
   ·exact hi
   ·rw [List.getElem?_append_right (by simpa using hi)] at h2
    rw [List.getElem?_replicate] at h2
    split at h2 <;> cases h2
  have ha:vs[i]?=some v:=by
   unfold start at h2
   rw [List.getElem?_append_left (by simpa using hi),List.getElem?_map] at h2
   cases e:vs[i]? with
   | none=>rw [e] at h2;cases h2
   | some a=>rw [e] at h2;cases h2;rfl
  obtain ⟨u,hu,rv⟩:=r.get ha
  have hp:ps[i]?=some y:=by
   rw [<- S.pre,List.getElem?_take_of_lt (by omega)];exact h1
  have ndP:ps.Nodup:=by rw [<- S.pre];exact S.nd.sublist (List.take_sublist _ _)
  refine ⟨u,rv,?_⟩
  rcases S.par y (List.mem_of_getElem? hp) with k | k
  ·exact .inl ⟨k,sP ndP hp hu k⟩
  ·obtain ⟨c,e⟩:=uV (n:=s.heap.objs.size + 1) k
   refine .inr ⟨.inl k,c,e,?_⟩
   have q:=x.cell y c e
   rw [sX ndP hp hu (by show scope.names.lookup y≠_;rw [k];decide)] at q
   exact q
 ·exact e0.hok.fresh (Nat.le_of_lt (x.above y c (PySem.mem_of_lookup h)))
 ·unfold start
  show _=N.length
  rw [List.length_append,List.length_map,List.length_replicate]
  omega
theorem JG {CX:ku}{P:Program}{w:World}{K:PySem.W.Frag}{mg:Str->Option Value}{base:Heap}{k:Nat}{f:Addr}{name qual:Str}{params:Arguments}{body:List Stmt}{scope:Scope}{dV kV doc pm cdv ct oc:Value}{an od:Option Addr}
  {osl:Array (Option Value)}{N ps:List Str}{sp:Sp}(lk:K.lookup f=some ⟨oc,od,.func (PySem.W.fnOf name qual params body scope dV kV doc pm an cdv ct),osl⟩)(hcd:PySem.W.codeIn K cdv qual=true)(S:aQ N ps scope)
  (len:∀ vs H Q E,sp vs H Q E->vs.length=ps.length)
  (hbody:∀ (A:Around)(outer:List Env)(s:Shared)(H:Hp)(vs:List V)(Q:VK)(E:XK),d9 k (A.deeper (envOfC qual scope s.heap.objs.size f cdv))->sp vs H Q E ->
   ∃ t,mE (gz CX P w K mg base N qual scope f cdv A outer s H E) body t/\t { nx:=fun _ H'=>Q .br H',rt:=Q } (start N vs) H) :
  bF P w K mg base CX (k + 1) f (PySem.W.fnOf name qual params body scope dV kV doc pm an cdv ct) ps sp:=by
 refine ⟨len,fun A outer s H args us vs Q E hr e0 hb r hsp=>?_⟩
 have hl:=len _ _ _ _ hsp
 have KX:K.In s.heap:=e0.mod.CD.keeps fun b o e=>(e0.bs b o e).1
 have lim:s.heap.NoLimit:=e0.mod.nolimit.keeps fun b o e=>(e0.bs b o e).1
 have hkind:∀ y∈ps.zip us,scope.names.lookup y.1=some .local\/(scope.names.lookup y.1=some .cell/\((cellsFrom (s.heap.objs.size + 1) scope.names []).lookup y.1).isSome=true):=fun ⟨n,v⟩ hy=>by
  rcases S.par n (List.of_mem_zip hy).1 with q | q
  ·exact .inl q
  ·exact .inr ⟨q,PySem.W.cellsFrom_some _ _ _ (.inl q)⟩
 refine codeAny_call_function hr.depth (KX _ _ lk) rfl S.co S.gen rfl (PySem.W.codeRec_of KX hcd) (hb _ _ _ _ ?_)
 refine wpAny_newFunctionEnv_cells S.kind hkind fun env he s1 x=>?_
 subst he
 refine ⟨lim.keeps x.toInCall.keep,codeAny_func ?_⟩
 obtain ⟨t,ht,hq⟩:=hbody A outer s H vs Q E (hr.deeper _) hsp
 have I:Inv (gz CX P w K mg base N qual scope f cdv A outer s H E) [] (start N vs) H s1:=As S hr.hd e0 hl r x
 refine wpAny_mono (ht [] s1 (start N vs) H _ I hq) (fun fl s' hs=>?_) fun e s' hs=>hs
 have fin:∀ {σ':St}{H':Hp}{v:V}{u:Value},Inv (gz CX P w K mg base N qual scope f cdv A outer s H E) [] σ' H' s'->RelV v u->Q v H'->CE outer P w H s Q u s' :=
  fun {σ' H' v u} J rv q=>⟨v,H',J.os,J.bare,J.base,J.hok,rv,q⟩
 cases fl with
 | ret u =>
  obtain ⟨v,σ',H',J,rv,q⟩:=hs
  exact fin J rv q
 | next =>
  obtain ⟨σ',H',J,q⟩:=hs
  exact fin (v:=V.br) (u:=Value.none) J rfl q
 | brk =>
  obtain ⟨_,_,_,q⟩:=hs
  exact False.elim q
 | cont =>
  obtain ⟨_,_,_,q⟩:=hs
  exact False.elim q
end L2
namespace L2
open PySem PySem.Spec PyProof.Rows
section
variable {X:Cx}{x:Str}{p pos:Pos}{e:Expr}{es:List Expr}{t:TA}{id T:String}{r:List V->Hp->VK->Prop}
def Kz (r:List V->Hp->VK->Prop)(t:TA):TE:=fun σ H Q=>t σ H fun vs H1=>r vs H1 Q
theorem vg (hc:cK X (.builtin id) r)(hg:Gl X x)(hm:X.mg x=none)(hv:bootBuiltins x=some (.builtin id))(ha:PA X (e::es) t)(hn:x≠"__name__":=by decide)(hdb:(x == ("__debug__":Str))=false:=by decide)
  (he:starEach (e::es) X.env=(false,eval e X.env)::starEach es X.env:=by rfl)(hpl:(backTo pos (starEach es X.env)).any (·.1)=false:=by rfl):PE X (.Call (.Name x p) (e::es) [] pos) (Kz r t):=by
 intro pins s σ H Q I h
 refine wpAny_Call_Name_kw (j4 I hg hm hv ?_ hn hdb)
 exact PyProof.Rows.callWith_builtin1 (aG (ha pos pins s σ H _ I h) fun us s1 ⟨vs,H1,I1,r1,q1⟩=>hc pins s1 σ H1 vs us Q I1 r1 q1) he hpl
theorem m8 (hc:cK X (.type T) r)(hg:Gl X x)(hm:X.mg x=none)(hv:bootBuiltins x=some (.type T))(ha:PA X (e::es) t)(hn:x≠"__name__":=by decide)(hdb:(x == ("__debug__":Str))=false:=by decide)
  (he:starEach (e::es) X.env=(false,eval e X.env)::starEach es X.env:=by rfl)(hpl:(backTo pos (starEach es X.env)).any (·.1)=false:=by rfl):PE X (.Call (.Name x p) (e::es) [] pos) (Kz r t):=by
 intro pins s σ H Q I h
 refine wpAny_Call_Name_kw (j4 I hg hm hv ?_ hn hdb)
 exact PyProof.Rows.callWith_type1 (aG (ha pos pins s σ H _ I h) fun us s1 ⟨vs,H1,I1,r1,q1⟩=>hc pins s1 σ H1 vs us Q I1 r1 q1) he hpl
end
end L2
namespace HT
open PySem PyProof.Rows
section
open PySem.SeqAt
open PySem.AutoSeq1 (wpAny_loadPart')
open PySem.MeetsSeq PySem.MeetsSeq2 PySem.MeetsSeq3
end
section
variable {prog:Program}{w:World}{A:Around}{E:Value->Shared->Prop}{s:Shared}
theorem Eu {t b:Addr}{vs ws:List Value}{Q:Value->Shared->Prop}(ht:IsTup s.heap t vs.toArray)(hb:IsTup s.heap b ws.toArray)(hv:vs≠[])
  (h1:ws=[]->Q (.ref t) s)(h2:ws≠[]->Q (.ref s.heap.objs.size) { s with heap:=s.heap.push { cls:=.type "tuple",data:=.seq (vs++ws).toArray } })
  (hsz:vs.length + ws.length<=sizeLine):wpAny (model prog w) A (binaryOp .Add (.ref t) (.ref b)) Q E s:=by
 obtain ⟨⟨cls,dd,data,sl⟩,ho,hc,n,hd⟩:=id ht
 obtain ⟨⟨cls2,dd2,data2,sl2⟩,ho2,hc2,n2,hd2⟩:=id hb
 simp only at hc hd hc2 hd2
 subst hc hd hc2 hd2
 have e:vs.toArray++ws.toArray=(vs++ws).toArray:=by simp
 by_cases hw:ws=[]
 ·exact concat_meets ⟨_,ho,rfl⟩ ⟨_,ho2,rfl⟩ noFill_tuple_add seq_tuple_add PySem.F.slot_tuple_add PySem.F.entry_tuple_add (PySem.F.args_tuple_add_2 _ _)
   (tuple_addW1 t b vs.toArray ws.toArray n n2 dd dd2 sl sl2 (by simpa using hv) (by simp [hw])) ⟨ho,ho2,h1 hw⟩
 ·refine concat_meets ⟨_,ho,rfl⟩ ⟨_,ho2,rfl⟩ noFill_tuple_add seq_tuple_add PySem.F.slot_tuple_add PySem.F.entry_tuple_add (PySem.F.args_tuple_add_2 _ _)
   (tuple_addW2 t b vs.toArray ws.toArray n n2 dd dd2 sl sl2 (by simpa using hv) (by simpa using hw) (by rw [List.size_toArray,List.size_toArray];exact hsz)) ⟨ho,ho2,?_⟩
  rw [e]
  exact h2 hw
/-! ### t[a:b],not the whole -/
def aO (n d:Nat):Option Int->Nat
 | none=>d
 | some v=>if v < 0 then (v + (n:Int)).toNat else min v.toNat n
theorem oj (n d k:Nat):aO n d (some (k:Int))=min k n:=by
 show (if (k:Int) < 0 then ((k:Int) + (n:Int)).toNat else min (k:Int).toNat n)=min k n
 rw [if_neg (by omega),Int.toNat_natCast]
theorem Gs (n d:Nat)(hd:d<=n)(o:Option Int):aO n d o<=n:=by
 cases o with
 | none=>exact hd
 | some v =>
  show (if v < 0 then (v + (n:Int)).toNat else min v.toNat n)<=n
  by_cases hv:v < 0
  ·rw [if_pos hv];omega
  ·rw [if_neg hv];exact Nat.min_le_right _ _
theorem wR (v:Int) (n d:Nat):(if v < 0 then max (v + (n:Int)) 0 else min v (n:Int))=((aO n d (some v):Nat):Int):=by
 show (if v < 0 then max (v + (n:Int)) 0 else min v (n:Int))=(((if v < 0 then (v + (n:Int)).toNat else min v.toNat n):Nat):Int)
 by_cases hv:v < 0
 ·simp only [if_pos hv];omega
 ·simp only [if_neg hv];omega
theorem yl (lo hi:Option Int) (n:Nat):Builtin.Slice.sliceAdjust lo hi 1 (n:Int)=(((aO n 0 lo:Nat):Int),((aO n n hi:Nat):Int)):=by
 have h1:¬ ((1:Int) < 0):=by omega
 unfold Builtin.Slice.sliceAdjust
 simp only [h1,if_false]
 refine Prod.ext ?_ ?_
 ·cases lo with
  | none=>rfl
  | some v=>exact wR v n 0
 ·cases hi with
  | none=>rfl
  | some v=>exact wR v n n
theorem yr (i j:Nat):Builtin.Slice.slicePlaces (i:Int) (j:Int) 1=j - i:=by
 unfold Builtin.Slice.slicePlaces
 have h1:(1:Int) > 0:=by omega
 simp only [h1,if_true,Int.ediv_one]
 split <;> omega
theorem qw {v:Value}{o:Option Int}{Q:Option Int->Shared->Prop}(p:IsPart v o)(h:Q o s):wpAny (model prog w) A (Builtin.Slice.slicePartIndex v) Q E s:=by
 cases p with
 | none=>exact slicePart_none h
 | int i t=>exact slicePart_int h
theorem jM {sl:Addr}{vl vu:Value}{lo hi:Option Int}{n:Nat}{Q:Int×Int×Nat->Shared->Prop}(hs:s.heap.IsSliceOf sl vl vu .none)(pl:IsPart vl lo)(pu:IsPart vu hi)
  (h:Q (((aO n 0 lo:Nat):Int),1,aO n n hi - aO n 0 lo) s):wpAny (model prog w) A (Builtin.Slice.sliceApplied (.ref sl) (pure (n:Int))) Q E s:=by
 obtain ⟨os,hos,hcs,hds⟩:=id hs
 unfold Builtin.Slice.sliceApplied Builtin.Slice.sliceFields
 refine wpAny_bind (wpAny_bind (wpAny_field hos hds (x:=vl) rfl (wpAny_bind (wpAny_field hos hds (x:=vu) rfl (wpAny_bind (wpAny_field hos hds (x:=.none) rfl (wpAny_pure ?_)))))))
 refine wpAny_bind (slicePart_none ?_)
 show wpAny _ _ (if ((1:Int) == 0)=true then _ else _) _ _ s
 rw [if_neg (by decide)]
 refine wpAny_bind (qw pl (wpAny_bind (qw pu (wpAny_bind (wpAny_pure ?_)))))
 show wpAny _ _ (match Builtin.Slice.sliceAdjust lo hi 1 (n:Int) with | (lo,hi)=>pure (lo,(1:Int),Builtin.Slice.slicePlaces lo hi 1)) _ _ s
 rw [yl lo hi n]
 show wpAny _ _ (pure (((aO n 0 lo:Nat):Int),(1:Int),Builtin.Slice.slicePlaces ((aO n 0 lo:Nat):Int) ((aO n n hi:Nat):Int) 1)) _ _ s
 rw [yr]
 exact wpAny_pure h
theorem Cz (xs:Array Value) (i k:Nat):((List.range k).filterMap fun (m:Nat)=>xs[((i:Int) + (m:Int) * 1).toNat]?).toArray=((xs.toList.drop i).take k).toArray:=by
 have e:(fun (m:Nat)=>xs[((i:Int) + (m:Int) * 1).toNat]?)=fun m=>xs[i + m]?:=by
  funext m
  have:((i:Int) + (m:Int) * 1).toNat=i + m:=by omega
  rw [this]
 rw [e]
 have:=pick_run xs i k
 rw [List.filterMap_map] at this
 have e2:((fun x=>xs[x]?) ∘ fun x=>i + x)=fun m=>xs[i + m]?:=rfl
 rw [e2] at this
 rw [this]
theorem oz {t sl:Addr}{items:Array Value}{vl vu:Value}{lo hi:Option Int}{Q:Value->Shared->Prop}(ht:IsTup s.heap t items)(hs:s.heap.IsSliceOf sl vl vu .none)(pl:IsPart vl lo)(pu:IsPart vu hi)
  (hw:¬ (aO items.size 0 lo=0/\aO items.size items.size hi=items.size))
  (h:Q (.ref s.heap.objs.size) { s with heap:=s.heap.push { cls:=.type "tuple",data:=.seq ((items.toList.drop (aO items.size 0 lo)).take (aO items.size items.size hi - aO items.size 0 lo)).toArray } })
  (hsz:items.size<=sizeLine):wpAny (model prog w) A (getItem (.ref t) (.ref sl)) Q E s:=by
 have htake:sizeOk (.seq ((items.toList.drop (aO items.size 0 lo)).take (aO items.size items.size hi - aO items.size 0 lo)).toArray):=by
  show ((items.toList.drop (aO items.size 0 lo)).take (aO items.size items.size hi - aO items.size 0 lo)).toArray.size<=sizeLine
  rw [List.size_toArray,List.length_take,List.length_drop,Array.length_toList]
  exact Nat.le_trans (Nat.min_le_right _ _) (Nat.le_trans (Nat.sub_le _ _) hsz)
 have hj:aO items.size items.size hi<=items.size:=Gs _ _ (Nat.le_refl _) hi
 obtain ⟨os,hos,hcs,hds⟩:=id hs
 have hTs:s.TypeIs (.ref sl) "slice":=⟨os,hos,hcs⟩
 unfold getItem
 try with_reducible refine wpAny_holding ?_
 first | refine wpAny_bind (wpAny_pure ?_) | skip
 refine wpAny_bind (wpAny_sequenceKey ht.typeIs (by decide) ?_)
 refine wpAny_bind (wpAny_callSpecial?_slot (name:=Str.ofString "__getitem__") ht.typeIs PyProof.Rows.slot_tuple_getitem
  (wpAny_call_entry PyProof.Rows.slot_tuple_getitem ht.typeIs entry_tuple_getitem ?_ (args_tuple_getitem _ _)))
 show wpAny _ _ (Builtin.Tuple.tupleItemsOf (.ref t) >>= _) _ _ s
 refine wpAny_bind (tupleItemsOf_ ht ?_)
 refine wpAny_bind (wpAny_typeOf hTs ?_)
 rw [if_pos (by decide)]
 refine wpAny_bind (jM hs pl pu ?_)
 have hno:¬ ((((aO items.size 0 lo:Nat):Int) == 0 && (1:Int) == 1 && (aO items.size items.size hi - aO items.size 0 lo) == items.size)=true):=by
  intro q
  rw [Bool.and_eq_true,Bool.and_eq_true] at q
  have q1:((aO items.size 0 lo:Nat):Int)=0:=eq_of_beq q.1.1
  have q2:aO items.size items.size hi - aO items.size 0 lo=items.size:=eq_of_beq q.2
  exact hw ⟨by omega,by omega⟩
 show wpAny _ _ (if (((aO items.size 0 lo:Nat):Int) == 0 && (1:Int) == 1 && (aO items.size items.size hi - aO items.size 0 lo) == items.size)=true then _ else _) _ _ s
 rw [if_neg hno,Cz]
 first
  | exact wpAny_bind (m:=Builtin.Tuple.tupleExact _) (wpAny_newObj_type (wpAny_pure ⟨_,rfl,wpAny_pure h⟩) htake)
  | exact wpAny_bind (m:=Builtin.Tuple.tupleExact _) (wpAny_newObj_type (wpAny_bind (wpAny_pure (wpAny_pure ⟨_,rfl,wpAny_pure h⟩))) htake)
  | exact wpAny_bind (wpAny_bind (m:=Builtin.Tuple.tupleExact _) (wpAny_newObj_type (wpAny_pure (wpAny_pure ⟨_,rfl,wpAny_pure h⟩)) htake))
  | exact wpAny_bind (wpAny_bind (m:=Builtin.Tuple.tupleExact _) (wpAny_newObj_type (wpAny_pure ⟨_,rfl,wpAny_pure h⟩) htake))
end
end HT
namespace L2
open PySem PySem.Spec PyProof.Rows
/-! ### the parts of a slice -/
abbrev TO:=St->Hp->(Option Int->Hp->Prop)->Prop
def PO (X:Cx)(e:Option Expr)(t:TO):Prop :=
 ∀ (pins:List (Addr×Obj))(s:Shared)(σ:St)(H:Hp)(Q:Option Int->Hp->Prop),Inv X pins σ H s->t σ H Q ->
  wpAny (model X.prog X.w) X.A (evalPart e X.env) (fun u s'=>∃ o H',Inv X pins σ H' s'/\IsPart u o/\Q o H') X.xe s
def Em:TO:=fun _ H Q=>Q none H
def J9 (t:TE):TO:=fun σ H Q=>t σ H fun x H1=>∃ i,x=.int i/\Q (some i) H1
theorem intsAre_of {ns:List Int}:∀ {us:List Value},Vals (ns.map V.int) us->IntsAre us ns:=by
 induction ns with
 | nil=>intro us r;rw [List.map_nil] at r;cases r;exact .nil
 | cons n ns ih =>
  intro us r
  rw [List.map_cons] at r
  cases r with
  | cons r1 r2 =>
   obtain ⟨t,e⟩:=r1
   subst e
   exact .cons n t (ih r2)
section
variable {X:Cx}{e:Expr}{te:TE}{lo hi:Option Expr}{tl th:TO}{pos p2:Pos}
theorem ED:PO X none Em:=by
 intro pins s σ H Q I h
 rw [evalPart_none]
 exact wpAny_pure ⟨none,H,I,.none,h⟩
theorem Fd (h:PE X e te):PO X (some e) (J9 te):=by
 intro pins s σ H Q I hw
 rw [evalPart_some]
 refine aG (h pins s σ H _ I hw) fun u s1 ⟨x,H1,I1,r1,q1⟩=>?_
 obtain ⟨i,rfl,q⟩:=q1
 obtain ⟨t,rfl⟩:=r1
 exact ⟨some i,H1,I1,.int i t,q⟩
def AS (X:Cx)(r:V->Option Int->Option Int->Hp->VK->Prop):Prop :=
 ∀ (pins:List (Addr×Obj))(s:Shared)(σ:St)(H:Hp) (x:V)(v vl vu:Value)(lo hi:Option Int)(sl:Addr)(Q:VK),Inv X pins σ H s->RelV x v->s.heap.IsSliceOf sl vl vu .none->IsPart vl lo->IsPart vu hi->r x lo hi H Q ->
  ∃ T id,typeLookup (.type T) "__getitem__"=pure (some (.builtin id))/\s.TypeIs v T/\wpAny (model X.prog X.w) X.A (getItem v (.ref sl)) (EP X pins σ Q) X.xe s
def Ls (r:V->Option Int->Option Int->Hp->VK->Prop)(te:TE)(tl th:TO):TE:=fun σ H Q=>te σ H fun x H1=>tl σ H1 fun l H2=>th σ H2 fun u H3=>r x l u H3 Q
theorem Bw {r:V->Option Int->Option Int->Hp->VK->Prop}(hr:AS X r)(he:PE X e te)(hl:PO X lo tl)(hu:PO X hi th):PE X (.Subscript e (.Slice lo hi none p2) pos) (Ls r te tl th):=by
 intro pins s σ H Q I h
 refine Subscript_ (aG (he pins s σ H _ I h) fun v s1 ⟨x,H1,I1,r1,q1⟩=>?_)
 refine wpAny_Slice (aG (hl pins s1 σ H1 _ I1 q1) fun vl s2 ⟨l,H2,I2,pl,q2⟩=>aG (hu pins s2 σ H2 _ I2 q2) fun vu s3 ⟨u,H3,I3,pu,q3⟩=>?_)
 rw [evalPart_none]
 refine wpAny_pure ?_
 have I4:Inv X pins σ H3 { s3 with heap:=s3.heap.push { cls:=.type "slice",data:=.fields #[vl,vu,.none] } }:=I3.kept (t':=s3.toks) fun b ob q=>Heap.get?_push_of_some _ q
 obtain ⟨T,id,hT,ht,hg⟩:=hr pins { s3 with heap:=s3.heap.push { cls:=.type "slice",data:=.fields #[vl,vu,.none] } } σ H3 x v vl vu l u s3.heap.objs.size Q I4 r1 (Heap.IsSliceOf.new ..) pl pu q3
 show wpAny (model X.prog X.w) X.A (subscriptTail e (.Slice lo hi none p2) v (.ref s3.heap.objs.size)) (EP X pins σ Q) X.xe { s3 with heap:=s3.heap.push { cls:=.type "slice",data:=.fields #[vl,vu,.none] } }
 exact tail_any (ops:=[.ref s3.heap.objs.size,v]) ht hT hg (by with_unfolding_all rfl)
def lZ (xs:List V)(lo hi:Option Int):List V:=(xs.drop (HT.aO xs.length 0 lo)).take (HT.aO xs.length xs.length hi - HT.aO xs.length 0 lo)
theorem oR (xs:List V)(lo hi:Option Int):(lZ xs lo hi).length<=xs.length:=by
 unfold lZ
 rw [List.length_take,List.length_drop]
 exact Nat.le_trans (Nat.min_le_right _ _) (Nat.sub_le _ _)
def K9 (K:PySem.W.Frag):V->Option Int->Option Int->Hp->VK->Prop:=fun x lo hi H Q=>∃ a xs,x=.ref a/\cB K H a xs /\
 ¬ (HT.aO xs.length 0 lo=0/\HT.aO xs.length xs.length hi=xs.length)/\∀ p,H p=none->Q (.ref p) (upd H p (.tup (lZ xs lo hi)))
theorem G0:AS X (K9 X.K):=by
 intro pins s σ H x v vl vu lo hi sl Q I rx hs pl pu h
 obtain ⟨a,xs,rfl,hx,hw,q⟩:=h
 cases rx
 obtain ⟨its,r,ht,hz⟩:=I.tuple hx
 have hlen:its.toArray.size=xs.length:=by rw [List.size_toArray];exact r.length.symm
 refine ⟨"tuple",_,PyProof.Rows.slot_tuple_getitem.lookup,ht.typeIs,?_⟩
 refine HT.oz ht hs pl pu (by rw [hlen];exact hw) ?_ (by rw [hlen];exact hz)
 rw [hlen]
 refine ⟨.ref s.heap.objs.size,_,I.laid (t':=s.toks) (o:=.tup (lZ xs lo hi)) (fun b ob q=>Heap.get?_push_of_some _ q) (Nat.le_refl _) ?_,rfl,q _ (I.hok.fresh (Nat.le_refl _))⟩
 exact ⟨Nat.le_trans (oR xs lo hi) hz,_,(r.drop (HT.aO xs.length 0 lo)).take (HT.aO xs.length xs.length hi - HT.aO xs.length 0 lo),IsTup.new _ _⟩
/-! ### t < u,t + u -/
def D4 (K:PySem.W.Frag):R2:=fun x y H Q=>∃ a b xs ys,x=.ref a/\y=.ref b/\cB K H a xs/\cB K H b ys/\xs≠[]/\xs.length + ys.length<=sizeLine /\
 (ys=[]->Q (.ref a) H)/\(ys≠[]->∀ p,H p=none->Q (.ref p) (upd H p (.tup (xs++ys))))
theorem Vals.rC {xs:List V}{us:List Value}(r:Vals xs us):us=[]↔xs=[]:=by
 cases r with
 | nil=>simp
 | cons _ _=>simp
theorem EB:bL X (binaryOp .Add) (D4 X.K):=by
 intro pins s σ H x y v u Q I rx ry h
 obtain ⟨a,b,xs,ys,rfl,rfl,ha,hb,hx,hz,q1,q2⟩:=h
 cases rx
 cases ry
 obtain ⟨its,r1,p1,_⟩:=I.tuple ha
 obtain ⟨its2,r2,p2,_⟩:=I.tuple hb
 refine HT.Eu p1 p2 (fun z=>hx (r1.rC.mp z)) (fun z=>⟨.ref a,H,I,rfl,q1 (r2.rC.mp z)⟩) (fun z=>?_) (by rw [<- r1.length,<- r2.length];exact hz)
 refine ⟨.ref s.heap.objs.size,_,I.laid (t':=s.toks) (o:=.tup (xs++ys)) (fun b ob q=>Heap.get?_push_of_some _ q) (Nat.le_refl _) ?_,rfl,q2 (fun w=>z (r2.rC.mpr w)) _ (I.hok.fresh (Nat.le_refl _))⟩
 exact ⟨by rw [List.length_append];exact hz,_,r1.append r2,IsTup.new _ _⟩
end
end L2
namespace L2
open PySem PySem.Spec PyProof.Rows
/-! ### places -/
def nh (n:Nat) (i:Int):Option Nat:=if 0<=i then (if i < n then some i.toNat else none) else if -(n:Int)<=i then some (i + n).toNat else none
def dQ {α:Type}(xs:List α) (i:Int):Option α:=(nh xs.length i).bind fun j=>xs[j]?
theorem xE {n:Nat}{i:Int}{j:Nat}(h:nh n i=some j):seqIndex? i n=some j/\j < n/\-(n:Int)<=i/\i < n:=by
 unfold nh at h
 by_cases h0:0<=i
 ·rw [if_pos h0] at h
  by_cases h1:i < n
  ·rw [if_pos h1] at h
   have e:i.toNat=j:=Option.some.inj h
   exact ⟨by rw [seqIndex_of h0 h1,e],by omega,by omega,h1⟩
  ·rw [if_neg h1] at h;cases h
 ·rw [if_neg h0] at h
  by_cases h1:-(n:Int)<=i
  ·rw [if_pos h1] at h
   have e:(i + n).toNat=j:=Option.some.inj h
   exact ⟨by rw [seqIndex_neg (by omega) h1,e],by omega,h1,by omega⟩
  ·rw [if_neg h1] at h;cases h
theorem qQ {α:Type}{xs:List α}{i:Int}{v:α}(h:dQ xs i=some v):∃ j,seqIndex? i xs.length=some j/\xs[j]?=some v/\j < xs.length/\-(xs.length:Int)<=i/\i < xs.length:=by
 unfold dQ at h
 cases e:nh xs.length i with
 | none=>rw [e] at h;cases h
 | some j =>
  rw [e] at h
  obtain ⟨h1,h2,h3,h4⟩:=xE e
  exact ⟨j,h1,h,h2,h3,h4⟩
/-! ### what may be subscripted -/
def lg (b:Expr):Prop:=∀ o i,subscripted b false o i=operate [o,i] (getItem o i)
def mH (X:Cx)(r:R2):Prop :=
 ∀ (value slice:Expr)(pins:List (Addr×Obj))(s:Shared)(σ:St)(H:Hp) (x y:V)(v u:Value)(Q:VK),Inv X pins σ H s->RelV x v->RelV y u->r x y H Q ->
  subscripted slice false v u=operate [v,u] (getItem v u)->wpAny (model X.prog X.w) X.A (subscriptTail value slice v u) (EP X pins σ Q) X.xe s
def Kv (X:Cx)(id:String)(r:V->List V->Hp->VK->Prop):Prop :=
 ∀ (pins:List (Addr×Obj))(s:Shared)(σ:St)(H:Hp) (x:V)(xs:List V)(v:Value)(us:List Value)(Q:VK),Inv X pins σ H s->RelV x v->Vals xs us->r x xs H Q ->
  wpAny (model X.prog X.w) X.A (call (.builtin id) (v::us)) (EP X pins σ Q) X.xe s
section
variable {X:Cx}{a b:Expr}{ta tb:TE}{pos:Pos}
theorem mH.or {r r':R2}(h:mH X r)(h':mH X r'):mH X (fun x y H Q=>r x y H Q\/r' x y H Q):=by
 intro value slice pins s σ H x y v u Q I rx ry q hs
 rcases q with q | q
 ·exact h value slice pins s σ H x y v u Q I rx ry q hs
 ·exact h' value slice pins s σ H x y v u Q I rx ry q hs
theorem D3 {r:R2}(hr:mH X r)(ha:PE X a ta)(hb:PE X b tb)(hs:lg b):PE X (.Subscript a b pos) (F9 r ta tb):=by
 intro pins s σ H Q I h
 exact Subscript_ (BW ha hb I h fun v u s2 x y H2 I2 rx ry q=>hr a b pins s2 σ H2 x y v u Q I2 rx ry q (hs _ _))
inductive DK (K:PySem.W.Frag) (x:V) (y:V)(H:Hp)(Q:VK):Prop
 | mk:∀ p xs i v,(x=.ref p)->(y=.int i)->(cu K H p xs)->(dQ xs i=some v)->(Q v H)->DK K x y H Q
def GR (K:PySem.W.Frag):R2:=fun x y H Q=>DK K x y H Q
inductive CJ (K:PySem.W.Frag) (x:V) (y:V)(H:Hp)(Q:VK):Prop
 | mk:∀ p xs i v,(x=.ref p)->(y=.int i)->(cB K H p xs)->(dQ xs i=some v)->(Q v H)->CJ K x y H Q
def IT (K:PySem.W.Frag):R2:=fun x y H Q=>CJ K x y H Q
inductive DO (x:V) (y:V)(H:Hp)(Q:VK):Prop
 | mk:∀ z i c,(x=.str z)->(y=.int i)->(z.length<=sizeLine)->(dQ z.cps.toList i=some c)->(Q (.str ⟨#[c]⟩) H)->DO x y H Q
def Hv:R2:=fun x y H Q=>DO x y H Q
theorem Fl:mH X (GR X.K):=by
 intro value slice pins s σ H x y v u Q I rx ry h hs
 obtain ⟨p,xs,i,z,rfl,rfl,hq,he,q⟩:=h
 cases rx
 obtain ⟨t,rfl⟩:=ry
 obtain ⟨its,r,pl,hz⟩:=I.list hq
 obtain ⟨j,h1,h2,h3,h4,h5⟩:=qQ he
 obtain ⟨w,ew,rw'⟩:=r.get h2
 have hl:=r.length
 have hn:=lB
 have fin:EP X pins σ Q w s:=⟨z,H,I,rw',q⟩
 by_cases h0:0<=i
 ·have hj:i.toNat=j:=by
   rw [seqIndex_of h0 h5] at h1
   exact Option.some.inj h1
  exact item_listR pl.isList h0 (by omega) (by rw [hj];simpa using ew) fin hs
 ·have hj:(i + (its.toArray.size:Int)).toNat=j:=by
   rw [seqIndex_neg (by omega) h4] at h1
   rw [List.size_toArray,<- hl]
   exact Option.some.inj h1
  exact subscriptTail_builtinR (x:=w) pl.isList.typeIs slot_list_getitem.lookup
   (wpAny_getItem_list_neg (Q:=fun r s'=>r=w/\EP X pins σ Q r s') pl.isList (by omega) (by rw [List.size_toArray] <;> omega) (by omega) (by rw [hj];simpa using ew) ⟨rfl,fin⟩) hs
theorem IK:mH X (IT X.K):=by
 intro value slice pins s σ H x y v u Q I rx ry h hs
 obtain ⟨p,xs,i,z,rfl,rfl,hq,he,q⟩:=h
 cases rx
 obtain ⟨t,rfl⟩:=ry
 obtain ⟨its,r,pl,hz⟩:=I.tuple hq
 obtain ⟨j,h1,h2,h3,h4,h5⟩:=qQ he
 obtain ⟨w,ew,rw'⟩:=r.get h2
 have hl:=r.length
 have hn:=lB
 have fin:EP X pins σ Q w s:=⟨z,H,I,rw',q⟩
 exact subscriptTail_builtinR (x:=w) pl.typeIs slot_tuple_getitem.lookup
  (getItem_tuple (j:=j) (Q:=fun r s'=>r=w/\EP X pins σ Q r s') pl (by omega) (by omega) (by rw [List.size_toArray,<- hl];exact h1) (by simpa using ew) ⟨rfl,fin⟩) hs
theorem HW:mH X Hv:=by
 intro value slice pins s σ H x y v u Q I rx ry h hs
 obtain ⟨z,i,c,rfl,rfl,hz,he,q⟩:=h
 obtain ⟨t,rfl⟩:=rx
 obtain ⟨t',rfl⟩:=ry
 obtain ⟨j,h1,h2,h3,h4,h5⟩:=qQ he
 have hl:z.cps.toList.length=z.length:=by simp [Str.length]
 rw [hl] at h1 h4 h5
 have hn:=lB
 exact tail_any (typeIs_str s z t) slot_str_getitem.lookup (getItem_str (c:=c) (by
  have e1:decide (i < -(2 ^ 63:Int))=false:=decide_eq_false (by omega)
  have e2:decide (i >= 2 ^ 63)=false:=decide_eq_false (by omega)
  rw [e1,e2,Bool.or_false]) (by rw [h1];simpa using h2) ⟨.str ⟨#[c]⟩,H,I.tok _,⟨_,rfl⟩,q⟩) hs
def GN (K:PySem.W.Frag):R2:=fun x y H Q=>GR K x y H Q\/IT K x y H Q\/Hv x y H Q
theorem zh:mH X (GN X.K):=Fl.or (IK.or HW)
/-! ### xs[i]=v,any sign -/
theorem yS (its:List Value) (n j:Nat)(u:Value):Obj.mapSeq (·.setIfInBounds j u) { cls:=.type "list",data:=.seq its.toArray n }={ cls:=.type "list",data:=.seq (its.set j u).toArray n }:=by
 simp [Obj.mapSeq]
theorem Inv.lst {pins:List (Addr×Obj)}{σ:St}{H:Hp}{s:Shared}{p:Addr}{xs:List V}(I:Inv X pins σ H s)(h:H p=some (.lst xs)) :
  ∃ (its:List Value) (n:Nat),Vals xs its/\s.heap.get? p=some { cls:=.type "list",data:=.seq its.toArray n }/\xs.length<=sizeLine:=by
 obtain ⟨z,its,n,r,e⟩:=I.hok p _ h
 exact ⟨its,n,r,e,z⟩
theorem Inv.Jb {pins:List (Addr×Obj)}{σ:St}{H:Hp}{s:Shared}{p:Addr}{xs ys:List V}{its its':List Value}{n n':Nat}{f:Obj->Obj}(I:Inv X pins σ H s)(h:H p=some (.lst xs))
  (ho:s.heap.get? p=some { cls:=.type "list",data:=.seq its.toArray n })(hf:f { cls:=.type "list",data:=.seq its.toArray n }={ cls:=.type "list",data:=.seq its'.toArray n' })(r:Vals ys its')(hz:ys.length<=sizeLine) (t:Nat) :
  Inv X pins σ (upd H p (.lst ys)) { s with heap:=s.heap.update p f,toks:=t }:=by
 have e:(s.heap.update p f).get? p=some { cls:=.type "list",data:=.seq its'.toArray n' }:=by
  rw [Heap.get?_update_self f ho (by rw [hf] <;> rfl),hf]
 refine I.write (x:=p) (e:=p) (by rw [h];trivial) (.inl rfl) (fun b u hb q=>(Heap.get?_update_other _ _ (Ne.symm hb)).trans q) ⟨_,e⟩ ?_
 exact ⟨hz,its',n',r,e⟩
inductive A7 (o:V) (i:V) (v:V)(H:Hp)(Q:(Hp->Prop)):Prop
 | mk:∀ p xs k j,(o=.ref p)->(i=.int k)->(H p=some (.lst xs))->(nh xs.length k=some j)->(Q (upd H p (.lst (xs.set j v))))->A7 o i v H Q
def DF:V->V->V->Hp->(Hp->Prop)->Prop:=fun o i v H Q=>A7 o i v H Q
theorem set_list:Cb X DF:=by
 intro pins s σ H o i v ov iv u Q I ro ri rv h
 obtain ⟨p,xs,k,j,rfl,rfl,hp,hj,q⟩:=h
 cases ro
 obtain ⟨t,rfl⟩:=ri
 obtain ⟨its,n,r,ho,hz⟩:=I.lst hp
 obtain ⟨h1,h2,h3,h4⟩:=xE hj
 have hl:=r.length
 have hn:=lB
 have I':Inv X pins σ (upd H p (.lst (xs.set j v))) { s with heap:=s.heap.update p (Obj.mapSeq (·.setIfInBounds j u)) } :=
  I.Jb hp ho (yS its n j u) (r.set rv j) (by rw [List.length_set];exact hz) s.toks
 by_cases h0:0<=k
 ·have hk:k.toNat=j:=by
   rw [seqIndex_of h0 h4] at h1
   exact Option.some.inj h1
  exact PySem.W.ki_setAt ho h0 (by omega) (by rw [List.size_toArray,<- hl];exact h4) (by rw [hk];exact ⟨_,I',q⟩)
 ·have hk:(k + (its.toArray.size:Int)).toNat=j:=by
   rw [seqIndex_neg (by omega) h3] at h1
   rw [List.size_toArray,<- hl]
   exact Option.some.inj h1
  exact PySem.W.ki_setBack ho (by omega) (by rw [List.size_toArray,<- hl];exact h3) (by omega) (by rw [hk];exact ⟨_,I',q⟩)
/-! ### slices -/
theorem uF (lo hi:Option Int) (n:Nat):(sliceBounds lo hi none n).1=((HT.aO n 0 lo:Nat):Int)/\(sliceBounds lo hi none n).2.1=((HT.aO n n hi:Nat):Int)/\(sliceBounds lo hi none n).2.2=1:=by
 have one:∀ i:Int,(sliceBounds (some i) none none n).1=((HT.aO n 0 (some i):Nat):Int):=fun i=>by
  simp only [sliceBounds,HT.aO,Option.getD_none,show (1:Int) > 0 by decide,if_true]
  by_cases h:i < 0
  ·simp only [h,if_true] <;> omega
  ·simp only [h,if_false] <;> omega
 refine ⟨?_,?_,rfl⟩
 ·cases lo with
  | none=>simp [sliceBounds,HT.aO]
  | some i=>exact one i
 ·cases hi with
  | none=>simp [sliceBounds,HT.aO]
  | some i=>exact one i
theorem tW (its:List Value)(lo hi:Option Int):slicePick its.toArray lo hi none=((its.drop (HT.aO its.length 0 lo)).take (HT.aO its.length its.length hi - HT.aO its.length 0 lo)).toArray:=by
 obtain ⟨h1,h2,h3⟩:=uF lo hi its.toArray.size
 unfold slicePick
 rw [h1,h2,h3]
 simp only [sliceRange_one,pick_run,List.size_toArray] <;> rfl
inductive CV (K:PySem.W.Frag) (x:V)(lo:Option Int)(hi:Option Int)(H:Hp)(Q:VK):Prop
 | mk:∀ a xs,(x=.ref a)->(cu K H a xs)->(∀ p,H p=none->Q (.ref p) (upd H p (.lst (lZ xs lo hi))))->CV K x lo hi H Q
def Iw (K:PySem.W.Frag):V->Option Int->Option Int->Hp->VK->Prop:=fun x lo hi H Q=>CV K x lo hi H Q
theorem Eg:AS X (Iw X.K):=by
 intro pins s σ H x v vl vu lo hi sl Q I rx hs pl pu h
 obtain ⟨a,xs,rfl,hx,q⟩:=h
 cases rx
 obtain ⟨its,r,ht,hz⟩:=I.list hx
 have hlen:=r.length
 refine ⟨"list",_,slot_list_getitem.lookup,ht.isList.typeIs,?_⟩
 refine wpAny_getItem_list_slice ht.isList hs pl pu .none (by simp) ?_ (by rw [List.size_toArray] <;> omega)
 rw [tW,<- hlen]
 refine ⟨.ref s.heap.objs.size,_,I.laid (t':=s.toks) (o:=.lst (lZ xs lo hi)) (fun b ob q=>Heap.get?_push_of_some _ q) (Nat.le_refl _) ?_,rfl,q _ (I.hok.fresh (Nat.le_refl _))⟩
 exact ⟨Nat.le_trans (oR xs lo hi) hz,_,0,(r.drop (HT.aO xs.length 0 lo)).take (HT.aO xs.length xs.length hi - HT.aO xs.length 0 lo),Heap.get?_push_size _ rfl⟩
/-! ### in,not in: flat items -/
/-! ### len,list(x),tuple(x) of any list or tuple that is read -/
theorem vJ:cK X (.builtin "len") (fun xs H Q=>∃ p ys,xs=[.ref p]/\(cu X.K H p ys\/cB X.K H p ys)/\Q (.int ys.length) H):=by
 intro pins s σ H xs us Q I r h
 obtain ⟨p,ys,rfl,hq,q⟩:=h
 obtain ⟨u,rfl,rx⟩:=vals1 r
 cases rx
 have hn:=lB
 rcases hq with hq | hq
 ·obtain ⟨its,r',pl,hz⟩:=I.list hq
  have hlen:=r'.length
  exact Calls.call_len_list pl.isList (by simp only [List.size_toArray] <;> omega) ⟨.int ys.length,H,I.tok _,⟨s.toks + 1,by rw [List.size_toArray,hlen]⟩,q⟩
 ·obtain ⟨its,r',pl,hz⟩:=I.tuple hq
  have hlen:=r'.length
  exact len_tuple pl (by simp only [List.size_toArray] <;> omega) ⟨.int ys.length,H,I.tok _,⟨s.toks + 1,by rw [List.size_toArray,hlen]⟩,q⟩
theorem cK.or {f:Value}{r r':List V->Hp->VK->Prop}(h:cK X f r)(h':cK X f r'):cK X f (fun xs H Q=>r xs H Q\/r' xs H Q):=by
 intro pins s σ H xs us Q I rs q
 rcases q with q | q
 ·exact h pins s σ H xs us Q I rs q
 ·exact h' pins s σ H xs us Q I rs q
theorem uL:cK X (.type "list") (fun xs H Q=>∃ p ys,xs=[.ref p]/\(cu X.K H p ys\/cB X.K H p ys)/\∀ l,H l=none->Q (.ref l) (upd H l (.lst ys))):=by
 intro pins s σ H xs us Q I r h
 obtain ⟨p,ys,rfl,hq,q⟩:=h
 obtain ⟨u,rfl,rx⟩:=vals1 r
 cases rx
 have fin:∀ (its:List Value),Vals ys its->ys.length<=sizeLine->∀ (h':Heap) (c':Nat),(∀ b o',s.heap.get? b=some o'->h'.get? b=some o') ->
   h'.get? s.heap.objs.size=some { cls:=.type "list",dict:=none,data:=.seq its.toArray c',slots:=#[] }->EP X pins σ Q (.ref s.heap.objs.size) { s with heap:=h' }:=fun its r' hz h' c' kp e =>
  ⟨.ref s.heap.objs.size,_,I.laid (t':=s.toks) kp (Nat.le_refl _) (show bP X.prog X.w _ h' _ (.lst ys) from ⟨hz,its,c',r',e⟩),rfl,q _ (I.hok.fresh (Nat.le_refl _))⟩
 rcases hq with hq | hq
 ·obtain ⟨its,r',pl,hz⟩:=I.list hq
  have hlen:=r'.length
  obtain ⟨o,ho,hc,n,hd⟩:=pl.isList
  exact call_list_seq p (.inl rfl) ho hc hd (fun h' c' kp e=>fin its r' hz h' c' kp e) (by simp only [List.size_toArray] <;> omega)
 ·obtain ⟨its,r',pl,hz⟩:=I.tuple hq
  have hlen:=r'.length
  obtain ⟨o,ho,hc,n,hd⟩:=pl
  exact call_list_seq p (.inr rfl) ho hc hd (fun h' c' kp e=>fin its r' hz h' c' kp e) (by simp only [List.size_toArray] <;> omega)
theorem tU:cK X (.type "tuple") (fun xs H Q=>∃ p ys,xs=[.ref p]/\((cu X.K H p ys/\∀ l,H l=none->Q (.ref l) (upd H l (.tup ys)))\/(cB X.K H p ys/\Q (.ref p) H))):=by
 intro pins s σ H xs us Q I r h
 obtain ⟨p,ys,rfl,h⟩:=h
 obtain ⟨u,rfl,rx⟩:=vals1 r
 cases rx
 rcases h with ⟨hq,q⟩ | ⟨hq,q⟩
 ·obtain ⟨its,r',pl,hz⟩:=I.list hq
  have hlen:=r'.length
  refine call_tuple_list pl.isList (fun h' kp=>?_) (by simp only [List.size_toArray] <;> omega)
  have I1:Inv X pins σ H { s with heap:=h' }:=I.kept (t':=s.toks) kp
  have I2:Inv X pins σ (upd H h'.objs.size (.tup ys)) { s with heap:=h'.push { cls:=.type "tuple",data:=.seq its.toArray } } :=
   I1.laid (t':=s.toks) (fun b o e=>Heap.get?_push_of_some _ e) (Nat.le_refl _) (show bP X.prog X.w _ _ _ (.tup ys) from ⟨hz,its,r',IsTup.new _ _⟩)
  exact ⟨.ref h'.objs.size,_,I2,rfl,q _ (I1.hok.fresh (Nat.le_refl _))⟩
 ·obtain ⟨its,r',pl,hz⟩:=I.tuple hq
  exact call_tuple_same pl ⟨.ref p,H,I,rfl,q⟩
/-! ### the call of a builtin's method: o.m(..) -/
def Iz (K:PySem.W.Frag)(T:String) (x:V)(H:Hp):Prop:=match x with
 | .str _=>T="str"
 | .int _=>T="int"
 | .ref p=>(T="list"/\∃ xs,cu K H p xs)\/(T="tuple"/\∃ o,K.lookup p=some o/\o.cls=.type "tuple"/\o.dict=none) \/
   (T="dict"/\((∃ kvs,H p=some (.dK kvs))\/∃ kvs,H p=some (.dT kvs)))\/(T="set"/\∃ S n,H p=some (.set S n))
 | _=>False
theorem AM {pins:List (Addr×Obj)}{σ:St}{H:Hp}{s:Shared}{T:String}{x:V}{v:Value}(I:Inv X pins σ H s)(r:RelV x v)(ty:Iz X.K T x H) :
  s.TypeIs v T/\∀ a,v=.ref a->∃ ob,s.heap.get? a=some ob/\ob.dict=none:=by
 cases x with
 | str z =>
  obtain ⟨t,rfl⟩:=r
  cases (show T="str" from ty)
  exact ⟨typeIs_str s z t,fun _ e=>nomatch e⟩
 | int i =>
  obtain ⟨t,rfl⟩:=r
  cases (show T="int" from ty)
  exact ⟨typeIs_int s i t,fun _ e=>nomatch e⟩
 | ref p =>
  cases r
  rcases ty with ⟨rfl,xs,hq⟩ | ⟨rfl,o,hk,hc,hd⟩ | ⟨rfl,hk⟩ | ⟨rfl,S,n,hk⟩
  ·obtain ⟨its,_,pl,_⟩:=I.list hq
   refine ⟨pl.isList.typeIs,fun a e=>?_⟩
   cases e
   obtain ⟨o,n,e,c,hd,_⟩:=pl
   exact ⟨o,e,hd⟩
  ·refine ⟨⟨o,I.ic p o hk,hc⟩,fun a e=>?_⟩
   cases e
   exact ⟨o,I.ic _ o hk,hd⟩
  ·have z:∃ o,s.heap.get? p=some o/\o.ExactDict:=by
    rcases hk with ⟨kvs,hk⟩ | ⟨kvs,hk⟩
    ·obtain ⟨_,_,_,_,o,_,_,e,ex,_⟩:=I.hok p _ hk
     exact ⟨o,e,ex⟩
    ·obtain ⟨_,_,_,_,o,_,_,e,ex,_⟩:=I.hok p _ hk
     exact ⟨o,e,ex⟩
   obtain ⟨o,e,ex⟩:=z
   refine ⟨⟨o,e,ex.1⟩,fun a e2=>?_⟩
   cases e2
   exact ⟨o,e,ex.2.1⟩
  ·obtain ⟨o,_,_,_,e,ex,_⟩:=I.hok p _ hk
   refine ⟨⟨o,e,ex.1⟩,fun a e2=>?_⟩
   cases e2
   exact ⟨o,e,ex.2.1⟩
 | _=>exact False.elim ty
def KW (K:PySem.W.Frag)(T:String)(r:V->List V->Hp->VK->Prop)(to:TE):TE:=fun σ H Q=>to σ H fun x H1=>Iz K T x H1/\r x [] H1 Q
def Lw (K:PySem.W.Frag)(T:String)(r:V->List V->Hp->VK->Prop)(to:TE)(t:TA):TE:=fun σ H Q=>to σ H fun x H1=>Iz K T x H1/\t σ H1 fun xs H2=>r x xs H2 Q
variable {o e:Expr}{es:List Expr}{to:TE}{t:TA}{name:Str}{apos cpos:Pos}{T id:String}{r:V->List V->Hp->VK->Prop}
theorem ID (pa:PlainAttrs T)(slot:Slot T name id)(hty:typeOf (.builtin id)=pure (.type "method_descriptor"))(hm:Kv X id r)(ho:PE X o to)
  (hbase:attributeBase o name X.env (eval o X.env)=eval o X.env:=by rfl)(hline:(apos.endLine == cpos.line)=true:=by rfl):PE X (.Call (.Attribute o name apos) [] [] cpos) (KW X.K T r to):=by
 intro pins s σ H Q I h
 refine wpAny_Call_method0_late hbase hline (aG (ho pins s σ H _ I h) fun v s1 ⟨x,H1,I1,r1,ty,q1⟩=>?_)
 obtain ⟨h1,h2⟩:=AM I1 r1 ty
 exact ⟨T,id,pa,slot,hty,h1,h2,Calls.callWith_builtin rfl (PySem.evalArgs_none (hm pins s1 σ H1 x [] v [] Q I1 r1 .nil q1))⟩
theorem CS (pa:PlainAttrs T)(slot:Slot T name id)(hty:typeOf (.builtin id)=pure (.type "method_descriptor"))(hm:Kv X id r)(ho:PE X o to)(ha:PA X (e::es) t)
  (hbase:attributeBase o name X.env (eval o X.env)=eval o X.env:=by rfl)
  (hfew:((backTo cpos (starEach (e::es) X.env)).all (fun x=>!x.1) && (backToKw cpos (keywordEach [] X.env)).all (fun x=>x.1.isSome)
   && decide ((e::es).length + ([]:List Keyword).length + (if ([]:List Keyword).isEmpty then 0 else 1) < 30))=true:=by rfl)
  (hline:(apos.endLine == cpos.line)=true:=by rfl)(hs:starEach (e::es) X.env=(false,eval e X.env)::starEach es X.env:=by rfl)(hplain:(backTo cpos (starEach es X.env)).any (·.1)=false:=by rfl) :
  PE X (.Call (.Attribute o name apos) (e::es) [] cpos) (Lw X.K T r to t):=by
 intro pins s σ H Q I h
 refine wpAny_Call_method_late hbase hfew hline rfl (aG (ho pins s σ H _ I h) fun v s1 ⟨x,H1,I1,r1,ty,q1⟩=>?_)
 obtain ⟨h1,h2⟩:=AM I1 r1 ty
 refine ⟨T,id,pa,slot,hty,h1,h2,?_⟩
 have hA:=ha cpos pins s1 σ H1 _ I1 q1
 rw [hs] at hA ⊢
 refine Calls.callWith_builtin (by show (false || (backTo cpos (starEach es X.env)).any (·.1))=false;rw [hplain] <;> rfl) (Calls.evalArgs_plain ?_)
 exact aG hA fun us s2 ⟨vs,H2,I2,r2,q2⟩=>hm pins s2 σ H2 x vs v us Q I2 r1 r2 q2
/- xs.append(e),list.index on a module's tuple .. are MtR facts of 06m -/
end
end L2
namespace L2
open PySem PySem.Spec PyProof.Rows
def tO (X:Cx)(id:String)(r:V->List V->Hp->VK->Prop):Prop :=
 ∀ (pins:List (Addr×Obj))(s:Shared)(σ:St)(H:Hp) (x:V)(xs:List V)(v:Value)(us:List Value)(Q:VK),Inv X pins σ H s->RelV x v->Vals xs us->r x xs H Q ->
  wpAny (model X.prog X.w) X.A (call (.builtin id) (v::us)) (EP X pins σ Q) X.xe s
/-! ### lists of values -/
theorem Vals.one:∀ {x:V}{us:List Value},Vals [x] us->∃ u,us=[u]/\RelV x u
 | _,_,.cons r .nil=>⟨_,rfl,r⟩
theorem Vals.two:∀ {x y:V}{us:List Value},Vals [x,y] us->∃ u v,us=[u,v]/\RelV x u/\RelV y v
 | _,_,_,.cons r (.cons q .nil)=>⟨_,_,rfl,r,q⟩
theorem Vals.zero:∀ {us:List Value},Vals [] us->us=[]
 | _,.nil=>rfl
theorem Vals.dropLast {xs:List V}{us:List Value}(h:Vals xs us):Vals xs.dropLast us.dropLast:=by
 induction h with
 | nil=>exact .nil
 | cons r t ih =>
  cases t with
  | nil=>exact .nil
  | cons q t'=>exact .cons r ih
theorem Vals.eraseIdx:∀ {xs:List V}{us:List Value} (i:Nat),Vals xs us->Vals (xs.eraseIdx i) (us.eraseIdx i)
 | _,_,_,.nil=>.nil
 | _,_,0,.cons _ t=>t
 | _,_,i + 1,.cons r t=>.cons r (Vals.eraseIdx i t)
theorem Vals.rep {xs:List V}{us:List Value}(h:Vals xs us):∀ k:Nat,Vals (List.replicate k xs).flatten (List.replicate k us).flatten
 | 0=>.nil
 | k + 1=>by
  rw [List.replicate_succ,List.replicate_succ,List.flatten_cons,List.flatten_cons]
  exact Vals.append h (Vals.rep h k)
theorem yN {α:Type}(l:List α):l.eraseIdx (l.length - 1)=l.dropLast:=by
 induction l with
 | nil=>rfl
 | cons a r ih =>
  cases r with
  | nil=>rfl
  | cons b r =>
   have e:(a::b::r).length - 1=((b::r).length - 1) + 1:=by
    have h1:(a::b::r).length=r.length + 2:=rfl
    have h2:(b::r).length=r.length + 1:=rfl
    omega
   rw [e,List.eraseIdx_cons_succ,ih]
   all_goals rfl
theorem tH {α:Type}:∀ (l:List α) (i:Nat),(l.eraseIdx i).length<=l.length
 | [],_=>Nat.le_refl _
 | _::_,0=>Nat.le_succ _
 | _::r,i + 1=>Nat.succ_le_succ (tH r i)
theorem foldl_rep (its:List Value):∀ (k:Nat)(acc:List Value),
  List.foldl (fun x1 x2=>x1++x2) acc.toArray (List.replicate k its.toArray)=(acc++(List.replicate k its).flatten).toArray
 | 0,acc=>by simp
 | k + 1,acc=>by
  have e:acc.toArray++its.toArray=(acc++its).toArray:=by simp
  have e2:(acc++its)++(List.replicate k its).flatten=acc++(List.replicate (k + 1) its).flatten:=by
   rw [List.replicate_succ,List.flatten_cons,List.append_assoc]
  rw [<- e2,<- foldl_rep its k (acc++its),<- e,List.replicate_succ,List.foldl_cons]
section
variable {X:Cx}{pins:List (Addr×Obj)}{σ:St}{H:Hp}{s:Shared}{l b:Addr}{xs ys zs:List V}
/-! ### the two steps: a tracked list is rewritten,a new list is laid -/
theorem Inv.xX {its its':List Value}{n:Nat}{f:Array Value->Array Value}{t':Nat}(I:Inv X pins σ H s)(hH:H l=some (.lst xs))
  (e:s.heap.get? l=some { cls:=.type "list",data:=.seq its.toArray n })(hf:f its.toArray=its'.toArray)(hv:Vals ys its')(hz:ys.length<=sizeLine) :
  Inv X pins σ (upd H l (.lst ys)) { s with heap:=s.heap.update l (Obj.mapSeq f),toks:=t' }:=by
 have q:=PySem.IsL.update e f
 rw [hf] at q
 refine I.write (x:=l) (e:=l) (by rw [hH];exact trivial) (.inl rfl) (fun b' u hb hu=>(Heap.get?_update_other s.heap (Obj.mapSeq f) (Ne.symm hb)).trans hu) ⟨_,q⟩ ?_
 exact ⟨hz,its',_,hv,q⟩
theorem Inv.HQ {its:List Value}{t':Nat}(I:Inv X pins σ H s)(hv:Vals ys its)(hz:ys.length<=sizeLine) :
  Inv X pins σ (upd H s.heap.objs.size (.lst ys)) { s with heap:=s.heap.push { cls:=.type "list",data:=.seq its.toArray },toks:=t' } :=
 I.laid (fun _ _ q=>Heap.get?_push_of_some _ q) (Nat.le_refl _) ⟨hz,its,0,hv,Heap.get?_push_size _ rfl⟩
theorem Inv.fresh (I:Inv X pins σ H s):H s.heap.objs.size=none:=I.hok.fresh (Nat.le_refl _)
theorem Inv.yc (I:Inv X pins σ H s)(hH:H l=some (.lst xs)):xs.length<=sizeLine/\∃ (its:List Value) (n:Nat),Vals xs its/\xs.length=its.length/\s.heap.get? l=some { cls:=.type "list",data:=.seq its.toArray n }:=by
 obtain ⟨z,its,n,r,e⟩:=I.hok l _ hH
 exact ⟨z,its,n,r,r.length,e⟩
theorem u7 {n:Nat}(h:n<=sizeLine):Builtin.List.listTooLong n=false:=by
 unfold Builtin.List.listTooLong
 exact decide_eq_false (by omega)
end
section
variable {X:Cx}
/-! ### methods -/
def xO:V->List V->Hp->VK->Prop:=fun x vs H Q=>∃ l xs y,x=.ref l/\vs=[y]/\H l=some (.lst xs)/\xs.length < sizeLine/\Q .br (upd H l (.lst (xs++[y])))
theorem eZ:tO X "list.append" xO:=by
 intro pins s σ H x vs v us Q I rx rv h
 obtain ⟨l,xs,y,rfl,rfl,hH,hz,q⟩:=h
 cases rx
 obtain ⟨u,rfl,ru⟩:=rv.one
 obtain ⟨z,its,n,r,hl,e⟩:=I.yc hH
 refine call_meets F.slot_list_append ⟨_,e,rfl⟩ F.entry_list_append (F.args_list_append_2 _ _) (PySem.list_append l its.toArray n u (by rw [List.size_toArray];omega)) ⟨e,?_⟩
 refine ⟨.br,_,I.xX (its':=its++[u]) hH e (by simp) (r.append (.cons ru .nil)) ?_,rfl,q⟩
 rw [List.length_append,List.length_singleton]
 omega
inductive Dj (x:V)(vs:List V)(H:Hp)(Q:VK):Prop
 | mk:∀ l xs y,(x=.ref l)->(vs=[])->(H l=some (.lst xs))->(xs[xs.length - 1]?=some y)->(Q y (upd H l (.lst xs.dropLast)))->Dj x vs H Q
def BO:V->List V->Hp->VK->Prop:=fun x vs H Q=>Dj x vs H Q
theorem IC:tO X "list.pop" BO:=by
 intro pins s σ H x vs v us Q I rx rv h
 obtain ⟨l,xs,y,rfl,rfl,hH,hy,q⟩:=h
 cases rx
 have hus:=rv.zero
 subst hus
 obtain ⟨z,its,n,r,hl,e⟩:=I.yc hH
 obtain ⟨u,hu,ru⟩:=r.get hy
 have hy':its.toArray[its.toArray.size - 1]?=some u:=by
  show its.toArray[its.length - 1]?=some u
  rw [<- Array.getElem?_toList,<- hl]
  exact hu
 refine call_meets F.slot_list_pop ⟨_,e,rfl⟩ F.entry_list_pop (F.args_list_pop_1 _) (MeetsSeq.list_pop_last l its.toArray n u hy' (by rw [List.size_toArray];omega)) ⟨e,?_⟩
 refine ⟨y,_,I.xX (its':=its.dropLast) hH e ?_ r.dropLast ?_,ru,q⟩
 ·show its.toArray.eraseIdxIfInBounds (its.toArray.size - 1)=its.dropLast.toArray
  rw [List.size_toArray,List.eraseIdxIfInBounds_toArray,yN]
 ·rw [List.length_dropLast]
  omega
inductive wJ (x:V)(vs:List V)(H:Hp)(Q:VK):Prop
 | mk:∀ l xs i k y,(x=.ref l)->(vs=[.int i])->(H l=some (.lst xs))->(-(2 ^ 63)<=i)->(i < 2 ^ 63)->(seqIndex? i xs.length=some k)->(xs[k]?=some y)->(Q y (upd H l (.lst (xs.eraseIdx k))))->wJ x vs H Q
def uB:V->List V->Hp->VK->Prop:=fun x vs H Q=>wJ x vs H Q
theorem BR:tO X "list.pop" uB:=by
 intro pins s σ H x vs v us Q I rx rv h
 obtain ⟨l,xs,i,k,y,rfl,rfl,hH,h1,h2,hk,hy,q⟩:=h
 cases rx
 obtain ⟨u,rfl,ru⟩:=rv.one
 obtain ⟨t,rfl⟩:=ru
 obtain ⟨z,its,n,r,hl,e⟩:=I.yc hH
 obtain ⟨w,hw,rw'⟩:=r.get hy
 refine call_meets F.slot_list_pop ⟨_,e,rfl⟩ F.entry_list_pop (F.args_list_pop_2 _ _)
  (MeetsSeq.list_pop_at l its.toArray n i t k w (fitsIndex_both h1 h2) (by rw [List.size_toArray,<- hl];exact hk) (by rw [<- Array.getElem?_toList];exact hw) (by rw [List.size_toArray];omega)) ⟨e,?_⟩
 refine ⟨y,_,I.xX (its':=its.eraseIdx k) hH e ?_ (r.eraseIdx k) ?_,rw',q⟩
 ·show its.toArray.eraseIdxIfInBounds k=(its.eraseIdx k).toArray
  rw [List.eraseIdxIfInBounds_toArray]
 ·have:=tH xs k
  omega
/-! ### list + list,list += list,list * int -/
theorem len_rep {α:Type}(xs:List α) (k:Nat):(List.replicate k xs).flatten.length=k * xs.length:=by
 induction k with
 | zero=>simp
 | succ k ih=>rw [List.replicate_succ,List.flatten_cons,List.length_append,ih,Nat.succ_mul,Nat.add_comm]
/-! ### del xs[i] -/
end
/-! ### xs[a:b]=ys -/
section
variable {prog:Program}{w:World}{A:Around}{E:Value->Shared->Prop}{s:Shared}
end
section
variable {X:Cx}
end
end L2
namespace L2
open PySem PySem.Spec PyProof.Rows
/-! ### lists of pairs as tables -/
section
variable {κ:Type} [DecidableEq κ]
def c8 (kvs:List (κ×V))(k:κ):Option V:=(kvs.find? fun kv=>decide (kv.1=k)).map (·.2)
def putK (kvs:List (κ×V))(k:κ) (v:V):List (κ×V) :=
 if (kvs.any fun kv=>decide (kv.1=k))=true then kvs.map (fun kv=>if kv.1=k then (kv.1,v) else kv) else kvs++[(k,v)]
theorem pU {p:κ×V}{r:List (κ×V)}{k:κ}(e:p.1=k):c8 (p::r) k=some p.2:=by simp [c8,List.find?_cons,e]
theorem pB {p:κ×V}{r:List (κ×V)}{k:κ}(e:¬ p.1=k):c8 (p::r) k=c8 r k:=by simp [c8,List.find?_cons,e]
theorem uq (k:κ):∀ kvs:List (κ×V),(kvs.any fun kv=>decide (kv.1=k))=(c8 kvs k).isSome
 | []=>rfl
 | p::r=>by
  rw [List.any_cons]
  by_cases e:p.1=k
  ·simp only [pU e,decide_eq_true e,Bool.true_or,Option.isSome_some]
  ·rw [pB e,decide_eq_false e,Bool.false_or];exact uq k r
theorem kM (kvs:List (κ×V))(k:κ) (v:V):(putK kvs k v).length<=kvs.length + 1:=by
 unfold putK
 split
 ·rw [List.length_map];omega
 ·rw [List.length_append,List.length_cons,List.length_nil];omega
theorem jV.jw {o:Option V}{u:Option Value}(r:jV o u):o.isSome=u.isSome:=by
 cases o with
 | none=>cases u with
  | none=>rfl
  | some _=>exact (show False from r).elim
 | some _=>cases u with
  | none=>exact (show False from r).elim
  | some _=>rfl
theorem KV.val {kvs:List (κ×V)}{vs:List (κ×Value)}(r:KV kvs vs)(k:κ):jV (c8 kvs k) (valueAt vs k):=by
 unfold KV at r
 induction r with
 | nil=>exact True.intro
 | @cons p q ps qs h t ih =>
  obtain ⟨h1,h2⟩:=h
  by_cases e:p.1=k
  ·have e':q.1=k:=h1.symm.trans e
   have b:valueAt (q::qs) k=some q.2:=by simp [valueAt,List.find?_cons,e']
   rw [pU e,b];exact h2
  ·have e':¬ q.1=k:=fun z=>e (h1.trans z)
   have b:valueAt (q::qs) k=valueAt qs k:=by simp [valueAt,List.find?_cons,e']
   rw [pB e,b];exact ih
theorem KV.any {kvs:List (κ×V)}{vs:List (κ×Value)}(r:KV kvs vs)(k:κ):(kvs.any fun kv=>decide (kv.1=k))=vs.any fun kv=>decide (kv.1=k):=by
 unfold KV at r
 induction r with
 | nil=>rfl
 | cons h t ih=>rw [List.any_cons,List.any_cons,ih,h.1]
theorem KV.repl {kvs:List (κ×V)}{vs:List (κ×Value)}(r:KV kvs vs)(k:κ){y:V}{u:Value}(ry:RelV y u) :
  KV (kvs.map fun kv=>if kv.1=k then (kv.1,y) else kv) (vs.map fun kv=>if kv.1=k then (kv.1,u) else kv):=by
 unfold KV at r ⊢
 induction r with
 | nil=>exact .nil
 | @cons p q ps qs h t ih =>
  rw [List.map_cons,List.map_cons]
  refine .cons ?_ ih
  obtain ⟨h1,h2⟩:=h
  by_cases e:p.1=k
  ·rw [if_pos e,if_pos (h1.symm.trans e)];exact ⟨h1,ry⟩
  ·rw [if_neg e,if_neg (fun z=>e (h1.trans z))];exact ⟨h1,h2⟩
theorem KV.put {kvs:List (κ×V)}{vs:List (κ×Value)}(r:KV kvs vs)(k:κ){y:V}{u:Value}(ry:RelV y u):KV (putK kvs k y) (stored vs k u):=by
 unfold putK stored
 rw [r.any k]
 by_cases e:(vs.any fun kv=>decide (kv.1=k))=true
 ·rw [if_pos e,if_pos e];exact r.repl k ry
 ·rw [if_neg e,if_neg e];exact Paired.snoc r ⟨rfl,ry⟩
theorem KV.length {kvs:List (κ×V)}{vs:List (κ×Value)}(r:KV kvs vs):kvs.length=vs.length:=Paired.length r
end
/-! ### a tracked dict,its keys ints and texts or tuples of these -/
theorem om {P:Program}{w:World}{k:Key}{u:Value}(r:RelV (kV k) u):(cO P w).is k u=true:=by
 cases k with
 | inl i=>obtain ⟨t,e⟩:=(show ∃ t,u=Value.int i t from r);subst e;exact wm P w i t
 | inr x=>obtain ⟨t,e⟩:=(show ∃ t,u=Value.str x t from r);subst e;exact wj P w x t
theorem sZ {P:Program}{w:World}:∀ {ks:List Key}{us:List Value},Vals (ks.map kV) us->ItemsAre (cO P w) ks us
 | [],_,r=>by rw [List.map_nil] at r;cases r;exact .nil
 | k::ks,_,r=>by
  rw [List.map_cons] at r
  cases r with
  | cons h t=>exact .cons (om h) (sZ t)
abbrev KT (H:Hp):List (List Key×V)->List (List Key×Addr×Value)->Prop:=Paired fun p q=>p.1=q.1/\H q.2.1=some (.tup (p.1.map kV))/\RelV p.2 q.2.2
theorem KT.val {H:Hp}{kvs:List (List Key×V)}{xs:List (List Key×Addr×Value)}(r:KT H kvs xs)(k:List Key):jV (c8 kvs k) ((atKey xs k).map (·.2)):=by
 induction r with
 | nil=>exact True.intro
 | @cons p q ps qs h t ih =>
  obtain ⟨h1,_,h2⟩:=h
  by_cases e:p.1=k
  ·have e':q.1=k:=h1.symm.trans e
   have b:atKey (q::qs) k=some q.2:=by simp [atKey,List.find?_cons,e']
   rw [pU e,b];exact h2
  ·have e':¬ q.1=k:=fun z=>e (h1.trans z)
   have b:atKey (q::qs) k=atKey qs k:=by simp [atKey,List.find?_cons,e']
   rw [pB e,b];exact ih
theorem KT.repl {H:Hp}{kvs:List (List Key×V)}{xs:List (List Key×Addr×Value)}(r:KT H kvs xs)(k:List Key){y:V}{u:Value}(ry:RelV y u) :
  KT H (kvs.map fun kv=>if kv.1=k then (kv.1,y) else kv) (xs.map (putAt k u)):=by
 induction r with
 | nil=>exact .nil
 | @cons p q ps qs h t ih =>
  rw [List.map_cons,List.map_cons]
  refine .cons ?_ ih
  obtain ⟨h1,h2,h3⟩:=h
  unfold putAt
  by_cases e:p.1=k
  ·rw [if_pos e,if_pos (h1.symm.trans e)];exact ⟨h1,h2,ry⟩
  ·rw [if_neg e,if_neg (fun z=>e (h1.trans z))];exact ⟨h1,h2,h3⟩
theorem KT.put {H:Hp}{kvs:List (List Key×V)}{xs:List (List Key×Addr×Value)}(r:KT H kvs xs)(k:List Key){b:Addr}{y:V}{u:Value}(hb:H b=some (.tup (k.map kV)))(ry:RelV y u) :
  KT H (putK kvs k y) (storedH xs k b u):=by
 have e:(kvs.any fun kv=>decide (kv.1=k))=(atKey xs k).isSome:=by
  rw [uq,(r.val k).jw,Option.isSome_map]
 unfold putK storedH
 rw [e]
 by_cases q:(atKey xs k).isSome=true
 ·rw [if_pos q,if_pos q];exact r.repl k ry
 ·rw [if_neg q,if_neg q];exact Paired.snoc r ⟨rfl,hb,ry⟩
theorem KT.keeps {H H':Hp}{kvs:List (List Key×V)}{xs:List (List Key×Addr×Value)}(r:KT H kvs xs)(ht:∀ b ys,H b=some (.tup ys)->H' b=some (.tup ys)):KT H' kvs xs :=
 Paired.Cr r fun _ _ z=>⟨z.1,ht _ _ z.2.1,z.2.2⟩
section
variable {P:Program}{w:World}{H:Hp}{h:Heap}{a:Addr}
theorem CP {u:HO}(ok:dJ P w H h)(e:Rd H a u):bP P w H h a u:=e.ok ok
theorem ou {kvs:List (Key×V)}(ok:dJ P w H h)(e:Rd H a (.dK kvs)):kvs.length<=sizeLine/\(a == sysModules)=false/\∃ vs,KV kvs vs/\h.DictOf (cO P w) a vs :=
 show bP P w H h a (.dK kvs) from CP ok e
theorem CI {kvs:List (Key×V)}(ok:dJ P w H h)(e:H a=some (.dK kvs)):kvs.length<=sizeLine/\(a == sysModules)=false/\∃ vs,KV kvs vs/\h.DictOf (cO P w) a vs:=ou ok (.inl e)
theorem nI {ks:List Key}(ok:dJ P w H h)(e:H a=some (.tup (ks.map kV))):(tupleKind (cO P w)).is h ks a:=by
 obtain ⟨_,its,r,o,h1,h2,n,h3⟩:=(show bP P w H h a (.tup (ks.map kV)) from ok a _ e)
 exact ⟨o,its.toArray,n,h1,h2,h3,by simpa using sZ r⟩
theorem qF {kvs:List (List Key×V)}(ok:dJ P w H h)(e:Rd H a (.dT kvs)):kvs.length<=sizeLine/\(a == sysModules)=false /\
  ∃ xs,KT H kvs xs/\h.DictOfH (tupleKind (cO P w)) a xs:=by
 obtain ⟨z,y,xs,r,o,es,ep,h1,h2,h3,h4,h5⟩:=(show bP P w H h a (.dT kvs) from CP ok e)
 refine ⟨z,y,xs,r,o,es,ep,h1,h2,h3,h4,fun x hx=>?_,h5⟩
 have all:∀ {l:List (List Key×V)}{m:List (List Key×Addr×Value)},KT H l m->∀ x∈m,(tupleKind (cO P w)).is h x.1 x.2.1:=by
  intro l m q
  induction q with
  | nil=>intro x hx;exact nomatch hx
  | @cons p q ps qs hq t ih =>
   intro x hx
   rcases List.mem_cons.mp hx with e | hx
   ·subst e
    exact nI ok (by rw [<- hq.1];exact hq.2.1)
   ·exact ih x hx
 exact all r x hx
theorem JV {kvs:List (List Key×V)}(ok:dJ P w H h)(e:H a=some (.dT kvs)):kvs.length<=sizeLine/\(a == sysModules)=false /\
  ∃ xs,KT H kvs xs/\h.DictOfH (tupleKind (cO P w)) a xs:=qF ok (.inl e)
end
def iN (H:Hp)(a:Addr) (y:V)(r:Option V):Prop :=
 (∃ kvs k,Rd H a (.dK kvs)/\y=kV k/\r=c8 kvs k)\/∃ kvs k b,Rd H a (.dT kvs)/\y=.ref b/\H b=some (.tup (k.map kV))/\r=c8 kvs k
def mO (H:Hp)(a:Addr) (y v:V)(H':Hp):Prop :=
 (∃ kvs k,H a=some (.dK kvs)/\y=kV k/\kvs.length < sizeLine/\H'=upd H a (.dK (putK kvs k v))) \/
 ∃ kvs k b,H a=some (.dT kvs)/\y=.ref b/\H b=some (.tup (k.map kV))/\kvs.length < sizeLine/\H'=upd H a (.dT (putK kvs k v))
theorem iN.k {H:Hp}{a:Addr}{kvs:List (Key×V)}{k:Key}(e:H a=some (.dK kvs)):iN H a (kV k) (c8 kvs k):=.inl ⟨kvs,k,.inl e,rfl,rfl⟩
theorem iN.t {H:Hp}{a b:Addr}{kvs:List (List Key×V)}{k:List Key}(e:H a=some (.dT kvs))(eb:H b=some (.tup (k.map kV))):iN H a (.ref b) (c8 kvs k):=.inr ⟨kvs,k,b,.inl e,rfl,eb,rfl⟩
theorem mO.k {H:Hp}{a:Addr}{kvs:List (Key×V)}{k:Key}{v:V}(e:H a=some (.dK kvs))(hl:kvs.length < sizeLine):mO H a (kV k) v (upd H a (.dK (putK kvs k v))):=.inl ⟨kvs,k,e,rfl,hl,rfl⟩
theorem mO.t {H:Hp}{a b:Addr}{kvs:List (List Key×V)}{k:List Key}{v:V}(e:H a=some (.dT kvs))(eb:H b=some (.tup (k.map kV)))(hl:kvs.length < sizeLine) :
  mO H a (.ref b) v (upd H a (.dT (putK kvs k v))):=.inr ⟨kvs,k,b,e,rfl,eb,hl,rfl⟩
section
variable {X:Cx}{pins:List (Addr×Obj)}{σ:St}{H:Hp}{s:Shared}{a:Addr}{y v:V}{u r:Value}{o:Option V}{A:Around}{E:Value->Shared->Prop}
theorem Inv.big (I:Inv X pins σ H s):sysModules < s.heap.objs.size:=by
 have h:mainGlobals < s.heap.objs.size:=(I.mod.glob.keeps I.bk).lt
 exact Nat.lt_trans (by decide) h
theorem Ae {Q:Value->Shared->Prop}(hu:A.units + 1 < cLine)(I:Inv X pins σ H s)(g:iN H a y (some v))(ry:RelV y u)(h:∀ w' s',Inv X pins σ H s'->RelV v w'->Q w' s') :
  wpAny (model X.prog X.w) A (getItem (.ref a) u) Q E s:=by
 rcases g with ⟨kvs,k,e,ey,l⟩ | ⟨kvs,k,b,e,ey,eb,l⟩
 ·subst ey
  obtain ⟨z,hd,vs,rel,dd⟩:=ou I.hok e
  obtain ⟨w',hw,rw'⟩:=jV.some_of (v:=v) (o:=valueAt vs k) (by rw [l];exact rel.val k)
  exact wpAny_getItem_of (om ry) dd.mapOf hw (h w' _ (I.tok _) rw')
 ·subst ey
  cases (show u=Value.ref b from ry)
  obtain ⟨z,hd,xs,rel,dd⟩:=qF I.hok e
  obtain ⟨w',hw,rw'⟩:=jV.some_of (v:=v) (o:=(atKey xs k).map (·.2)) (by rw [l];exact rel.val k)
  obtain ⟨p,hp,hp2⟩:=Option.map_eq_some_iff.mp hw
  refine wpAny_getItem_heap (tupleKind_room_in1 hu) (nI I.hok eb) dd hp ?_
  rw [hp2]
  exact h w' _ (I.tok _) rw'
theorem Ld {Q:Value->Shared->Prop}(hu:A.units + 1 < cLine)(I:Inv X pins σ H s)(g:iN H a y o)(ry:RelV y u)(h:∀ s',Inv X pins σ H s'->Q (.bool o.isSome) s') :
  wpAny (model X.prog X.w) A (compareOp .In u (.ref a)) Q E s:=by
 rcases g with ⟨kvs,k,e,ey,l⟩ | ⟨kvs,k,b,e,ey,eb,l⟩
 ·subst ey
  obtain ⟨z,hd,vs,rel,dd⟩:=ou I.hok e
  refine wpAny_in_of (om ry) hd dd.mapOf ?_
  rw [<- (rel.val k).jw,<- l]
  exact h _ (I.tok _)
 ·subst ey
  cases (show u=Value.ref b from ry)
  obtain ⟨z,hd,xs,rel,dd⟩:=qF I.hok e
  refine wpAny_in_heap (tupleKind_room_in1 hu) (nI I.hok eb) hd dd ?_
  have q:=(rel.val k).jw
  rw [Option.isSome_map] at q
  rw [<- q,<- l]
  exact h _ (I.tok _)
theorem Eb {Q:Value->Shared->Prop}(hu:A.units + 1 < cLine)(I:Inv X pins σ H s)(g:iN H a y o)(ry:RelV y u)(h:∀ s',Inv X pins σ H s'->Q (.bool (!o.isSome)) s') :
  wpAny (model X.prog X.w) A (compareOp .NotIn u (.ref a)) Q E s:=by
 rcases g with ⟨kvs,k,e,ey,l⟩ | ⟨kvs,k,b,e,ey,eb,l⟩
 ·subst ey
  obtain ⟨z,hd,vs,rel,dd⟩:=ou I.hok e
  refine wpAny_notIn_of (om ry) hd dd.mapOf ?_
  rw [<- (rel.val k).jw,<- l]
  exact h _ (I.tok _)
 ·subst ey
  cases (show u=Value.ref b from ry)
  obtain ⟨z,hd,xs,rel,dd⟩:=qF I.hok e
  refine wpAny_notIn_heap (tupleKind_room_in1 hu) (nI I.hok eb) hd dd ?_
  have q:=(rel.val k).jw
  rw [Option.isSome_map] at q
  rw [<- q,<- l]
  exact h _ (I.tok _)
theorem rG {h':Heap}{t':Nat}{ob:HO}(I:Inv X pins σ H s)(mu:AV (H a))(hs:Heap.SameBut a s.heap h')(he:∃ q,h'.get? a=some q)(new:bP X.prog X.w (upd H a ob) h' a ob) :
  Inv X pins σ (upd H a ob) { s with heap:=h',toks:=t' } :=
 I.write (x:=a) (e:=a) mu (.inl rfl) (fun b q hb z=>(hs.2 b hb).trans z) he new
theorem Aa {P:Program}{w:World}{H':Hp}{h':Heap}{kvs:List (Key×V)}{vs:List (Key×Value)}(z:kvs.length<=sizeLine)(hd:(a == sysModules)=false)(rel:KV kvs vs)(dd:h'.DictOf (cO P w) a vs) :
  bP P w H' h' a (.dK kvs):=⟨z,hd,vs,rel,dd⟩
theorem AZ {H':Hp}{Q:Unit->Shared->Prop}(hu:A.units + 1 < cLine)(I:Inv X pins σ H s)(g:mO H a y v H')(ry:RelV y u)(rv:RelV v r)(h:∀ s',Inv X pins σ H' s'->Q () s') :
  wpAny (model X.prog X.w) A (setItem (.ref a) u r) Q E s:=by
 rcases g with ⟨kvs,k,e,ey,l,eH⟩ | ⟨kvs,k,b,e,ey,eb,l,eH⟩
 ·subst ey eH
  obtain ⟨z,hd,vs,rel,dd⟩:=CI I.hok e
  have hz:vs.length<=sizeLine:=by rw [<- rel.length];exact z
  have hl:(putK kvs k v).length<=sizeLine:=by have:=kM kvs k v;omega
  refine wpAny_setItem_pairs (hsz:=hz) (om ry) dd fun h' dd' hs=>h _ ?_
  have he:∃ q,h'.get? a=some q:=let ⟨q,_,_,hq,_⟩:=dd';⟨q,hq⟩
  exact rG I (by rw [e];exact True.intro) hs he (Aa hl hd (rel.put k rv) dd')
 ·subst ey eH
  cases (show u=Value.ref b from ry)
  obtain ⟨z,hd,xs,rel,dd⟩:=JV I.hok e
  have hz:xs.length<=sizeLine:=by rw [<- Paired.length rel];exact z
  have hl:(putK kvs k v).length<=sizeLine:=by have:=kM kvs k v;omega
  refine wpAny_setItem_heap (hsz:=hz) (tupleKind_room_in1 hu) (nI I.hok eb) dd fun h' dd' hs=>h _ ?_
  obtain ⟨q,es,ep,hq,h2,h3,h4,_,h5⟩:=dd'
  refine rG I (by rw [e];exact True.intro) hs ⟨q,hq⟩ ⟨hl,hd,_,(rel.put k eb rv).keeps fun c ys ec=>?_,q,es,ep,hq,h2,h3,h4,h5⟩
  rw [au (JC ec e (fun z=>nomatch z))]
  exact ec
end
section
variable {X:Cx}{pins:List (Addr×Obj)}{σ:St}{H:Hp}{s:Shared}{a:Addr}{kvs:List (Key×V)}{k:Key}{u:Value}{A:Around}{E:Value->Shared->Prop}
theorem JN {Q:Value->Shared->Prop}(I:Inv X pins σ H s)(e:Rd H a (.dK kvs))(h:∀ t s',Inv X pins σ H s'->Q (.int kvs.length t) s'):wpAny (model X.prog X.w) A (call (.builtin "len") [.ref a]) Q E s:=by
 obtain ⟨z,hd,vs,rel,dd⟩:=ou I.hok e
 refine call_len_dict hd dd (by rw [<- rel.length];rw [sizeLine_eq] at z;omega) ?_
 rw [<- rel.length]
 exact h _ _ (I.tok _)
end
/-! ### readings and rules -/
theorem wc {X:Cx}{pins:List (Addr×Obj)}{σ:St}{H:Hp}{s:Shared}{a:Addr}{y:V}{o:Option V}(I:Inv X pins σ H s)(g:iN H a y o):s.TypeIs (.ref a) "dict":=by
 rcases g with ⟨kvs,k,e,_,_⟩ | ⟨kvs,k,b,e,_,_,_⟩
 ·obtain ⟨_,_,vs,_,dd⟩:=ou I.hok e
  exact dd.typeIs
 ·obtain ⟨_,_,xs,_,dd⟩:=qF I.hok e
  exact dd.typeIs
section
variable {X:Cx}{o i e value:Expr}{pos pos' tpos:Pos}{td ty tv:TE}
end
/-! ### displays -/
theorem B8 {P:Program}{w:World}{H:Hp}(h:Heap)(hb:sysModules < h.objs.size):bP P w H (h.push { cls:=.type "dict",data:=.dict #[] }) h.objs.size (.dK []) :=
 ⟨Nat.zero_le _,beq_eq_false_iff_ne.mpr (Ne.symm (Nat.ne_of_lt hb)),[],.nil,Heap.DictOf.new h⟩
section
variable {X:Cx}{pos:Pos}
end
def lJ:List (TE×TE)->St->Hp->(List (V×V)->Hp->Prop)->Prop
 | [],_,H,Q=>Q [] H
 | (tk,tv)::r,σ,H,Q=>tk σ H fun x H1=>tv σ H1 fun y H2=>lJ r σ H2 fun ps H3=>Q ((x,y)::ps) H3
abbrev VV:List (V×V)->List (Value×Value)->Prop:=Paired fun p q=>RelV p.1 q.1/\RelV p.2 q.2
def zJ (X:Cx)(pos:Pos)(keys:List (Option Expr))(values:List Expr)(trs:List (TE×TE)):Prop :=
 ∀ (pins:List (Addr×Obj))(s:Shared)(σ:St)(H:Hp)(Q:List (V×V)->Hp->Prop),Inv X pins σ H s->lJ trs σ H Q ->
  wpAny (model X.prog X.w) X.A (evalPairs (pairTrees keys values X.env pos)) (fun vs s'=>∃ ps H',Inv X pins σ H' s'/\VV ps vs/\Q ps H') X.xe s
theorem FP {X:Cx}{pos:Pos}:zJ X pos [] [] []:=fun pins s σ H Q I h=>pairTrees_nil_walk ⟨[],H,I,.nil,h⟩
theorem BY {X:Cx}{pos:Pos}{k v:Expr}{ks:List (Option Expr)}{vs:List Expr}{tk tv:TE}{trs:List (TE×TE)}(hk:PE X k tk)(hv:PE X v tv)(hr:zJ X pos ks vs trs) :
  zJ X pos (some k::ks) (v::vs) ((tk,tv)::trs):=fun pins s σ H Q I h =>
 pairTrees_cons_walk (aG (hk pins s σ H _ I h) fun u s1 ⟨x,H1,I1,rx,q1⟩=>aG (hv pins s1 σ H1 _ I1 q1) fun w2 s2 ⟨y,H2,I2,ry,q2⟩ =>
  aG (hr pins s2 σ H2 _ I2 q2) fun ws s3 ⟨ps,H3,I3,rel,q3⟩=>⟨(x,y)::ps,H3,I3,.cons ⟨rx,ry⟩ rel,q3⟩)
def jS (kvs more:List (Key×V)):List (Key×V):=more.foldl (fun acc kv=>putK acc kv.1 kv.2) kvs
theorem KV.merge:∀ {more:List (Key×V)}{rs:List (Key×Value)}{kvs:List (Key×V)}{vs:List (Key×Value)},KV more rs->KV kvs vs->KV (jS kvs more) (merged vs rs):=by
 intro more rs kvs vs r
 unfold KV at r
 induction r generalizing kvs vs with
 | nil=>intro q;exact q
 | @cons p q ps qs h t ih =>
  intro r0
  have e:KV (putK kvs p.1 p.2) (stored vs q.1 q.2):=by
   have:=r0.put p.1 h.2
   rw [<- h.1];exact this
  exact ih e
theorem mF:∀ (more kvs:List (Key×V)),(jS kvs more).length<=kvs.length + more.length
 | [],kvs=>by show kvs.length<=kvs.length + 0;omega
 | p::r,kvs=>by
  have h1:=mF r (putK kvs p.1 p.2)
  have h2:=kM kvs p.1 p.2
  show (jS (putK kvs p.1 p.2) r).length<=_
  rw [List.length_cons];omega
theorem qd {P:Program}{w:World}:∀ {kvs:List (Key×V)}{ws:List (Value×Value)},VV (kvs.map fun kv=>(kV kv.1,kv.2)) ws->∃ rs,Carries (cO P w) ws rs/\KV kvs rs
 | [],_,r=>by rw [List.map_nil] at r;cases r;exact ⟨[],True.intro,.nil⟩
 | p::kvs,_,r=>by
  rw [List.map_cons] at r
  cases r with
  | @cons a b as bs h t =>
   obtain ⟨rs,c,q⟩:=qd (P:=P) (w:=w) t
   obtain ⟨b1,b2⟩:=b
   exact ⟨(p.1,b2)::rs,⟨om h.1,rfl,c⟩,.cons ⟨rfl,h.2⟩ q⟩
def Jp (trs:List (TE×TE)):TE:=fun σ H Q=>∀ p,H p=none->lJ trs σ (upd H p (.dK [])) fun ps H2=>H2 p=some (.dK [])/\∃ kvs:List (Key×V),ps=kvs.map (fun kv=>(kV kv.1,kv.2))/\kvs.length<=15/\Q (.ref p) (upd H2 p (.dK (jS [] kvs)))
theorem Ey {X:Cx}{pos:Pos}{keys:List (Option Expr)}{values:List Expr}{trs:List (TE×TE)}(h:zJ X pos keys values trs)(hall:keys.all (·.isSome)=true)(hl:keys.length=values.length)(h0:keys≠[])
  (h15:keys.length<=15):PE X (.Dict keys values pos) (Jp trs):=by
 intro pins s σ H Q I q
 have hn:=I.hok.fresh (Nat.le_refl s.heap.objs.size)
 have I1:=I.laid (a:=s.heap.objs.size) (o:=.dK []) (h':=s.heap.push { cls:=.type "dict",data:=.dict #[] }) (t':=s.toks) (fun _ _ q=>Heap.get?_push_of_some _ q) (Nat.le_refl _) (B8 s.heap I.big)
 refine wpAny_Dict_walk (knd:=cO X.prog X.w) hall hl h0 h15 (aG (h pins _ σ _ _ I1 (q _ hn)) fun ws s2 ⟨ps,H2,I2,rel,e,kvs,ep,lk,q2⟩=>?_)
 subst ep
 obtain ⟨rs,c,rk⟩:=qd (P:=X.prog) (w:=X.w) rel
 obtain ⟨z,hd,vs0,r0,dd⟩:=CI I2.hok e
 cases r0
 refine ⟨rs,c,dd,fun h' dd' hs=>⟨.ref s.heap.objs.size,_,?_,rfl,q2⟩⟩
 have hz:(jS [] kvs).length<=sizeLine:=by
  have h1:=mF kvs []
  rw [List.length_nil] at h1
  rw [sizeLine_eq];omega
 have he:∃ q,h'.get? s.heap.objs.size=some q:=let ⟨q,_,_,hq,_⟩:=dd';⟨q,hq⟩
 exact rG I2 (by rw [e];exact True.intro) hs he (Aa hz hd (rk.merge .nil) dd')
/-! ### methods -/
section
variable {X:Cx}{pins:List (Addr×Obj)}{σ:St}{H:Hp}{s:Shared}{a:Addr}{y d:V}{u r:Value}{o:Option V}{A:Around}{E:Value->Shared->Prop}
end
section
variable {X:Cx}{o e f:Expr}{apos cpos:Pos}{td ty tx:TE}
end
/-! ### dict(d): a copy -/
section
variable {X:Cx}{pins:List (Addr×Obj)}{σ:St}{H:Hp}{s:Shared}{a:Addr}{kvs:List (Key×V)}{A:Around}{E:Value->Shared->Prop}
end
section
variable {X:Cx}{pins:List (Addr×Obj)}{σ:St}{H:Hp}{s:Shared}{a:Addr}{y:V}{u:Value}{A:Around}{E:Value->Shared->Prop}
end
end L2
namespace KN
open PySem PySem.W PySem.Calls PyProof.Rows
/-! ### the script -/
theorem qx {P:Params}{h:Heap}:∀ (ns:List Int)(vs:List Value),WellAll P h vs (ns.map WData.int)->IntsAre vs ns:=by
 intro ns
 induction ns with
 | nil =>
  intro vs w
  rw [List.map_nil] at w
  cases w
  exact .nil
 | cons n ns ih =>
  intro vs w
  rw [List.map_cons] at w
  cases w with
  | cons a b =>
   cases a
   exact .cons _ _ (ih _ b)
theorem zy {l:OpenLaw}{n:Nat}(hn:l.most=some n){P:Params}{h:Heap}{args:List WData}{vals:List Value}
  (hpre:l.row.toRowW.claim.pre args=true)(hwl:WellAll P h vals args) :
  ∃ a vs ns,vals=[Value.ref a]/\args=[WData.list (ns.map WData.int)]/\h.get? a=some { cls:=.type "list",data:=.seq vs.toArray }/\IntsAre vs ns/\ns.length<=n:=by
 have hsh:WShape.hasAll [] args [.list .int]=true:=(pre_splitW hpre).1
 have hc:l.pre.holds [] { args:=args }=true:=(pre_splitW hpre).2
 obtain ⟨d,r,rfl,h1,h2⟩:=hasAllW_cons hsh
 obtain rfl:=hasAllW_nil h2
 obtain ⟨xs,rfl,h3⟩:=hasW_list h1
 obtain ⟨ns,rfl⟩:=items_int h3
 have hlen:ns.length<=n:=by
  unfold OpenLaw.pre at hc
  have h4:(WTm.not (.lt (.lit (.int (n:Int))) (.len (.arg 0)))).holds [] { args:=[.list (ns.map .int)] }=true:=by
   have h4:=(holds_andW hc).1
   rw [hn] at h4
   exact h4
  have h5:=condW_of h4 (w_not (w_lt w_lit (w_len_list (w_arg rfl))))
  rw [List.length_map] at h5
  refine Nat.le_of_not_lt fun q=>?_
  have q':(n:Int) < ((ns.length:Nat):Int):=by omega
  first
   | (rw [decide_eq_true q'] at h5;exact absurd h5 (by decide))
   | (simp at h5;omega)
 cases hwl with
 | cons w1 w2 =>
  cases w2
  cases w1 with
  | list ho hall=>exact ⟨_,_,ns,rfl,rfl,ho,qx ns _ hall,hlen⟩
theorem z5 (l:OpenLaw)(args:List WData):l.row.toRowW.claim.post args (.bool true) args=true :=
 postW_of (r:=l.row.toRowW) (X:=(true == true))
  (show WShape.has [] (.bool true) .bool=true by first | rfl | decide | simp [WShape.has,WShape.arms,WShape.armsAll])
  (show (WTm.eq .res (.lit (.bool true))).value [] { args:=args,res:=some (.bool true),after:=args }=some (.bool (true == true)) from w_eq_bool (w_res rfl) w_lit) rfl
/-! ### the attachment: holds_open's last premise (the goal 'hc' behind k_head) from a wpAny of the law's body -/
theorem wg {l:OpenLaw}{n:Nat}{q:Program}{loose:List Str}{XP:(Str->Option Value)->Heap->Prop}{YP:World->Heap->Prop}{d:DefRec}
  (hn:l.most=some n)(hdf:d.params.defaults=[])
  (call:∀ (w:World)(s₀ s₁:Shared)(mg mb:Str->Option Value)(fa:Addr)(o:Obj)(pm cd doc:Value)(a:Addr)(vs:List Value)(ns:List Int),
   Ground q loose [] XP w s₀ mg mb s₁.heap->YP w s₁.heap ->
   s₁.heap.get? fa=some o->o.data=.func (docDef d.name d.params d.body d.scope pm cd doc)->s₁.heap.CodeRec cd d.name->mg d.name=some (.ref fa) ->
   s₁.heap.get? a=some { cls:=.type "list",data:=.seq vs.toArray }->IntsAre vs ns->ns.length<=n->s₁.gens=#[] ->
   codeAny (model l.prog w) callerA (.call (.ref fa) ⟨[.ref a],[]⟩) (fun r s'=>r=.ok (.ret (.bool true))/\OldK s₁.heap s'.heap/\s'.os=s₁.os/\AllBare s'.gens) s₁) :
  WalkO q loose XP YP l.row.toRowW d [] (fun f vs=>PySem.call f vs):=by
 intro w s₀ s₁ mg mb G Y fa o pm cd doc dV kV ho hd hcd hD hmg hg args vals as hpre hlay hrd hwl hlo
 obtain rfl:dV=.none:=Dflts.none hD hdf
 obtain rfl:kV=.none:=Dflts.noKw hD
 obtain ⟨a,vs,ns,rfl,rfl,hobj,hints,hlen⟩:=zy hn hpre hwl
 refine enter_call (codeAny_mono (call w s₀ s₁ mg mb fa o pm cd doc a vs ns G Y ho (fd_plain hd) hcd hmg hobj hints hlen hg) fun r s' hq=>?_)
 obtain ⟨rfl,h2,h3,h4⟩:=hq
 exact ⟨.inl ⟨.bool true,.bool true,[],rfl,fun _=>rfl,.bool true,z5 l _,fun _=>⟨List.Pairwise.nil,fun _ hm=>(nomatch hm)⟩⟩,h2,h3,h4⟩
/-! ### rules over ANY heap (no ledger) from facts about the written part K: the library's own take a ledger (News) for what they write -/
section
variable {prog:Program}{w:World}{A:Around}{E:Value->Shared->Prop}{s:Shared}{K:Frag}
/-! the whole heap as the ledger: makes every rule that writes through a ledger a rule over any heap -/
end
end KN
namespace L2
open PySem PySem.Spec PyProof.Rows
theorem tK:∀ {vs:List Value}{ns:List Int},IntsAre vs ns->Vals (ns.map V.int) vs
 | _,_,.nil=>.nil
 | _,_,.cons n t h=>.cons ⟨t,rfl⟩ (tK h)
def Ca (H:Hp):Prop:=∀ b,H b=none\/∃ o xs,H b=some (.fM o (.lst xs))
end L2
namespace L2
open PySem PySem.Spec PyProof.Rows
end L2
/- THE LAST THEOREM (shape;LID,My.* are yours):
   My.Adr: a structure of the addresses that your layer names (classes,functions);My.Txt K t: a structure (Prop) of the equations over K;
   My.txt_mk:{K} {implicit addresses ..}(e1:nsIn K mainGlobals "law"=some (some (.ref f)))(e2:K.lookup f=some ⟨oc,od,.func (fnOf "law" "law" params body scope dV kV doc pm an cdv ct),sl⟩)(e3:codeIn K cdv "law"=true) ..:∃ t,My.Txt K t
set_option maxRecDepth 100000 in
set_option maxHeartbeats 0 in
theorem PySem.Challenge.cw_LID_holds : PySem.Challenge.rw_LID.Holds := by
 w_on;o_law;k_head;(case hw=>w_witness2)
 k_fill
 refine L2.walk_of (l:=PySem.Challenge.rw_LID) (n:=63) (k:=40) (x:="script") (CX:=fun w=>..) (sp:=fun _=>My.sp_law) rfl (by decide) rfl ⟨rfl,by decide,by decide⟩ (fun w h Y=>PySem.W.kIn_of Y) ?F ?S ?C
 case F =>
  intro w mg fa h KX G hmg
  have T:∃ t,My.Txt (L2.KOf KX) t:=by
   dsimp only [L2.KOf]                          -- K must stand as «<heap const> w.params» for k_is
   refine' My.txt_mk ?e1 ?e2 ?e3 ..
   (case e1=>PySem.W.k_is)                    -- in the order: a name -> its address -> its object -> its parts
   (case e2=>PySem.W.k_is)
   ..
  obtain ⟨t,T⟩:=T
  have e0:=hmg.symm.trans (PySem.W.mg_of KX G T.law)
  cases e0                                       -- fa is the law's own address
  exact ⟨_,fun s u=>.of_eq rfl,fun base kb nb=>My.law_fn T kb nb⟩     -- if «.of_eq rfl» comes too early: refine' ⟨_,?b,fun base kb nb=>My.law_fn T kb nb⟩;exact fun s u=>.of_eq rfl
 case S=>exact fun w H a ns hl hO hS=>..
 case C=>exact ..
(the tactic k_is has no namespace: write k_is) -/
/-! SHORT WORDS over the layer: a def of the text,its body,what a loop and a test want. -/
namespace L2
open PySem PySem.Spec PyProof.Rows
/-! ### the text by places -/
def aM (s:Stmt):Arguments:=match s with
 | .FunctionDef _ a _ _ _ _ _ _ _ _=>a
 | _=>{ posonlyargs:=[],args:=[],vararg:=none,kwonlyargs:=[],kw_defaults:=[],kwarg:=none,defaults:=[] }
def aH (s:Stmt):List Stmt:=match s with
 | .FunctionDef _ _ b _ _ _ _ _ _ _=>b
 | _=>[]
def ai (s:Stmt):Scope:=match s with
 | .FunctionDef _ _ _ _ _ _ sc _ _ _=>sc
 | _=>{ kind:=.function,names:=[],isGenerator:=false,isCoroutine:=false }
/-! ### no exception leaves a def -/
abbrev E0:XK:=fun _ _ _=>False
/-! ### a def (or method) of the text as it stands behind the top -/
structure dh (K:PySem.W.Frag) (x qual:Str)(st:Stmt)(f:Addr)(fd:FuncData):Prop where
 ex:∃ (oc:Value)(od:Option Addr)(kV doc pm:Value)(an:Option Addr)(cdv ct:Value)(osl:Array (Option Value)),
  fd=PySem.W.fnOf x qual (aM st) (aH st) (ai st) .none kV doc pm an cdv ct/\K.lookup f=some ⟨oc,od,.func fd,osl⟩/\PySem.W.codeIn K cdv qual=true
 kp:PySem.W.keepIn K (.ref f)=true
section
variable {P:Program}{w:World}{K:PySem.W.Frag}{mg:Str->Option Value}{base:Heap}
theorem dh.binds {x qual:Str}{st:Stmt}{f:Addr}{fd:FuncData}{ps:List Str}(F:dh K x qual st f fd)
  (h:∀ (kV doc pm:Value)(an:Option Addr)(cdv ct:Value)(us:List Value),us.length=ps.length->bindArgs (PySem.W.fnOf x qual (aM st) (aH st) (ai st) .none kV doc pm an cdv ct) ⟨us,[]⟩=pure (ps.zip us)):Binds K fd ps []:=by
 obtain ⟨oc,od,kV,doc,pm,an,cdv,ct,osl,rfl,lk,hcd⟩:=F.ex
 exact .all (h kV doc pm an cdv ct)
theorem bC {x qual:Str}{st:Stmt}{f:Addr}{oc:Value}{od an:Option Addr}{osl:Array (Option Value)}{kV doc pm cdv ct:Value}(l:K.lookup f=some ⟨oc,od,.func (PySem.W.fnOf x qual (aM st) (aH st) (ai st) .none kV doc pm an cdv ct),osl⟩)
  (c:PySem.W.codeIn K cdv qual=true)(k:PySem.W.keepIn K (.ref f)=true):dh K x qual st f (PySem.W.fnOf x qual (aM st) (aH st) (ai st) .none kV doc pm an cdv ct):=⟨⟨oc,od,kV,doc,pm,an,cdv,ct,osl,rfl,l,c⟩,k⟩
end
/-! ### expressions in short: the name that stands in the i-th slot -/
section
variable {X:Cx}
theorem Am:cK X (.builtin "len") (fun xs H Q=>∃ a kvs,xs=[V.ref a]/\H a=some (.dK kvs)/\Q (.int kvs.length) H):=by
 intro pins s σ H xs us Q I r h
 obtain ⟨a,kvs,rfl,ha,q⟩:=h
 obtain ⟨u,rfl,ru⟩:=vals1 r
 cases ru
 exact JN I (.inl ha) fun t s' I'=>⟨.int kvs.length,H,I',⟨t,rfl⟩,q⟩
end
/-! ### tests -/
theorem mQ {A B:Prop}(h:B):if false=true then A else B:=by
 rw [if_neg Bool.false_ne_true]
 exact h
theorem ni {A B:Prop}(h:A):if true=true then A else B:=by
 rw [if_pos rfl]
 exact h
/-! ### heaps -/
def aj (H H':Hp):Prop:=∀ b o,H b=some o->H' b=some o
theorem aj.refl (H:Hp):aj H H:=fun _ _ h=>h
theorem aj.trans {H H1 H2:Hp}(a:aj H H1)(b:aj H1 H2):aj H H2:=fun c o h=>b c o (a c o h)
theorem aj.free {H H':Hp}(e:aj H H'){l:Addr}(h:H' l=Option.none):H l=Option.none:=by
 cases q:H l with
 | none=>rfl
 | some o =>
  rw [e l o q] at h
  cases h
/-! ### a dict's pairs: keys that differ -/
section
variable {κ:Type} [DecidableEq κ]
end
end L2
namespace L2
open PySem PySem.Spec PyProof.Rows
/-! ### a comprehension's block: what it captures -/
def b6 (cells:List (Str×Addr)):List (Str×NameKind)->List (Str×Addr)->List (Str×Addr)
 | [],acc=>acc
 | (n,k)::r,acc=>b6 cells r (if (k == NameKind.free)=true then (n,(cells.lookup n).getD 0)::acc else acc)
theorem kH {cells:List (Str×Addr)}{y:Str}{c:Addr}:∀ (names:List (Str×NameKind))(acc:List (Str×Addr)),(b6 cells names acc).lookup y=some c ->
  ((y,NameKind.free)∈names/\(cells.lookup y).getD 0=c)\/acc.lookup y=some c
 | [],_,h=>.inr h
 | (n,k)::r,acc,h=>by
  rcases kH r _ h with ⟨a,b⟩ | z
  ·exact .inl ⟨List.mem_cons_of_mem _ a,b⟩
  ·clear h
   by_cases e:(k == NameKind.free)=true
   ·rw [if_pos e] at z
    rw [List.lookup_cons] at z
    cases q:(y == n) with
    | true =>
     rw [q] at z
     have ek:k=NameKind.free:=by simpa using e
     have en:y=n:=by simpa using q
     subst ek en
     exact .inl ⟨List.mem_cons_self,Option.some.inj z⟩
    | false =>
     rw [q] at z
     exact .inr z
   ·rw [if_neg e] at z
    exact .inr z
theorem fm {cells:List (Str×Addr)}{y:Str}:∀ (names:List (Str×NameKind))(acc:List (Str×Addr)),((y,NameKind.free)∈names\/∃ c,acc.lookup y=some c)->∃ c,(b6 cells names acc).lookup y=some c
 | [],_,h=>by
  rcases h with h | h
  ·cases h
  ·exact h
 | (n,k)::r,acc,h=>by
  refine fm r _ ?_
  rcases h with h | ⟨c,h⟩
  ·rcases List.mem_cons.mp h with e | h
   ·cases e
    refine .inr ⟨(cells.lookup y).getD 0,?_⟩
    rw [if_pos (by decide),List.lookup_cons,beq_self_eq_true]
   ·exact .inl h
  ·by_cases e:(k == NameKind.free)=true
   ·rw [if_pos e,List.lookup_cons]
    cases q:(y == n) with
    | true=>exact .inr ⟨_,rfl⟩
    | false=>exact .inr ⟨c,h⟩
   ·rw [if_neg e]
    exact .inr ⟨c,h⟩
theorem ko {scope:Scope}{env:Env}(h:∀ n,(n,NameKind.free)∈scope.names->∃ c,env.cells.lookup n=some c):closureFor scope env=pure (b6 env.cells scope.names []):=by
 have key:∀ (names:List (Str×NameKind))(cs:List (Str×Addr)),(∀ n,(n,NameKind.free)∈names->∃ c,env.cells.lookup n=some c) ->
   (forIn names cs fun (x:Str×NameKind)(r:List (Str×Addr))=>(if (x.2 == NameKind.free)=true then (cellOf env x.1 >>= fun a=>pure (ForInStep.yield ((x.1,a)::r))) else pure (ForInStep.yield r):Sem _))=pure (b6 env.cells names cs):=by
  intro names
  induction names with
  | nil=>intro cs _;rfl
  | cons p r ih =>
   intro cs hp
   obtain ⟨n,k⟩:=p
   rw [List.forIn_cons]
   by_cases e:(k == NameKind.free)=true
   ·have ek:k=NameKind.free:=by simpa using e
    obtain ⟨c,hc⟩:=hp n (by rw [ek];exact List.mem_cons_self)
    rw [if_pos e]
    have e2:cellOf env n=pure c:=by unfold cellOf;rw [hc]
    show ((cellOf env n >>= fun a=>pure (ForInStep.yield ((n,a)::cs))) >>= _)=_
    rw [e2]
    show (forIn r ((n,c)::cs) _:Sem _)=_
    rw [ih _ fun n' h'=>hp n' (List.mem_cons_of_mem _ h')]
    show _=pure (b6 env.cells r (if (k == NameKind.free)=true then (n,(env.cells.lookup n).getD 0)::cs else cs))
    rw [if_pos e,hc]
    rfl
   ·rw [if_neg e]
    show (forIn r cs _:Sem _)=_
    rw [ih _ fun n' h'=>hp n' (List.mem_cons_of_mem _ h')]
    show _=pure (b6 env.cells r (if (k == NameKind.free)=true then (n,(env.cells.lookup n).getD 0)::cs else cs))
    rw [if_neg e]
 unfold closureFor
 have e:=key scope.names [] h
 show ((forIn scope.names [] fun (x:Str×NameKind)(r:List (Str×Addr))=>(if (x.2 == NameKind.free)=true then (cellOf env x.1 >>= fun a=>pure (ForInStep.yield ((x.1,a)::r))) else pure (ForInStep.yield r):Sem _)) >>= fun r=>pure r)=_
 rw [e]
 rfl
end L2
namespace L2
open PySem PySem.Spec PyProof.Rows
theorem dB {α:Type}{y:Str}{k:α}:∀ {l:List (Str×α)},l.lookup y=some k->(y,k)∈l
 | [],h=>by cases h
 | (n,j)::r,h=>by
  rw [List.lookup_cons] at h
  cases q:(y == n) with
  | true =>
   rw [q] at h
   have en:y=n:=by simpa using q
   cases h
   rw [en]
   exact List.mem_cons_self
  | false =>
   rw [q] at h
   exact List.mem_cons_of_mem _ (dB h)
theorem l6 {env:Env}{x:Str}{k:NameKind}:∀ {names:List (Str×NameKind)},names.lookup x=some k ->
  (relabel { (default:Scope) with names:=names } env).names.lookup x=some k\/(k=.free/\(relabel { (default:Scope) with names:=names } env).names.lookup x=some .cell)
 | [],h=>by cases h
 | (n,j)::r,h=>by
  have ih:=@l6 env x k r
  rw [List.lookup_cons] at h
  show List.lookup x ((if (j == NameKind.free && env.scope.kind == .function && env.kindOf n == some .cell)=true then (n,NameKind.cell) else (n,j))::_)=_\/(_/\List.lookup x ((if (j == NameKind.free && env.scope.kind == .function && env.kindOf n == some .cell)=true then (n,NameKind.cell) else (n,j))::_)=_)
  cases q:(x == n) with
  | true =>
   rw [q] at h
   cases h
   by_cases e:(k == NameKind.free && env.scope.kind == .function && env.kindOf n == some .cell)=true
   ·rw [if_pos e,List.lookup_cons,q]
    refine .inr ⟨?_,rfl⟩
    have z:=(Bool.and_eq_true _ _ ▸ (Bool.and_eq_true _ _ ▸ e).1:_/\_).1
    simpa using z
   ·rw [if_neg e,List.lookup_cons,q]
    exact .inl rfl
  | false =>
   rw [q] at h
   by_cases e:(j == NameKind.free && env.scope.kind == .function && env.kindOf n == some .cell)=true
   ·rw [if_pos e,List.lookup_cons,q]
    exact ih h
   ·rw [if_neg e,List.lookup_cons,q]
    exact ih h
theorem pV {env:Env}{x:Str}{k:NameKind}:∀ {names:List (Str×NameKind)},(relabel { (default:Scope) with names:=names } env).names.lookup x=some k->names.lookup x=some k\/(names.lookup x=some .free/\k=.cell)
 | [],h=>by cases h
 | (n,j)::r,h=>by
  have ih:=@pV env x k r
  have h:List.lookup x ((if (j == NameKind.free && env.scope.kind == .function && env.kindOf n == some .cell)=true then (n,NameKind.cell) else (n,j))::(relabel { (default:Scope) with names:=r } env).names)=some k:=h
  rw [List.lookup_cons]
  cases q:(x == n) with
  | true =>
   by_cases e:(j == NameKind.free && env.scope.kind == .function && env.kindOf n == some .cell)=true
   ·rw [if_pos e,List.lookup_cons,q] at h
    cases h
    have z:=(Bool.and_eq_true _ _ ▸ (Bool.and_eq_true _ _ ▸ e).1:_/\_).1
    exact .inr ⟨by simpa using z,rfl⟩
   ·rw [if_neg e,List.lookup_cons,q] at h
    exact .inl h
  | false =>
   by_cases e:(j == NameKind.free && env.scope.kind == .function && env.kindOf n == some .cell)=true
   ·rw [if_pos e,List.lookup_cons,q] at h
    exact ih h
   ·rw [if_neg e,List.lookup_cons,q] at h
    exact ih h
/-! ### the block's context -/
def caps (ix:List Nat)(σ:St):St:=ix.map fun i=>(σ[i]?).join
def Cx.block (X:Cx)(scope:Scope)(C:Addr)(NB:List Str)(s2:Shared)(H2:Hp)(fp:List Addr):Cx :=
 { X with N:=NB,s₀:=s2,H₀:=H2,env:=compEnvC scope (b6 X.env.cells scope.names []) C X.env,outer:=X.stack,ex:=fp,fn:=fun _=>false,pn:=[],xe:=fun _ _=>False }
def mV (X:Cx)(ifs:List Expr)(t:TT):Prop :=
 ∀ (pins:List (Addr×Obj))(s:Shared)(σ:St)(H:Hp)(Q:Bool->Hp->Prop),Inv X pins σ H s->t σ H Q ->
  wpAny (model X.prog X.w) X.A (forIn ifs true fun c r=>if r=true then do let ok <- isTrue c X.env (eval c X.env);pure (ForInStep.yield ok) else pure (ForInStep.yield r)) (TP X pins σ Q) X.xe s
def Lc:TT:=fun _ H Q=>Q true H
theorem Fy {X:Cx}:mV X [] Lc:=fun _ _ _ H _ I h=>wpAny_tests_nil ⟨H,I,h⟩
theorem FH {X:Cx}{c:Expr}{t:TT}(h:PT X c t):mV X [c] t:=fun pins s σ H Q I hw=>wpAny_tests_one (h pins s σ H Q I hw)
abbrev d8 (its:List Value) (n:Nat):Obj:={ cls:=.type "list",data:=.seq its.toArray n }
section
variable {X:Cx}{scope:Scope}{x:Str}{NB:List Str}{ix:List Nat}{pins:List (Addr×Obj)}{σ:St}{H2:Hp}{s2:Shared}{fp:List Addr}
theorem vc (ix:List Nat)(σ:St):(caps ix σ).length=ix.length:=by unfold caps;rw [List.length_map]
end
end L2
namespace L2
open PySem PySem.Spec PyProof.Rows
section
variable {X:Cx}{scope:Scope}{x:Str}{NB:List Str}{ix:List Nat}{pins:List (Addr×Obj)}{σ:St}{H2:Hp}{s2:Shared}{fp:List Addr}
theorem zc {C D:Addr}{H':Hp}{s4:Shared}{σB:St}{its:List Value}{n:Nat}{ys:List V}(I2:Inv X pins σ H2 s2)(f2:∀ b∈fp,eV X pins H2 b)(hD:s2.heap.objs.size<=D)
  (I4:Inv (X.block scope C NB s2 H2 fp) [(D,d8 its n)] σB H' s4)(rv:Vals ys its)(hz:ys.length<=sizeLine):Inv X pins σ (upd H' D (.lst ys)) s4:=by
 have hp:=I4.pin (D,d8 its n) (by show _∈[]++[(D,d8 its n)];simp)
 have hfree:H' D=none:=hp.2.1
 have mS:∀ b o,s2.heap.get? b=some o->b≠D:=fun b o e=>Nat.ne_of_lt (Nat.lt_of_lt_of_le (Heap.lt_size e) hD)
 have neT:∀ b o,H2 b=some o->b≠D:=fun b o e=>Nat.ne_of_lt (Nat.lt_of_lt_of_le (I2.hok.lt e) hD)
 have u:Un (frs X.stack) fp H2 H' s2.heap s4.heap:=I4.base
 refine I2.xY (ch:=fp) I4.os ⟨u.keep,u.slot,fun b o e n hx=>?_,u.there,fun b xs e=>?_,fun b o v e=>?_,fun b ps e=>?_⟩ (fun b o e=>?_) I4.bare fun b hb=>?_
 ·rw [au (mS b o e)]
  exact u.free b o e n hx
 ·rw [au (neT b _ e)]
  exact u.tups b xs e
 ·rw [au (neT b _ e)]
  exact u.jy b o v e
 ·rw [au (neT b _ e)]
  exact u.j5 b ps e
 ·by_cases hb:b=D
  ·subst hb
   rw [aL] at e
   cases e
   exact ⟨hz,its,n,rv,hp.1⟩
  ·rw [au hb] at e
   have ne:∀ {c:Addr}{w:HO},H' c=some w->c≠D:=fun {c w} q z=>by rw [z,hfree] at q;cases q
   exact (I4.hok b o e).stay (fun _ _ _ q=>q) (fun c q=>by rw [au (ne q)];exact q) fun c xs q=>by rw [au (ne q)];exact q
 ·obtain ⟨_,g1,g2,g3,g4,g5⟩:=f2 b hb
  exact ⟨g3,g1,g4,g5⟩
end
end L2
namespace L2
open PySem PySem.Spec PyProof.Rows PySem.W
def mj (a C:Addr)(dd:Option Addr):Heap->Prop:=fun h=>∃ (t0:Addr)(v1 v2 v3 v4 v5:Value)(sl:Array (Option Value)),h.get? a=some ⟨.ref C,dd,.fields #[.ref t0,v1,v2,v3,v4,v5],sl⟩
theorem zX {P:Program}{w:World}{H:Hp}{h:Heap}{a C:Addr}{dd:Option Addr}(x:mj a C dd h):bP P w H h a (.ext (mj a C dd)):=by
 obtain ⟨t0,v1,v2,v3,v4,v5,sl,e⟩:=id x
 exact ⟨x,⟨_,e⟩,fun h1 h2 ⟨t0,v1,v2,v3,v4,v5,sl,e⟩ k=>⟨t0,v1,v2,v3,v4,v5,sl,k _ e⟩⟩
def six (newId:String)(l:List (Option Value)):Bool:=l.length == 6 && (match (l[4]?:Option (Option Value)) with | some (some (Value.builtin n))=>n == newId | _=>false)
def wV (K:Frag)(C:Addr)(bmB:List Value):List Value->Bool
 | .ref C'::bm=>C' == C && tailIn K bmB bm
 | _=>false
def gH (K:Frag)(C:Addr)(bmB:List Value)(newId:String)(r:Option Value):Bool:=match K.lookup C with
 | some ob=>(match ob.cls with | .type t=>t == "type" | _=>false) && (match ob.data with
  | .cls cd=>(wV K C bmB cd.mro && six newId ob.slots.toList) && !cd.hasDel && (nsOkIn K cd.ns && nsIn K cd.ns "__init__" == some r)
  | _=>false)
 | none=>false
theorem Gi {newId:String}{l:List (Option Value)}(h:six newId l=true):∃ k0 k1 k2 k3 k5,l=[k0,k1,k2,k3,some (.builtin newId),k5]:=by
 unfold six at h
 rw [Bool.and_eq_true] at h
 obtain ⟨h1,h2⟩:=h
 have h1:l.length=6:=eq_of_beq h1
 rcases l with _ | ⟨k0,_ | ⟨k1,_ | ⟨k2,_ | ⟨k3,_ | ⟨k4,_ | ⟨k5,_ | ⟨k6,l⟩⟩⟩⟩⟩⟩⟩
 case cons.cons.cons.cons.cons.cons.nil =>
  cases k4 with
  | none=>cases h2
  | some v =>
   cases v with
   | builtin n=>exact ⟨k0,k1,k2,k3,k5,by rw [show n=newId from eq_of_beq h2]⟩
   | _=>cases h2
 case cons.cons.cons.cons.cons.cons.cons=>cases h1
 all_goals cases h1
theorem yg {K:Frag}{C:Addr}{bmB l:List Value}(h:wV K C bmB l=true):∃ bm,l=.ref C::bm/\tailIn K bmB bm=true:=by
 cases l with
 | nil=>cases h
 | cons v bm =>
  cases v with
  | ref a =>
   have h:(a == C && tailIn K bmB bm)=true:=h
   rw [Bool.and_eq_true] at h
   exact ⟨bm,by rw [show a=C from eq_of_beq h.1],h.2⟩
  | _=>cases h
structure Lj (C:Addr)(bmB:List Value)(newId:String)(r:Option Value)(h:Heap):Prop where
 obj:∃ bm N nm q bs hdct sn sub ab col dd k0 k1 k2 k3 k5 mN,h.get? C=some (excClassObj nm q C N bs bm hdct sn sub ab col dd k0 k1 k2 k3 k5 newId)/\h.Ns N mN/\mN "__init__"=r/\OwnTail h bmB bm
theorem yL {K:Frag}{h:Heap}{N:Addr}{mg:Str->Option Value}{n:Str}{r:Option Value}(X:K.In h)(G:h.Ns N mg)(e:nsIn K N n=some r):mg n=r:=by
 obtain ⟨o,es,ep,ho,hd,_,hf⟩:=G
 unfold nsIn at e
 split at e
 ·rename_i c d es' n' sl q
  have z:=X _ _ q
  rw [ho] at z
  cases z
  cases hd
  split at e
  ·rename_i en he
   rw [<- hf]
   unfold nsFind findBy
   rw [<- Array.find?_toList,he]
   first
    | (cases e;rfl)
    | (split at e <;> cases e <;> rfl)
  ·rename_i he
   rw [<- hf]
   unfold nsFind findBy
   rw [<- Array.find?_toList,he]
   split at e
   ·cases e
   ·cases e
    rfl
 ·cases e
theorem Fc {K:Frag}{h:Heap}{C:Addr}{bmB:List Value}{newId:String}{r:Option Value}(X:K.In h)(q:gH K C bmB newId r=true):Lj C bmB newId r h:=by
 unfold gH at q
 cases ho:K.lookup C with
 | none =>
  rw [ho] at q
  cases q
 | some ob =>
  rw [ho] at q
  obtain ⟨cls,dd,data,sl⟩:=ob
  dsimp only at q
  rw [Bool.and_eq_true] at q
  obtain ⟨q0,q⟩:=q
  have hc:cls=.type "type":=by
   cases cls with
   | type t=>exact congrArg Value.type (eq_of_beq q0)
   | _=>cases q0
  subst hc
  cases data with
  | cls cd =>
   dsimp only at q
   rw [Bool.and_eq_true,Bool.and_eq_true,Bool.and_eq_true,Bool.and_eq_true] at q
   obtain ⟨⟨⟨q1,q2⟩,hdel⟩,hok,hni⟩:=q
   obtain ⟨bm,hm,ht⟩:=yg q1
   obtain ⟨l⟩:=sl
   obtain ⟨k0,k1,k2,k3,k5,hs⟩:=Gi q2
   have hs:l=_:=hs
   obtain ⟨nm,bs,mro,ns,qn,hd,sn,sub,ab,col,del⟩:=cd
   dsimp only at hm hdel hok hni
   have hdel:del=false:=by cases del <;> first | rfl | cases hdel
   have hni:=eq_of_beq hni
   subst hm hdel hs
   have G:h.Ns ns (h.nsMap ns):=.of_isNs (isNs_of_in X hok)
   exact ⟨bm,ns,nm,qn,bs,hd,sn,sub,ab,col,dd,k0,k1,k2,k3,k5,_,X _ _ ho,G,yL X G hni,tail_of_in X ht⟩
  | _=>cases q
theorem BL {P:Program}{w:World}{H:Hp}{h:Heap}{a:Addr}{o:HO}(x:bP P w H h a o):∃ ob,h.get? a=some ob:=by
 cases o with
 | lst xs=>obtain ⟨_,_,_,_,e⟩:=x;exact ⟨_,e⟩
 | tup xs=>obtain ⟨_,_,_,ob,e,_⟩:=x;exact ⟨_,e⟩
 | dK kvs=>obtain ⟨_,_,_,_,ob,_,_,e,_⟩:=x;exact ⟨_,e⟩
 | dT kvs=>obtain ⟨_,_,_,_,ob,_,_,e,_⟩:=x;exact ⟨_,e⟩
 | set S n=>obtain ⟨ob,_,_,_,e,_⟩:=x;exact ⟨_,e⟩
 | ins C dx fs=>obtain ⟨_,_,_,e,_⟩:=x;exact ⟨_,e⟩
 | own y=>exact x
 | xd fs=>obtain ⟨_,⟨od,_,_,e,_⟩,_⟩:=x;exact ⟨_,e⟩
 | oN lo hi=>obtain ⟨_,_,_,e⟩:=x;exact ⟨_,e⟩
 | fM ob u=>obtain ⟨e,_⟩:=x;exact ⟨_,e⟩
 | sJ ps=>exact ⟨_,x⟩
 | met f y=>exact ⟨_,x⟩
 | ext φ=>obtain ⟨_,e,_⟩:=x;exact e
section
variable {X:Cx}{pins:List (Addr×Obj)}{σ:St}{H:Hp}{s:Shared}{h':Heap}
theorem Inv.jL (I:Inv X pins σ H s){a:Addr}(hn:s.heap.get? a=none):H a=none:=by
 cases z:H a with
 | none=>rfl
 | some o =>
  obtain ⟨ob,e⟩:=BL (I.hok a o z)
  rw [hn] at e
  cases e
theorem Inv.x6 {a:Addr}{o:HO}{t':Nat}(I:Inv X pins σ H s)(k:∀ b u,s.heap.get? b=some u->h'.get? b=some u)(hn:s.heap.get? a=none)(new:bP X.prog X.w (upd H a o) h' a o) :
  Inv X pins σ (upd H a o) { s with heap:=h',toks:=t' }:=by
 have hf:=I.jL hn
 have neA:∀ b u,s.heap.get? b=some u->b≠a:=fun b u e z=>by rw [z,hn] at e;cases e
 have neT:∀ b u,H b=some u->b≠a:=fun b u e z=>by rw [z,hf] at e;cases e
 refine I.un ⟨fun b u e _ _ _=>k b u e,fun b u e _ _ _=>⟨u.slots,k b u e⟩,fun b u e n _=>by rw [au (neA b u e)];exact n,fun b u e _=>⟨u,k b u e⟩,fun b xs e=>by rw [au (neT b _ e)];exact e,
  fun b u v e=>by rw [au (neT b _ e)];exact e,fun b ps e=>⟨#[],by rw [au (neT b _ e),e];simp⟩⟩ fun b u e=>?_
 by_cases hb:b=a
 ·subst hb
  rw [aL] at e
  cases e
  exact new
 ·rw [au hb] at e
  exact (I.hok b u e).stay (fun c v _ q=>k c v q) (fun c q=>by rw [au (neT c _ q)];exact q) fun c xs q=>by rw [au (neT c _ q)];exact q
end
abbrev sQ:List Value:=[.type "ValueError",.type "Exception",.type "BaseException",.type "object"]
section
variable {X:Cx}{x:Str}{p pos:Pos}{e:Expr}{es:List Expr}{t:TA}{C:Addr}
variable {CX:ku}{k:Nat}{f:Addr}{fd:FuncData}{ps:List Str}{sp:Sp}{E:XK}
end
end L2
namespace L2
open PySem PySem.Spec PyProof.Rows
section
variable {X:Cx}
theorem xh:∀ {xs:List V}{us:List Value},Vals xs us->∀ (i:Nat)(u:Value),us[i]?=some u->∃ x,xs[i]?=some x/\RelV x u
 | _,_,.nil,i,u,h=>by cases h
 | _,_,.cons h r,0,u,e=>by
  cases e
  exact ⟨_,rfl,h⟩
 | _,_,.cons h r,i + 1,u,e=>xh r i u e
end
end L2
namespace L2
open PySem PySem.Spec PyProof.Rows PySem.SeqAt PySem.W
mutual
inductive kq (K:PySem.W.Frag)(H:Hp):V->PyData->Prop
 | br:kq K H .br .none
 | bl (b:Bool):kq K H (.bl b) (.bool b)
 | int (i:Int):kq K H (.int i) (.int i)
 | str (x:Str):kq K H (.str x) (.str x)
 | lst {a:Addr}{xs:List V}{ds:List PyData}:cu K H a xs->pJ K H xs ds->kq K H (.ref a) (.list ds)
 | tup {a:Addr}{xs:List V}{ds:List PyData}:cB K H a xs->pJ K H xs ds->kq K H (.ref a) (.tuple ds)
inductive pJ (K:PySem.W.Frag)(H:Hp):List V->List PyData->Prop
 | nil:pJ K H [] []
 | cons {x:V}{d:PyData}{xs:List V}{ds:List PyData}:kq K H x d->pJ K H xs ds->pJ K H (x::xs) (d::ds)
end
section
variable {X:Cx}{pins:List (Addr×Obj)}{σ:St}{H:Hp}{s:Shared}
mutual
theorem Inv.reads (I:Inv X pins σ H s):∀ {v:V}{d:PyData}{u:Value},kq X.K H v d->RelV v u->∃ as,Reads s.heap u d as
 | _,_,_,.br,r=>by cases r;exact ⟨_,.none⟩
 | _,_,_,.bl b,r=>by cases r;exact ⟨_,.bool b⟩
 | _,_,_,.int i,r=>by obtain ⟨t,rfl⟩:=r;exact ⟨_,.int i t⟩
 | _,_,_,.str x,r=>by obtain ⟨t,rfl⟩:=r;exact ⟨_,.str x t⟩
 | _,_,_,.lst hq hs,r=>by
  cases r
  obtain ⟨its,rv,p,_⟩:=I.list hq
  obtain ⟨as,ra⟩:=I.readsAll hs rv
  obtain ⟨o,ho,hc,n,hd⟩:=p.isList
  exact ⟨_,.list ho hc hd (by simpa using ra)⟩
 | _,_,_,.tup hq hs,r=>by
  cases r
  obtain ⟨its,rv,p,_⟩:=I.tuple hq
  obtain ⟨as,ra⟩:=I.readsAll hs rv
  obtain ⟨o,ho,hc,n,hd⟩:=(show s.heap.IsTuple _ its.toArray from p)
  exact ⟨_,.tuple ho hc hd (by simpa using ra)⟩
theorem Inv.readsAll (I:Inv X pins σ H s):∀ {vs:List V}{ds:List PyData}{us:List Value},pJ X.K H vs ds->Vals vs us->∃ as,ReadsAll s.heap us ds as
 | _,_,_,.nil,r=>by cases r;exact ⟨_,.nil⟩
 | _,_,_,.cons h hs,r=>by
  cases r with
  | cons r1 r2 =>
   obtain ⟨as,ra⟩:=I.reads h r1
   obtain ⟨bs,rb⟩:=I.readsAll hs r2
   exact ⟨_,.cons ra rb⟩
end
inductive CO (K:PySem.W.Frag)(neg:Bool) (x:V) (y:V)(H:Hp)(Q:VK):Prop
 | mk:∀ d e,(kq K H x d)->(kq K H y e)->(shaped d=true)->(shaped e=true)->(noMix d e=true)->(Q (.bl (if neg then !same d e else same d e)) H)->CO K neg x y H Q
def Bu (K:PySem.W.Frag)(neg:Bool):R2:=fun x y H Q=>CO K neg x y H Q
theorem GH (hu:X.A.units + 64 < cLine):bL X (compareOp .Eq) (Bu X.K false):=by
 intro pins s σ H x y v u Q I rx ry h
 obtain ⟨d,e,h1,h2,s1,s2,nm,q⟩:=h
 obtain ⟨as,ra⟩:=I.reads h1 rx
 obtain ⟨bs,rb⟩:=I.reads h2 ry
 exact eq_dataH_same ra rb s1 s2 hu nm ⟨.bl _,H,I,rfl,q⟩
theorem G8 (hu:X.A.units + 64 < cLine):bL X (compareOp .NotEq) (Bu X.K true):=by
 intro pins s σ H x y v u Q I rx ry h
 obtain ⟨d,e,h1,h2,s1,s2,nm,q⟩:=h
 obtain ⟨as,ra⟩:=I.reads h1 rx
 obtain ⟨bs,rb⟩:=I.reads h2 ry
 exact ne_dataH_same ra rb s1 s2 hu nm ⟨.bl _,H,I,rfl,q⟩
end
end L2
namespace L2
open PySem PySem.Spec PyProof.Rows PySem.W Builtin Builtin.ObjectAttr
section
variable {prog:Program}{w:World}{A:Around}{E:Value->Shared->Prop}{s:Shared}{K:Frag}{x C:Addr}{ox:Obj}{od:Option Obj}{name:Str}{v:Value}{tk:Tok}{fill expr:Bool}
end
/-! ### the layer's rules -/
section
variable {X:Cx}{pins:List (Addr×Obj)}{σ:St}{H:Hp}{s:Shared}{a C:Addr}
end
section
variable {X:Cx}{pins:List (Addr×Obj)}{σ:St}{H:Hp}{s:Shared}{a C:Addr}{dd:Option Addr}
theorem Bs:cK X (.builtin "isinstance") (fun xs H Q=>∃ x c t b,xs=[x,c]/\gu X.K H x t/\(∀ u,RelV c u->kitOne X.K t u=some b)/\Q (.bl b) H):=by
 intro pins s σ H xs us Q I r h
 obtain ⟨x,c,t,b,rfl,ty,k,q⟩:=h
 obtain ⟨u1,u2,rfl,ru1,ru2⟩:=r.two
 exact Ay I ru1 ty (k u2 ru2) fun tk=>⟨.bl b,H,I.tok tk,rfl,q⟩
variable {o e value:Expr}{f y:Str}{pos pos' yp apos:Pos}{ta tv:TE}{es:List Expr}{t:TA}
end
end L2
namespace L2
open PySem PySem.Spec PyProof.Rows
theorem cX {H:Hp}{a:Addr}{o:HO}(h:H a=none):aj H (upd H a o):=fun b u e=>by rw [au (gi e h)];exact e
end L2
namespace Dv
open PySem L2 PySem.W
def bK:Key->PyData
 | .inl i=>.int i
 | .inr x=>.str x
def cQ (K:Frag)(H:Hp)(a:Addr)(xs:List V):Prop:=Rd H a (.lst xs)\/∃ (its:List Value) (n:Nat),K.lookup a=some { cls:=.type "list",data:=.seq its.toArray n }/\its.length<=sizeLine/\Vals xs its
theorem Rd.mono {H H':Hp}{a:Addr}{u:HO}(s:aj H H'):Rd H a u->Rd H' a u
 | .inl h=>.inl (s _ _ h)
 | .inr ⟨o,h⟩=>.inr ⟨o,s _ _ h⟩
theorem cQ.mono {K:Frag}{H H':Hp}{a:Addr}{xs:List V}(s:aj H H'):cQ K H a xs->cQ K H' a xs
 | .inl h=>.inl (Rd.mono s h)
 | .inr h=>.inr h
theorem cQ.sq {K:Frag}{H:Hp}{a:Addr}{xs:List V}(h:cQ K H a xs):cu K H a xs:=by
 rcases h with h | ⟨its,n,hk,hl,r⟩
 ·exact .inl h
 ·exact .inr ⟨_,its.toArray,n,hk,rfl,rfl,rfl,by rw [List.size_toArray];exact hl,by simpa using r⟩
theorem cQ.get {X:Cx}{pins:List (Addr×Obj)}{σ:St}{H:Hp}{s:Shared}{a:Addr}{xs:List V}(I:L2.Inv X pins σ H s)(h:cQ X.K H a xs):xs.length<=sizeLine/\∃ its n,Vals xs its/\s.heap.get? a=some { cls:=.type "list",data:=.seq its.toArray n }:=by
 rcases h with h | ⟨its,n,hk,hl,r⟩
 ·obtain ⟨z,its,n,r,e⟩:=h.ok I.hok
  exact ⟨z,its,n,r,e⟩
 ·exact ⟨by rw [r.length];exact hl,its,n,r,I.ic a _ hk⟩
mutual
inductive Rp (K:Frag)(H:Hp):V->PyData->Prop
 | br:Rp K H .br .none
 | bl (b:Bool):Rp K H (.bl b) (.bool b)
 | int (i:Int):Rp K H (.int i) (.int i)
 | str (x:Str):Rp K H (.str x) (.str x)
 | lst {a:Addr}{xs:List V}{ds:List PyData}:cQ K H a xs->aA K H xs ds->Rp K H (.ref a) (.list ds)
 | tup {a:Addr}{xs:List V}{ds:List PyData}:H a=some (.tup xs)->aA K H xs ds->Rp K H (.ref a) (.tuple ds)
 | dk {a:Addr}{kvs:List (Key×V)}{ds:List (PyData×PyData)}:H a=some (.dK kvs)->dN K H kvs ds->Rp K H (.ref a) (.dict ds)
 | dt {a:Addr}{kvs:List (List Key×V)}{ds:List (PyData×PyData)}:H a=some (.dT kvs)->fc K H kvs ds->Rp K H (.ref a) (.dict ((.none,.none)::ds))
inductive aA (K:Frag)(H:Hp):List V->List PyData->Prop
 | nil:aA K H [] []
 | cons {x:V}{d:PyData}{xs:List V}{ds:List PyData}:Rp K H x d->aA K H xs ds->aA K H (x::xs) (d::ds)
inductive dN (K:Frag)(H:Hp):List (Key×V)->List (PyData×PyData)->Prop
 | nil:dN K H [] []
 | cons {k:Key}{v:V}{d:PyData}{kvs:List (Key×V)}{ds:List (PyData×PyData)}:Rp K H v d->dN K H kvs ds->dN K H ((k,v)::kvs) ((bK k,d)::ds)
inductive fc (K:Frag)(H:Hp):List (List Key×V)->List (PyData×PyData)->Prop
 | nil:fc K H [] []
 | cons {k:List Key}{v:V}{d:PyData}{kvs:List (List Key×V)}{ds:List (PyData×PyData)}:Rp K H v d->fc K H kvs ds->fc K H ((k,v)::kvs) ((.tuple (k.map bK),d)::ds)
end
mutual
theorem Rp.mono {K:Frag}{H H':Hp}(s:aj H H'):∀ {v:V}{d:PyData},Rp K H v d->Rp K H' v d
 | _,_,.br=>.br
 | _,_,.bl b=>.bl b
 | _,_,.int i=>.int i
 | _,_,.str x=>.str x
 | _,_,.lst h r=>.lst (cQ.mono s h) (r.mono s)
 | _,_,.tup h r=>.tup (s _ _ h) (r.mono s)
 | _,_,.dk h r=>.dk (s _ _ h) (r.mono s)
 | _,_,.dt h r=>.dt (s _ _ h) (r.mono s)
theorem aA.mono {K:Frag}{H H':Hp}(s:aj H H'):∀ {vs:List V}{ds:List PyData},aA K H vs ds->aA K H' vs ds
 | _,_,.nil=>.nil
 | _,_,.cons h r=>.cons (h.mono s) (r.mono s)
theorem dN.mono {K:Frag}{H H':Hp}(s:aj H H'):∀ {kvs:List (Key×V)}{ds:List (PyData×PyData)},dN K H kvs ds->dN K H' kvs ds
 | _,_,.nil=>.nil
 | _,_,.cons h r=>.cons (h.mono s) (r.mono s)
theorem fc.mono {K:Frag}{H H':Hp}(s:aj H H'):∀ {kvs:List (List Key×V)}{ds:List (PyData×PyData)},fc K H kvs ds->fc K H' kvs ds
 | _,_,.nil=>.nil
 | _,_,.cons h r=>.cons (h.mono s) (r.mono s)
end
def nd:PyData->Bool
 | .list ds=>nds ds
 | .tuple ds=>nds ds
 | .dict _=>false
 | _=>true
where nds:List PyData->Bool
 | []=>true
 | d::ds=>nd d && nds ds
mutual
theorem Rp.m9 {K:Frag}{H:Hp}:∀ {v:V}{d:PyData},Rp K H v d->nd d=true->kq K H v d
 | _,_,.br,_=>.br
 | _,_,.bl b,_=>.bl b
 | _,_,.int i,_=>.int i
 | _,_,.str x,_=>.str x
 | _,_,.lst h r,e=>.lst h.sq (r.m9 (by rw [nd] at e;exact e))
 | _,_,.tup h r,e=>.tup (cB.of h) (r.m9 (by rw [nd] at e;exact e))
 | _,_,.dk _ _,e=>by rw [nd] at e;cases e
 | _,_,.dt _ _,e=>by rw [nd] at e;cases e
theorem aA.m9 {K:Frag}{H:Hp}:∀ {vs:List V}{ds:List PyData},aA K H vs ds->nd.nds ds=true->pJ K H vs ds
 | _,_,.nil,_=>.nil
 | _,_,.cons h r,e=>by
  rw [nd.nds,Bool.and_eq_true] at e
  exact .cons (h.m9 e.1) (r.m9 e.2)
end
def kC (H H':Hp):Prop:=∀ a xs,H a=some (.tup xs)->H' a=some (.tup xs)
mutual
theorem Rp.lf {K:Frag}{H H':Hp}(s:kC H H'):∀ {v:V}{d:PyData},Rp K H v d->Dv.lf d=true->Rp K H' v d
 | _,_,.br,_=>.br
 | _,_,.bl b,_=>.bl b
 | _,_,.int i,_=>.int i
 | _,_,.str x,_=>.str x
 | _,_,.lst h r,e=>by rw [Dv.lf] at e;cases e
 | _,_,.tup h r,e=>by
  rw [Dv.lf] at e
  exact .tup (s _ _ h) (r.lf s e)
 | _,_,.dk _ _,e=>by rw [Dv.lf] at e;cases e
 | _,_,.dt _ _,e=>by rw [Dv.lf] at e;cases e
theorem aA.lf {K:Frag}{H H':Hp}(s:kC H H'):∀ {vs:List V}{ds:List PyData},aA K H vs ds->Dv.lf.lfs ds=true->aA K H' vs ds
 | _,_,.nil,_=>.nil
 | _,_,.cons h r,e=>by
  rw [Dv.lf.lfs,Bool.and_eq_true] at e
  exact .cons (h.lf s e.1) (r.lf s e.2)
end
section
variable {K:Frag}{H:Hp}
theorem aA.len:∀ {vs:List V}{ds:List PyData},aA K H vs ds->vs.length=ds.length
 | _,_,.nil=>rfl
 | _,_,.cons _ r=>congrArg (· + 1) r.len
theorem aA.get:∀ {vs:List V}{ds:List PyData}{i:Nat}{d:PyData},aA K H vs ds->ds[i]?=some d->∃ v,vs[i]?=some v/\Rp K H v d
 | _,_,_,_,.nil,e=>by simp at e
 | _,_,0,_,.cons h _,e=>by simp at e;subst e;exact ⟨_,rfl,h⟩
 | _,_,i + 1,_,.cons _ r,e=>r.get (i:=i) (by simpa using e)
theorem aA.GC:∀ {vs:List V}{ds:List PyData}{i:Nat}{v:V},aA K H vs ds->vs[i]?=some v->∃ d,ds[i]?=some d/\Rp K H v d
 | _,_,_,_,.nil,e=>by simp at e
 | _,_,0,_,.cons h _,e=>by simp at e;subst e;exact ⟨_,rfl,h⟩
 | _,_,i + 1,_,.cons _ r,e=>r.GC (i:=i) (by simpa using e)
theorem aA.app:∀ {vs us:List V}{ds es:List PyData},aA K H vs ds->aA K H us es->aA K H (vs++us) (ds++es)
 | _,_,_,_,.nil,s=>s
 | _,_,_,_,.cons h r,s=>.cons h (r.app s)
theorem aA.snoc {vs:List V}{ds:List PyData}{v:V}{d:PyData}(r:aA K H vs ds)(h:Rp K H v d):aA K H (vs++[v]) (ds++[d]):=r.app (.cons h .nil)
theorem aA.take:∀ {vs:List V}{ds:List PyData} (n:Nat),aA K H vs ds->aA K H (vs.take n) (ds.take n)
 | _,_,0,_=>.nil
 | _,_,_ + 1,.nil=>.nil
 | _,_,n + 1,.cons h r=>.cons h (r.take n)
theorem aA.drop:∀ {vs:List V}{ds:List PyData} (n:Nat),aA K H vs ds->aA K H (vs.drop n) (ds.drop n)
 | _,_,0,r=>r
 | _,_,_ + 1,.nil=>.nil
 | _,_,n + 1,.cons _ r=>r.drop n
theorem aA.set {v:V}{d:PyData}(h:Rp K H v d):∀ {vs:List V}{ds:List PyData} (i:Nat),aA K H vs ds->aA K H (vs.set i v) (ds.set i d)
 | _,_,_,.nil=>.nil
 | _,_,0,.cons _ r=>.cons h r
 | _,_,i + 1,.cons g r=>.cons g (r.set h i)
theorem aA.rev:∀ {vs:List V}{ds:List PyData},aA K H vs ds->aA K H vs.reverse ds.reverse
 | _,_,.nil=>.nil
 | _,_,.cons h r=>by rw [List.reverse_cons,List.reverse_cons];exact r.rev.snoc h
end
inductive ef (K:Frag)(H Hm:Hp):List V->List PyData->List Addr->Prop
 | nil:ef K H Hm [] [] []
 | jR {x:V}{d:PyData}{xs:List V}{ds:List PyData}{fp:List Addr}:zf d=false->Rp K Hm x d->ef K H Hm xs ds fp->ef K H Hm (x::xs) (d::ds) fp
 | own {b:Addr}{ys:List V}{es:List PyData}{xs:List V}{ds:List PyData}{fp:List Addr}:H b=some (.lst ys)->aA K Hm ys es->b∉fp->ef K H Hm xs ds fp->ef K H Hm (.ref b::xs) (.list es::ds) (b::fp)
inductive qJ (K:Frag)(H Hm:Hp):List (List Key×V)->List (PyData×PyData)->List Addr->Prop
 | nil:qJ K H Hm [] [] []
 | own {k:List Key}{b:Addr}{ys:List V}{es:List PyData}{kvs:List (List Key×V)}{ds:List (PyData×PyData)}{fp:List Addr}:H b=some (.lst ys)->aA K Hm ys es->b∉fp->qJ K H Hm kvs ds fp->qJ K H Hm ((k,.ref b)::kvs) ((.tuple (k.map bK),.list es)::ds) (b::fp)
inductive Own (K:Frag)(H Hm:Hp):Kd->V->PyData->List Addr->Prop
 | sh {v:V}{d:PyData}:Rp K Hm v d->Own K H Hm .sh v d []
 | ow {p:Bool}{a:Addr}{xs:List V}{ds:List PyData}:H a=some (.lst xs)->aA K Hm xs ds->Own K H Hm (.ow p) (.ref a) (.list ds) [a]
 | dp {p:Bool}{a:Addr}{xs:List V}{ds:List PyData}{fp:List Addr}:H a=some (.lst xs)->a∉fp->ef K H Hm xs ds fp->Own K H Hm (.dp p) (.ref a) (.list ds) (a::fp)
 | dk {p:Bool}{a:Addr}{kvs:List (Key×V)}{ds:List (PyData×PyData)}:H a=some (.dK kvs)->dN K Hm kvs ds->Own K H Hm (.dk p) (.ref a) (.dict ds) [a]
 | dt {p:Bool}{a:Addr}{kvs:List (List Key×V)}{ds:List (PyData×PyData)}:H a=some (.dT kvs)->fc K Hm kvs ds->Own K H Hm (.dt p) (.ref a) (.dict ((.none,.none)::ds)) [a]
 | st {p:Bool}{a:Addr}{kvs:List (List Key×V)}{ds:List (PyData×PyData)}{fp:List Addr}:H a=some (.dT kvs)->a∉fp->qJ K H Hm kvs ds fp->Own K H Hm (.st p) (.ref a) (.dict ((.none,.none)::ds)) (a::fp)
section
variable {K:Frag}{H H' Hm Hm':Hp}
theorem ef.step (s:aj Hm Hm'):∀ {xs:List V}{ds:List PyData}{fp:List Addr},ef K H Hm xs ds fp->(∀ a∈fp,H' a=H a)->ef K H' Hm' xs ds fp
 | _,_,_,.nil,_=>.nil
 | _,_,_,.jR e r t,h=>.jR e (r.mono s) (t.step s h)
 | _,_,_,.own e r n t,h=>.own ((h _ List.mem_cons_self).trans e) (r.mono s) n (t.step s fun a ha=>h a (List.mem_cons_of_mem _ ha))
theorem ef.live:∀ {xs:List V}{ds:List PyData}{fp:List Addr},ef K H Hm xs ds fp->∀ a∈fp,∃ ys,H a=some (.lst ys)
 | _,_,_,.nil,_,h=>by cases h
 | _,_,_,.jR _ _ t,a,h=>t.live a h
 | _,_,_,.own e _ _ t,a,h=>by
  rcases List.mem_cons.mp h with rfl | h
  ·exact ⟨_,e⟩
  ·exact t.live a h
theorem qJ.step (s:aj Hm Hm'):∀ {xs:List (List Key×V)}{ds:List (PyData×PyData)}{fp:List Addr},qJ K H Hm xs ds fp->(∀ a∈fp,H' a=H a)->qJ K H' Hm' xs ds fp
 | _,_,_,.nil,_=>.nil
 | _,_,_,.own e r n t,h=>.own ((h _ List.mem_cons_self).trans e) (r.mono s) n (t.step s fun a ha=>h a (List.mem_cons_of_mem _ ha))
theorem qJ.live:∀ {xs:List (List Key×V)}{ds:List (PyData×PyData)}{fp:List Addr},qJ K H Hm xs ds fp->∀ a∈fp,∃ ys,H a=some (.lst ys)
 | _,_,_,.nil,_,h=>by cases h
 | _,_,_,.own e _ _ t,a,h=>by
  rcases List.mem_cons.mp h with rfl | h
  ·exact ⟨_,e⟩
  ·exact t.live a h
theorem Own.step {k:Kd}{v:V}{d:PyData}{fp:List Addr}(o:Own K H Hm k v d fp)(s:aj Hm Hm')(h:∀ a∈fp,H' a=H a):Own K H' Hm' k v d fp:=by
 cases o with
 | sh r=>exact .sh (r.mono s)
 | ow e r=>exact .ow ((h _ List.mem_cons_self).trans e) (r.mono s)
 | dp e n t=>exact .dp ((h _ List.mem_cons_self).trans e) n (t.step s fun a ha=>h a (List.mem_cons_of_mem _ ha))
 | dk e r=>exact .dk ((h _ List.mem_cons_self).trans e) (r.mono s)
 | dt e r=>exact .dt ((h _ List.mem_cons_self).trans e) (r.mono s)
 | st e n t=>exact .st ((h _ List.mem_cons_self).trans e) n (t.step s fun a ha=>h a (List.mem_cons_of_mem _ ha))
def oQ (u:HO):Prop:=∀ xs,u≠.tup xs
theorem kZ {xs:List V}:oQ (.lst xs):=fun _ z=>by cases z
theorem qu {xs:List (Key×V)}:oQ (.dK xs):=fun _ z=>by cases z
theorem sC {xs:List (List Key×V)}:oQ (.dT xs):=fun _ z=>by cases z
theorem Own.live {k:Kd}{v:V}{d:PyData}{fp:List Addr}(o:Own K H Hm k v d fp):∀ a∈fp,∃ u,H a=some u/\oQ u:=by
 intro a ha
 cases o with
 | sh _=>cases ha
 | ow e _=>rw [List.mem_singleton.mp ha];exact ⟨_,e,by first | exact kZ | exact qu | exact sC⟩
 | dp e _ t =>
  rcases List.mem_cons.mp ha with rfl | ha
  ·exact ⟨_,e,by first | exact kZ | exact qu | exact sC⟩
  ·obtain ⟨ys,e⟩:=t.live a ha
   exact ⟨_,e,by first | exact kZ | exact qu | exact sC⟩
 | dk e _=>rw [List.mem_singleton.mp ha];exact ⟨_,e,by first | exact kZ | exact qu | exact sC⟩
 | dt e _=>rw [List.mem_singleton.mp ha];exact ⟨_,e,by first | exact kZ | exact qu | exact sC⟩
 | st e _ t =>
  rcases List.mem_cons.mp ha with rfl | ha
  ·exact ⟨_,e,by first | exact kZ | exact qu | exact sC⟩
  ·obtain ⟨ys,e⟩:=t.live a ha
   exact ⟨_,e,by first | exact kZ | exact qu | exact sC⟩
theorem ef.z7 (s:aj Hm Hm'):∀ {xs:List V}{ds:List PyData}{fp:List Addr},ef K H Hm xs ds fp->(∀ a∈fp,Hm' a=H a)->aA K Hm' xs ds
 | _,_,_,.nil,_=>.nil
 | _,_,_,.jR _ r t,h=>.cons (r.mono s) (t.z7 s h)
 | _,_,_,.own e r _ t,h=>.cons (.lst (.inl (.inl ((h _ List.mem_cons_self).trans e))) (r.mono s)) (t.z7 s fun a ha=>h a (List.mem_cons_of_mem _ ha))
theorem Own.rp {k:Kd}{v:V}{d:PyData}{fp:List Addr}(o:Own K H Hm k v d fp)(hk:k.rd=true)(s:aj Hm Hm')(h:∀ a∈fp,Hm' a=H a):Rp K Hm' v d:=by
 cases o with
 | sh r=>exact r.mono s
 | ow e r=>exact .lst (.inl (.inl ((h _ List.mem_cons_self).trans e))) (r.mono s)
 | dp e _ t=>exact .lst (.inl (.inl ((h _ List.mem_cons_self).trans e))) (t.z7 s fun a ha=>h a (List.mem_cons_of_mem _ ha))
 | dk e r=>exact .dk ((h _ List.mem_cons_self).trans e) (r.mono s)
 | dt e r=>exact .dt ((h _ List.mem_cons_self).trans e) (r.mono s)
 | st _ _ _=>cases hk
theorem aA.uX (s:kC Hm Hm'){xs:List V}{ds:List PyData}(r:aA K Hm xs ds)(h:ds.all Dv.lf=true):aA K Hm' xs ds:=r.lf s (by rw [rR];exact h)
theorem ef.flat (s:kC Hm Hm'):∀ {xs:List V}{ds:List PyData}{fp:List Addr},ef K H Hm xs ds fp->(ds.all fun d=>match d with | .list es=>es.all Dv.lf | d=>Dv.lf d)=true->ef K H Hm' xs ds fp
 | _,_,_,.nil,_=>.nil
 | _,_,_,.jR (d:=d) e r t,h=>by
  rw [List.all_cons,Bool.and_eq_true] at h
  refine .jR e (r.lf s ?_) (t.flat s h.2)
  have h1:=h.1
  cases d <;> first | exact h1 | cases e
 | _,_,_,.own e r n t,h=>by
  rw [List.all_cons,Bool.and_eq_true] at h
  exact .own e (r.uX s h.1) n (t.flat s h.2)
theorem dN.flat (s:kC Hm Hm'):∀ {kvs:List (Key×V)}{ds:List (PyData×PyData)},dN K Hm kvs ds->(ds.all fun kv=>Dv.lf kv.2)=true->dN K Hm' kvs ds
 | _,_,.nil,_=>.nil
 | _,_,.cons r t,h=>by
  rw [List.all_cons,Bool.and_eq_true] at h
  exact .cons (r.lf s h.1) (t.flat s h.2)
theorem fc.flat (s:kC Hm Hm'):∀ {kvs:List (List Key×V)}{ds:List (PyData×PyData)},fc K Hm kvs ds->(ds.all fun kv=>Dv.lf kv.2)=true->fc K Hm' kvs ds
 | _,_,.nil,_=>.nil
 | _,_,.cons r t,h=>by
  rw [List.all_cons,Bool.and_eq_true] at h
  exact .cons (r.lf s h.1) (t.flat s h.2)
theorem Own.flat {k:Kd}{v:V}{d:PyData}{fp:List Addr}(o:Own K H Hm k v d fp)(s:kC Hm Hm')(h:Dv.flat k d=true):Own K H Hm' k v d fp:=by
 cases o with
 | sh r=>exact .sh (r.lf s h)
 | ow e r=>exact .ow e (r.uX s h)
 | dp e n t=>exact .dp e n (t.flat s h)
 | dk e r=>exact .dk e (r.flat s h)
 | dt e r =>
  have h:(Dv.lf .none && _)=true:=h
  rw [Bool.and_eq_true] at h
  exact .dt e (r.flat s h.2)
 | st _ _ _=>cases h
end
def OE (o p:Option HO):Prop:=o=p\/(p=none/\∃ xs,o=some (.tup xs))
theorem OE.rfl' {o:Option HO}:OE o o:=.inl rfl
theorem OE.trans {a b c:Option HO}(h:OE a b)(k:OE b c):OE a c:=by
 rcases h with rfl | ⟨rfl,h⟩
 ·exact k
 ·rcases k with rfl | ⟨rfl,_⟩
  ·exact .inr ⟨rfl,h⟩
  ·exact .inr ⟨rfl,h⟩
theorem OE.off {Hm H:Hp}{a:Addr}{p:Option HO}{u:HO}(h:OE (Hm a) p)(hp:p=none)(s:aj Hm H)(hu:H a=some u)(nt:oQ u):Hm a=none:=by
 rcases h with e | ⟨_,xs,e⟩
 ·rw [e,hp]
 ·have:=s _ _ e
  rw [hu] at this
  cases this
  exact absurd rfl (nt xs)
structure Gh where
 H0:Hp
 gn:Hp
 pins:List (Nat×Addr)
def Gh.M (g:Gh):List Addr:=g.pins.map (·.2)
structure Rl (K:Frag)(g:Gh)(E:En)(σ:St)(H Hm:Hp)(F:Nat->List Addr):Prop where
 len:E.length=σ.length
 sub:aj Hm H
 slot:∀ i k d,E[i]?=some (some (k,d))->∃ v,σ[i]?=some (some v)/\Own K H Hm k v d (F i)
 off:∀ i a,a∈F i->Hm a=none
 bI:∀ i a,a∈F i->∃ u,H a=some u/\oQ u
 aR:∀ i j a,a∈F i->a∈F j->i=j
 fr:∀ p o,p∉g.M->g.H0 p=some o->H p=some o
 new:∀ i a,a∈F i->a∈g.M\/g.H0 a=none
 pin:∀ q∈g.pins,σ[q.1]?=some (some (.ref q.2))/\∃ ds,E[q.1]?=some (some (.ow true,.list ds))
 old:∀ a,g.H0 a≠none->OE (Hm a) (g.gn a)
structure Tm (K:Frag)(g:Gh)(F:Nat->List Addr)(H Hm:Hp)(k:Kd) (v:V)(d:PyData)(fp:List Addr):Prop where
 own:Own K H Hm k v d fp
 off:∀ a∈fp,Hm a=none
 aR:∀ a∈fp,∀ i,a∉F i
 new:∀ a∈fp,g.H0 a=none
section
variable {K:Frag}{g:Gh}{E:En}{σ:St}{H H' Hm Hm':Hp}{F:Nat->List Addr}
theorem Rl.grow (R:Rl K g E σ H Hm F)(h:aj H H')(s:aj Hm Hm')(b:aj Hm' H')(o:∀ i a,a∈F i->Hm' a=none)(od:∀ a,g.H0 a≠none->OE (Hm' a) (Hm a)):Rl K g E σ H' Hm' F where
 len:=R.len
 sub:=b
 slot:=fun i k d e=>by
  obtain ⟨v,h1,h2⟩:=R.slot i k d e
  refine ⟨v,h1,h2.step s fun a ha=>?_⟩
  obtain ⟨u,hu,_⟩:=h2.live a ha
  rw [hu]
  exact h _ _ hu
 off:=o
 bI:=fun i a ha=>let ⟨u,hu,n⟩:=R.bI i a ha;⟨u,h _ _ hu,n⟩
 aR:=R.aR
 fr:=fun p o hp ho=>h _ _ (R.fr p o hp ho)
 new:=R.new
 pin:=R.pin
 old:=fun a ha=>(od a ha).trans (R.old a ha)
theorem Rl.more (R:Rl K g E σ H Hm F)(s:aj Hm Hm')(b:aj Hm' H)(o:∀ i a,a∈F i->Hm' a=none)(od:∀ a,g.H0 a≠none->OE (Hm' a) (Hm a)):Rl K g E σ H Hm' F:=R.grow (aj.refl _) s b o od
theorem Rl.ya (R:Rl K g E σ H Hm F){q:Nat×Addr}(hq:q∈g.pins):F q.1=[q.2]:=by
 obtain ⟨h1,ds,h2⟩:=R.pin q hq
 obtain ⟨v,h3,h4⟩:=R.slot _ _ _ h2
 rw [h1] at h3
 cases h3
 generalize F q.1=fi at h4
 cases h4
 rfl
theorem Rl.notM (R:Rl K g E σ H Hm F){i:Nat}{k:Kd}{d:PyData}(e:E[i]?=some (some (k,d)))(hk:k.pin=false){a:Addr}(ha:a∈F i):g.H0 a=none:=by
 rcases R.new i a ha with m | m
 ·obtain ⟨q,hq,rfl⟩:=List.mem_map.mp m
  have:=R.aR i q.1 q.2 ha (by rw [R.ya hq];exact List.mem_cons_self)
  obtain ⟨_,ds,h2⟩:=R.pin q hq
  rw [<- this,e] at h2
  cases h2
  cases hk
 ·exact m
theorem Rl.J7 (R:Rl K g E σ H Hm F){a:Addr}(ha:a∈g.M):H a≠none:=fun z=>by
 obtain ⟨q,hq,rfl⟩:=List.mem_map.mp ha
 obtain ⟨u,hu,_⟩:=R.bI q.1 q.2 (by rw [R.ya hq];exact List.mem_cons_self)
 rw [z] at hu
 cases hu
theorem Rl.qD (R:Rl K g E σ H Hm F){a:Addr}(ha:g.H0 a≠none):H a≠none:=fun z=>by
 by_cases m:a∈g.M
 ·exact R.J7 m z
 ·cases e:g.H0 a with
  | none=>exact ha e
  | some o=>rw [R.fr a o m e] at z;cases z
theorem Rl.fresh (R:Rl K g E σ H Hm F){p:Addr}(h:H p=none){i:Nat}:p∉F i:=fun z=>by
 obtain ⟨u,hu,_⟩:=R.bI i p z
 rw [h] at hu
 cases hu
theorem Rl.qe (R:Rl K g E σ H Hm F){p:Addr}(h:H p=none):Hm p=none:=by
 cases e:Hm p with
 | none=>rfl
 | some o=>rw [R.sub _ _ e] at h;cases h
theorem Rl.gF (R:Rl K g E σ H Hm F){p:Addr}(h:H p=none):g.H0 p=none:=by
 cases e:g.H0 p with
 | none=>rfl
 | some o=>exact absurd h (R.qD (by rw [e];simp))
end
open Classical in
noncomputable def lend (Hm H:Hp)(fp:List Addr):Hp:=fun a=>if a∈fp then H a else Hm a
open Classical in
noncomputable def back (Hm:Hp)(fp:List Addr):Hp:=fun a=>if a∈fp then none else Hm a
section
variable {Hm H:Hp}{fp:List Addr}{a:Addr}
theorem fR (h:a∈fp):lend Hm H fp a=H a:=by unfold lend;rw [if_pos h]
theorem dG (h:a∉fp):lend Hm H fp a=Hm a:=by unfold lend;rw [if_neg h]
theorem iV (h:a∈fp):back Hm fp a=none:=by unfold back;rw [if_pos h]
theorem dF (h:a∉fp):back Hm fp a=Hm a:=by unfold back;rw [if_neg h]
theorem i9 (n:∀ a∈fp,Hm a=none):aj Hm (lend Hm H fp):=fun b o e=>by
 have:b∉fp:=fun z=>by rw [n b z] at e;cases e
 rw [dG this];exact e
theorem j6 (s:aj Hm H):aj (lend Hm H fp) H:=fun b o e=>by
 by_cases h:b∈fp
 ·rw [fR h] at e;exact e
 ·rw [dG h] at e;exact s _ _ e
theorem vt (s:aj Hm H):aj (back Hm fp) H:=fun b o e=>by
 by_cases h:b∈fp
 ·rw [iV h] at e;cases e
 ·rw [dF h] at e;exact s _ _ e
end
section
variable {K:Frag}{g:Gh}{E:En}{σ:St}{H H' Hm Hm':Hp}{F:Nat->List Addr}{k:Kd}{v:V}{d:PyData}{fp:List Addr}
theorem Tm.fM (T:Tm K g F H Hm k v d fp)(R:Rl K g E σ H Hm F)(hk:k.fz=true):∃ Hm',aj Hm Hm'/\Rl K g E σ H Hm' F/\Rp K Hm' v d:=by
 have up:=i9 (Hm:=Hm) (H:=H) T.off
 refine ⟨lend Hm H fp,up,R.more up (j6 R.sub) (fun i a ha=>?_) fun a ha=>.inl (dG fun z=>ha (T.new a z)),T.own.rp (by cases k <;> first | rfl | cases hk) up fun a ha=>fR ha⟩
 rw [dG fun z=>T.aR a z i ha]
 exact R.off i a ha
theorem aF {α:Type}{l:List α}{i:Nat}{a:α}(h:i < l.length):(l.set i a)[i]?=some a:=by rw [List.getElem?_set];simp [h]
theorem ao {α:Type}{l:List α}{i j:Nat}{a:α}(h:i≠j):(l.set i a)[j]?=l[j]?:=by rw [List.getElem?_set];simp [h]
theorem Rl.put (R:Rl K g E σ H Hm F)(T:Tm K g F H Hm k v d fp){i:Nat}(o:cy E i=true):Rl K g (E.set i (some (k,d))) (σ.set i (some v)) H Hm (fun j=>if j=i then fp else F j) where
 len:=by rw [List.length_set,List.length_set];exact R.len
 sub:=R.sub
 slot:=fun j k' d' e=>by
  by_cases c:j=i
  ·subst c
   have hl:j < E.length:=by
    rcases Nat.lt_or_ge j E.length with h | h
    ·exact h
    ·rw [List.getElem?_eq_none (by rw [List.length_set];exact h)] at e;cases e
   rw [aF hl] at e
   cases e
   exact ⟨v,aF (R.len ▸ hl),by rw [if_pos rfl];exact T.own⟩
  ·rw [ao (Ne.symm c)] at e
   obtain ⟨u,h1,h2⟩:=R.slot j k' d' e
   exact ⟨u,by rw [ao (Ne.symm c)];exact h1,by rw [if_neg c];exact h2⟩
 off:=fun j a ha=>by
  by_cases c:j=i
  ·rw [if_pos c] at ha;exact T.off a ha
  ·rw [if_neg c] at ha;exact R.off j a ha
 bI:=fun j a ha=>by
  by_cases c:j=i
  ·rw [if_pos c] at ha;exact T.own.live a ha
  ·rw [if_neg c] at ha;exact R.bI j a ha
 aR:=fun j l a h1 h2=>by
  by_cases c:j=i
  ·rw [if_pos c] at h1
   by_cases c':l=i
   ·rw [c,c']
   ·rw [if_neg c'] at h2;exact absurd h2 (T.aR a h1 l)
  ·rw [if_neg c] at h1
   by_cases c':l=i
   ·rw [if_pos c'] at h2;exact absurd h1 (T.aR a h2 j)
   ·rw [if_neg c'] at h2;exact R.aR j l a h1 h2
 fr:=R.fr
 new:=fun j a ha=>by
  by_cases c:j=i
  ·rw [if_pos c] at ha;exact .inr (T.new a ha)
  ·rw [if_neg c] at ha;exact R.new j a ha
 pin:=fun q hq=>by
  obtain ⟨h1,ds,h2⟩:=R.pin q hq
  have c:i≠q.1:=fun z=>by
   unfold cy at o
   rw [z,h2] at o
   cases o
  exact ⟨by rw [ao c];exact h1,ds,by rw [ao c];exact h2⟩
 old:=R.old
theorem Tm.sh (h:Rp K Hm v d):Tm K g F H Hm .sh v d []:=⟨.sh h,(fun _ z=>by cases z),(fun _ z=>by cases z),fun _ z=>by cases z⟩
theorem Rl.chg (R:Rl K g E σ H Hm F){i:Nat}{p:Bool}{ds es:List PyData}{ys:List V}(e:E[i]?=some (some (.ow p,.list ds)))(r:aA K Hm ys es):∃ a xs,σ[i]?=some (some (.ref a))/\H a=some (.lst xs)/\aA K Hm xs ds/\Hm a=none/\Rl K g (E.set i (some (.ow p,.list es))) σ (upd H a (.lst ys)) Hm F:=by
 obtain ⟨v,h1,h2⟩:=R.slot i _ _ e
 generalize hf:F i=fi at h2
 cases h2 with
 | @ow _ a xs _ ha hr =>
  have ma:a∈F i:=by rw [hf];exact List.mem_cons_self
  have na:=R.off i a ma
  have up:∀ b,b≠a->upd H a (.lst ys) b=H b:=fun b hb=>au hb
  have li:i < E.length:=by
   rcases Nat.lt_or_ge i E.length with h | h
   ·exact h
   ·rw [List.getElem?_eq_none h] at e;cases e
  refine ⟨a,xs,h1,ha,hr,na,?_⟩
  exact {
   len:=by rw [List.length_set];exact R.len
   sub:=fun b o hb=>by
    have:b≠a:=fun z=>by rw [z,na] at hb;cases hb
    rw [up b this];exact R.sub b o hb
   slot:=fun j k' d' e'=>by
    by_cases c:j=i
    ·subst c
     rw [aF li] at e'
     cases e'
     exact ⟨_,h1,by rw [hf];exact .ow aL r⟩
    ·rw [ao (Ne.symm c)] at e'
     obtain ⟨u,g1,g2⟩:=R.slot j k' d' e'
     refine ⟨u,g1,g2.step (aj.refl _) fun b hb=>up b fun z=>c (R.aR j i a (z ▸ hb) ma)⟩
   off:=R.off
   bI:=fun j b hb=>by
    by_cases c:b=a
    ·rw [c];exact ⟨_,aL,kZ⟩
    ·rw [up b c];exact R.bI j b hb
   aR:=R.aR
   fr:=fun q o hq ho=>by
    have:q≠a:=fun z=>by
     rcases R.new i a ma with y | y
     ·exact hq (z ▸ y)
     ·rw [z,y] at ho;cases ho
    rw [up q this];exact R.fr q o hq ho
   new:=R.new
   pin:=fun q hq=>by
    obtain ⟨g1,ds',g2⟩:=R.pin q hq
    by_cases c:i=q.1
    ·rw [<- c] at g1 g2 ⊢
     rw [e] at g2
     cases g2
     exact ⟨g1,es,aF li⟩
    ·exact ⟨g1,ds',by rw [ao c];exact g2⟩
   old:=R.old }
theorem Rl.cT (R:Rl K g E σ H Hm F){i:Nat}{E':En}{d:PyData}{k:Kd}(e:E[i]?=some (some (k,d)))(h:Dv.cT E i=some E'):∃ v Hm' F',σ[i]?=some (some v)/\aj Hm Hm'/\Rl K g E' σ H Hm' F'/\Rp K Hm' v d:=by
 unfold Dv.cT at h
 rw [e] at h
 have h:(if k.fz=true then some (E.set i (some (.sh,d))) else none)=some E':=h
 by_cases hk:k.fz=true
 ·rw [if_pos hk] at h
  cases h
  obtain ⟨v,h1,h2⟩:=R.slot i k d e
  have up:=i9 (Hm:=Hm) (H:=H) (fp:=F i) (R.off i)
  have rp:=h2.rp (by cases k <;> first | rfl | cases hk) up fun a ha=>fR ha
  have li:i < E.length:=by
   rcases Nat.lt_or_ge i E.length with h | h
   ·exact h
   ·rw [List.getElem?_eq_none h] at e;cases e
  refine ⟨v,lend Hm H (F i),fun j=>if j=i then [] else F j,h1,up,?_,rp⟩
  exact {
   len:=by rw [List.length_set];exact R.len
   sub:=j6 R.sub
   slot:=fun j k' d' e'=>by
    by_cases c:j=i
    ·subst c
     rw [aF li] at e'
     cases e'
     exact ⟨v,h1,by rw [if_pos rfl];exact .sh rp⟩
    ·rw [ao (Ne.symm c)] at e'
     obtain ⟨u,g1,g2⟩:=R.slot j k' d' e'
     exact ⟨u,g1,by rw [if_neg c];exact g2.step up fun _ _=>rfl⟩
   off:=fun j a ha=>by
    by_cases c:j=i
    ·rw [if_pos c] at ha;cases ha
    ·rw [if_neg c] at ha
     rw [dG fun z=>c (R.aR j i a ha z)]
     exact R.off j a ha
   bI:=fun j a ha=>by
    by_cases c:j=i
    ·rw [if_pos c] at ha;cases ha
    ·rw [if_neg c] at ha;exact R.bI j a ha
   aR:=fun j l a g1 g2=>by
    by_cases c:j=i
    ·rw [if_pos c] at g1;cases g1
    ·rw [if_neg c] at g1
     by_cases c':l=i
     ·rw [if_pos c'] at g2;cases g2
     ·rw [if_neg c'] at g2;exact R.aR j l a g1 g2
   fr:=R.fr
   new:=fun j a ha=>by
    by_cases c:j=i
    ·rw [if_pos c] at ha;cases ha
    ·rw [if_neg c] at ha;exact R.new j a ha
   pin:=fun q hq=>by
    obtain ⟨g1,ds',g2⟩:=R.pin q hq
    have c:i≠q.1:=fun z=>by
     rw [<- z,e] at g2
     cases g2
     cases hk
    exact ⟨g1,ds',by rw [ao c];exact g2⟩
   old:=fun a ha=>by
    rw [dG fun z=>ha (R.notM e (by cases k <;> first | rfl | (rename_i p;cases p <;> first | rfl | cases hk) | cases hk) z)]
    exact R.old a ha }
 ·rw [if_neg hk] at h;cases h
end
end Dv
namespace L2
open PySem PySem.Spec PyProof.Rows
/-! ### an exception on its way: just it,its trail and the frames' slots change -/
def kh (h:Heap)(e C T:Addr)(dd:Option Addr):Prop :=
 ∃ (t0:Addr)(v2 v3 v4 v5:Value)(sl:Array (Option Value))(oT:Obj)(ts:Array Value),h.get? e=some ⟨.ref C,dd,.fields #[.ref t0,.ref T,v2,v3,v4,v5],sl⟩/\T≠e/\h.get? T=some oT/\oT.data=.fields ts/\ts[3]?=some .none
structure Way (fs:List Addr)(e T:Addr)(h h':Heap):Prop where
 keep:∀ b o,b≠e->b≠T->b∉fs->h.get? b=some o->h'.get? b=some o
 slot:∀ b o,b≠e->b≠T->h.get? b=some o->∃ sl,h'.get? b=some { o with slots:=sl }
section
variable {M:Model}{A:Around}{E:Value->Shared->Prop}{s:Shared}
theorem tG {base:Heap}{env:Env}{outer:List Env}{L e C t0 T0:Addr}{dd:Option Addr}{w1 v2 v3 v4 v5:Value}{sl0:Array (Option Value)}{head:Value}{hadNext:Bool}{Q:Unit->Shared->Prop}
  (hfr:A.frames=some (env::outer))(hl:s.heap.FunFrames base (env::outer))(hf:env.frame=some L)(he:s.heap.get? e=some ⟨.ref C,dd,.fields #[.ref t0,w1,v2,v3,v4,v5],sl0⟩)
  (q:∀ h' T,s.heap.get? T=none->Way (frs (env::outer)) e T s.heap h'->kh h' e C T dd->Q () { s with heap:=h' }) :
  wpAny M A (do let a <- frameOf env;let pl <- entryPlaceOf L hadNext;let b <- EntryCells.newEntry head a .none (rawInt L) .none pl;setField (.ref e) 1 b) (fun _ s'=>wpAny M A (setFlight (.ref e) none) Q E s') E s:=by
 have ene:e∉frs (env::outer):=fun hm=>by
  obtain ⟨_,o,ho,hnf⟩:=hl.mem hm
  rw [he] at ho
  cases ho
  exact hnf _ rfl
 refine wpAny_bind (wpAny_frameOf_fun hfr hl hf fun h1 hs1=>wpAny_bind (wpAny_entryPlaceOf fun pl hpl=>?_))
 unfold EntryCells.newEntry newFields
 refine wpAny_bind (wpAny_newObj_type ?_ (hpl.sizeOk5 _ _ _ _ _))
 have he1:h1.get? e=some ⟨.ref C,dd,.fields #[.ref t0,w1,v2,v3,v4,v5],sl0⟩:=(hs1.2.1 e ene).trans he
 generalize hO:({ cls:=.type "traceback",dict:=none,data:=.fields ([head,.ref L,.none,rawInt L,.none]++(if pl.isEmpty then List.replicate 6 Value.none else pl)).toArray }:Obj)=oT
 have he2:=Heap.get?_push_of_some (h:=h1) oT he1
 refine wpAny_setField he2 rfl (by show 1 < 6;decide) ?_
 have ne:h1.objs.size≠e:=Nat.ne_of_gt (Heap.lt_size he1)
 have hdT:oT.data=.fields ([head,.ref L,.none,rawInt L,.none]++(if pl.isEmpty then List.replicate 6 Value.none else pl)).toArray:=by rw [<- hO]
 have fr:oT.isFreed=false:=by rw [<- hO];rfl
 have he3:((h1.push oT).update e (Obj.mapFields (·.setIfInBounds 1 (Value.ref h1.objs.size)))).get? e=some ⟨.ref C,dd,.fields #[.ref t0,.ref h1.objs.size,v2,v3,v4,v5],sl0⟩:=Heap.get?_update_self _ he2 rfl
 have hT3:((h1.push oT).update e (Obj.mapFields (·.setIfInBounds 1 (Value.ref h1.objs.size)))).get? h1.objs.size=some oT:=(Heap.get?_update_other _ _ (Ne.symm ne)).trans (Heap.get?_push_size h1 fr)
 unfold setFlight
 refine wpAny_bind (wpAny_field he3 rfl (x:=.ref h1.objs.size) rfl ?_)
 rw [if_pos (show (Value.ref h1.objs.size != Value.none)=true by simp)]
 have sz:s.heap.objs.size=h1.objs.size:=hs1.1.symm
 refine wpAny_setField hT3 hdT (by simp only [List.size_toArray,List.length_append,List.length_cons,List.length_nil] <;> omega) (q _ h1.objs.size ?_ ⟨fun b o b1 b2 b3 hb=>?_,fun b o b1 b2 hb=>?_⟩ ?_)
 ·exact Heap.get?_none_of_le (Nat.le_of_eq sz)
 ·have hb1:h1.get? b=some o:=(hs1.2.1 b b3).trans hb
  rw [Heap.get?_update_other _ _ (Ne.symm b2),Heap.get?_update_other _ _ (Ne.symm b1)]
  exact Heap.get?_push_of_some _ hb1
 ·obtain ⟨sl,hb1⟩:=hs1.2.2 b o hb
  refine ⟨sl,?_⟩
  rw [Heap.get?_update_other _ _ (Ne.symm b2),Heap.get?_update_other _ _ (Ne.symm b1)]
  exact Heap.get?_push_of_some _ hb1
 ·have dt:=Obj.data_mapFields hdT (·.setIfInBounds 3 ((none:Option Addr).elim Value.none fun f=>rawInt f))
  refine ⟨t0,v2,v3,v4,v5,sl0,_,_,?_,ne,Heap.get?_update_self _ hT3 (Obj.isFreed_of_fields dt),dt,?_⟩
  ·rw [Heap.get?_update_other _ _ ne]
   exact he3
  ·first | (simp;done) | (rcases hpl with rfl | ⟨_,_,_,_,_,_,_,rfl⟩ <;> simp)
theorem leave_new {base:Heap}{env:Env}{outer:List Env}{L e C t0:Addr}{dd:Option Addr}{v2 v3 v4 v5:Value}{sl0:Array (Option Value)}{Q:Unit->Shared->Prop}
  (hfr:A.frames=some (env::outer))(hl:s.heap.FunFrames base (env::outer))(hf:env.frame=some L)(he:s.heap.get? e=some ⟨.ref C,dd,.fields #[.ref t0,.none,v2,v3,v4,v5],sl0⟩)
  (q:∀ h' T,s.heap.get? T=none->Way (frs (env::outer)) e T s.heap h'->kh h' e C T dd->Q () { s with heap:=h' }):wpAny M A (leaving env (.ref e)) Q E s:=by
 unfold leaving noteFrame
 simp only [hf]
 refine wpAny_bind (wpAny_bind (wpAny_field he rfl (x:=.none) rfl ?_))
 rw [if_neg (show ¬ ((Value.none != Value.none)=true) by decide)]
 exact tG (T0:=e) hfr hl hf he q
theorem Ck {base:Heap}{env:Env}{outer:List Env}{L e C T:Addr}{dd:Option Addr}{Q:Unit->Shared->Prop}
  (hfr:A.frames=some (env::outer))(hl:s.heap.FunFrames base (env::outer))(hf:env.frame=some L)(ho:kh s.heap e C T dd)
  (q:∀ h' T2,s.heap.get? T2=none->(∀ b o,b≠e->b≠T->b≠T2->b∉frs (env::outer)->s.heap.get? b=some o->h'.get? b=some o)->(∀ b o,b≠e->b≠T->b≠T2->s.heap.get? b=some o->∃ sl,h'.get? b=some { o with slots:=sl })->kh h' e C T2 dd->Q () { s with heap:=h' }):wpAny M A (leaving env (.ref e)) Q E s:=by
 obtain ⟨t0,v2,v3,v4,v5,sl0,oT,ts,he,hTe,hT,hdT,h3⟩:=ho
 unfold leaving noteFrame
 simp only [hf]
 refine wpAny_bind (wpAny_bind (wpAny_field he rfl (x:=.ref T) rfl ?_))
 rw [if_pos (show (Value.ref T != Value.none)=true by simp)]
 refine wpAny_bind (wpAny_field hT hdT h3 ?_)
 rw [if_neg (show ¬ ((Value.none == rawInt L)=true) by simp [rawInt])]
 refine wpAny_bind (wpAny_setField hT hdT (Array.getElem?_eq_some_iff.mp h3).1 ?_)
 have other:∀ b,b≠T->(s.heap.update T (Obj.mapFields (·.setIfInBounds 3 Value.none))).get? b=s.heap.get? b:=fun b hb=>Heap.get?_update_other _ _ (Ne.symm hb)
 have noRec:∀ b o,s.heap.get? b=some o->(∀ vs,o.data≠.fields vs)->b≠T:=fun b o hb hnf z=>by
  rw [z,hT] at hb
  cases hb
  exact hnf ts hdT
 refine tG (s:={ s with heap:=s.heap.update T (Obj.mapFields (·.setIfInBounds 3 Value.none)) }) (T0:=T) hfr (hl.of_keeps fun b o hb hnf=>⟨o,(other b (noRec b o hb hnf)).trans hb,rfl⟩) hf ((other e (Ne.symm hTe)).trans he) fun h' T2 n2 W O=>?_
 have n2':s.heap.get? T2=none:=by
  cases c:s.heap.get? T2 with
  | none=>rfl
  | some o =>
   exfalso
   by_cases z:T2=T
   ·subst z
    rw [Heap.get?_update_self _ hT (Obj.isFreed_of_fields (Obj.data_mapFields hdT _))] at n2
    cases n2
   ·rw [show ({ s with heap:=s.heap.update T (Obj.mapFields (·.setIfInBounds 3 Value.none)) }:Shared).heap.get? T2=s.heap.get? T2 from other T2 z,c] at n2
    cases n2
 exact q h' T2 n2' (fun b o b1 b2 b3 b4 hb=>W.keep b o b1 b3 b4 ((other b b2).trans hb)) (fun b o b1 b2 b3 hb=>W.slot b o b1 b3 ((other b b2).trans hb)) O
end
end L2
namespace L2
open PySem PySem.Spec PyProof.Rows PySem.W
def bT (P:Program)(w:World):ku:=fun outer H s E e s' =>
 ∃ a C T H',e=.ref a/\s'.os=s.os/\AllBare s'.gens/\Un (frs outer) [] H H' s.heap s'.heap/\dJ P w H' s'.heap/\kh s'.heap a C T none/\s.heap.get? T=none/\H' T=none/\s.heap.get? a=none/\H' a=some (.ext (mj a C none))/\E (.ref C) (some a) H'
theorem kh.LB {h:Heap}{e C T:Addr}{dd:Option Addr}(o:kh h e C T dd):mj e C dd h:=by
 obtain ⟨t0,v2,v3,v4,v5,sl,_,_,he,_⟩:=o
 exact ⟨t0,_,v2,v3,v4,v5,sl,he⟩
theorem FD {P:Program}{w:World}{H:Hp}{h h':Heap}{a C:Addr}{fs:List Addr}{N:Addr->Prop}(ok:dJ P w H h)(ha:H a=some (.ext (mj a C none)))(hN:∀ b,N b->H b=none)(hf:∀ b∈fs,H b=none)
  (k:∀ b o,b≠a->¬ N b->b∉fs->h.get? b=some o->h'.get? b=some o)(x:mj a C none h'):dJ P w H h':=fun b u e=>by
 by_cases z:b=a
 ·subst z
  rw [ha] at e
  cases e
  exact zX x
 ·have nn:∀ c v,H c=some v->¬ N c/\c∉fs:=fun c v q=>⟨fun y=>(by rw [hN c y] at q;cases q),fun y=>(by rw [hf c y] at q;cases q)⟩
  refine (ok b u e).stay (fun c v hc r=>k c v ?_ ?_ ?_ r) (fun c r=>r) fun c xs r=>r
  ·rcases hc with y | y
   ·rw [y];exact z
   ·intro q
    rw [q,ha] at y
    cases y
  ·rcases hc with y | y
   ·rw [y];exact (nn b u e).1
   ·exact (nn c _ y).1
  ·rcases hc with y | y
   ·rw [y];exact (nn b u e).2
   ·exact (nn c _ y).2
section
variable {CX:ku}{P:Program}{w:World}{K:Frag}{mg:Str->Option Value}{base:Heap}{N:List Str}{qual:Str}{scope:Scope}{f:Addr}{cd:Value}{A:Around}{outer:List Env}{s0:Shared}{H0:Hp}{E:XK}
theorem xG {pins:List (Addr×Obj)}{σ:St}{H:Hp}{s:Shared}{a C T:Addr}{h':Heap}{Nw:Addr->Prop}(I:Inv (gz CX P w K mg base N qual scope f cd A outer s0 H0 E) pins σ H s)(ha:H a=some (.ext (mj a C none)))(na:s0.heap.get? a=none)
  (hN:∀ b,Nw b->H b=none)(hN0:∀ b,Nw b->s0.heap.get? b=none)(hT:Nw T)
  (k:∀ b o,b≠a->¬ Nw b->b∉frs (envOfC qual scope s0.heap.objs.size f cd::outer)->s.heap.get? b=some o->h'.get? b=some o)(sl:∀ b o,b≠a->¬ Nw b->s.heap.get? b=some o->∃ sl,h'.get? b=some { o with slots:=sl })
  (O:kh h' a C T none)(q:E (.ref C) (some a) H):bT P w outer H0 s0 E (.ref a) { s with heap:=h' }:=by
 have B:Un (frs outer) [] H0 H s0.heap s.heap:=I.base
 have old:∀ b o,s0.heap.get? b=some o->b≠a/\¬ Nw b:=fun b o e=>⟨(fun z=>by rw [z,na] at e;cases e),fun z=>by rw [hN0 b z] at e;cases e⟩
 have notloc:∀ b o,s0.heap.get? b=some o->b∉frs outer->b∉frs (envOfC qual scope s0.heap.objs.size f cd::outer):=fun b o e nb z=>by
  have z2:b∈(envOfC qual scope s0.heap.objs.size f cd).frame.toList++frs outer:=by
   have:frs (envOfC qual scope s0.heap.objs.size f cd::outer)=s0.heap.objs.size::frs outer:=rfl
   rw [this] at z
   exact z
  rcases List.mem_append.mp z2 with y | y
  ·have y:some s0.heap.objs.size=some b:=by
    have y0:(envOfC qual scope s0.heap.objs.size f cd).frame=some b:=by simpa using y
    exact y0
   have y:s0.heap.objs.size=b:=Option.some.inj y
   exact absurd (Heap.lt_size e) (by rw [<- y];exact Nat.lt_irrefl _)
  ·exact nb y
 refine ⟨a,C,T,H,rfl,I.os,I.bare,⟨fun b o e n nf nx=>?_,fun b o e n nf nx=>?_,fun b o e n nx=>B.free b o e n nx,fun b o e nx=>?_,B.tups,B.jy,B.j5⟩,?_,O,hN0 T hT,hN T hT,na,ha,q⟩
 ·exact k b o (old b o e).1 (old b o e).2 (notloc b o e nf) (B.keep b o e n nf nx)
 ·obtain ⟨sl1,e1⟩:=B.slot b o e n nf nx
  obtain ⟨sl2,e2⟩:=sl b _ (old b o e).1 (old b o e).2 e1
  exact ⟨sl2,e2⟩
 ·obtain ⟨o1,e1⟩:=B.there b o e nx
  obtain ⟨sl2,e2⟩:=sl b _ (old b o e).1 (old b o e).2 e1
  exact ⟨_,e2⟩
 ·exact FD I.hok ha hN (I.nO) (fun b o b1 b2 b3 e=>k b o b1 b2 b3 e) O.LB
theorem Ic {pins:List (Addr×Obj)}{σ:St}{H:Hp}{s:Shared}{a C t0:Addr}{v2 v3 v4 v5:Value}{sl0:Array (Option Value)}(I:Inv (gz (bT P w) P w K mg base N qual scope f cd A outer s0 H0 E) pins σ H s)(ha:H a=some (.ext (mj a C none)))
  (he:s.heap.get? a=some ⟨.ref C,none,.fields #[.ref t0,.none,v2,v3,v4,v5],sl0⟩)(na:s0.heap.get? a=none)(q:E (.ref C) (some a) H):(gz (bT P w) P w K mg base N qual scope f cd A outer s0 H0 E).xe (.ref a) s:=by
 refine leave_new (base:=base) (L:=s0.heap.objs.size) I.ok.frames I.stack rfl he fun h' T nT W O=>?_
 have nT0:s0.heap.get? T=none:=by
  cases c:s0.heap.get? T with
  | none=>rfl
  | some o =>
   obtain ⟨o1,e1⟩:=I.base.there T o c (by show T∉([]:List Addr);simp)
   rw [e1] at nT
   cases nT
 exact xG (Nw:=fun b=>b=T) I ha na (fun b z=>by rw [z];exact I.jL nT) (fun b z=>by rw [z];exact nT0) rfl (fun b o b1 b2 b3 e=>W.keep b o b1 b2 b3 e) (fun b o b1 b2 e=>W.slot b o b1 b2 e) O q
theorem bQ:Passes (bT P w) (gz (bT P w) P w K mg base N qual scope f cd A outer s0 H0 E) E:=by
 intro pins σ H s e s' I h
 obtain ⟨a,C,T,H',rfl,os,bare,un,hok,O,nT,hT,na,ha,q⟩:=h
 have I':=I.xY (s':=s') (ch:=[]) os un hok bare fun b z=>absurd z (by simp)
 have up:∀ b,s.heap.get? b=none->s0.heap.get? b=none:=fun b n=>by
  cases c:s0.heap.get? b with
  | none=>rfl
  | some o =>
   obtain ⟨o1,e1⟩:=I.base.there b o c (by show b∉([]:List Addr);simp)
   rw [e1] at n
   cases n
 refine Ck (base:=base) (L:=s0.heap.objs.size) I'.ok.frames I'.stack rfl O fun h' T2 n2 k sl O2=>?_
 have nT2:s0.heap.get? T2=none:=by
  cases c:s0.heap.get? T2 with
  | none=>rfl
  | some o =>
   obtain ⟨o1,e1⟩:=I'.base.there T2 o c (by show T2∉([]:List Addr);simp)
   rw [e1] at n2
   cases n2
 refine xG (Nw:=fun b=>b=T\/b=T2) I' ha (up a na) (fun b z=>?_) (fun b z=>?_) (.inr rfl) (fun b o b1 b2 b3 e=>k b o b1 (fun z=>b2 (.inl z)) (fun z=>b2 (.inr z)) b3 e) (fun b o b1 b2 e=>sl b o b1 (fun z=>b2 (.inl z)) (fun z=>b2 (.inr z)) e) O2 q
 ·rcases z with rfl | rfl
  ·exact hT
  ·exact I'.jL n2
 ·rcases z with rfl | rfl
  ·exact up _ nT
  ·exact nT2
end
end L2
namespace L2
open PySem PySem.Spec PyProof.Rows PySem.W
section
variable {P:Program}{w:World}{K:Frag}{mg:Str->Option Value}{base:Heap}{N:List Str}{qual:Str}{scope:Scope}{f:Addr}{cd:Value}{A:Around}{outer:List Env}{s0:Shared}{H0:Hp}{E:XK}
def G4 (C:Addr)(E:XK)(t:TA):TS:=fun _ σ H=>t σ H fun vs H1=>vs.length<=sizeLine/\∀ a,H1 a=none->E (.ref C) (some a) (upd H1 a (.ext (mj a C none)))
theorem BK {x:Str}{np cpos pos:Pos}{e:Expr}{es:List Expr}{t:TA}{C:Addr}
  (hc:gH K C sQ "ValueError.__new__" none=true)(hg:Gl (gz (bT P w) P w K mg base N qual scope f cd A outer s0 H0 E) x)(hm:mg x=some (.ref C))
  (ha:PA (gz (bT P w) P w K mg base N qual scope f cd A outer s0 H0 E) (e::es) t)(hdb:(x == ("__debug__":Str))=false:=by decide)
  (he:starEach (e::es) (envOfC qual scope s0.heap.objs.size f cd)=(false,eval e (envOfC qual scope s0.heap.objs.size f cd))::starEach es (envOfC qual scope s0.heap.objs.size f cd):=by rfl)
  (hpl:(backTo cpos (starEach es (envOfC qual scope s0.heap.objs.size f cd))).any (·.1)=false:=by rfl) :
  PS (gz (bT P w) P w K mg base N qual scope f cd A outer s0 H0 E) (.Raise (some (.Call (.Name x np) (e::es) [] cpos)) none pos) (G4 C E t):=by
 intro pins s σ H D I h
 obtain ⟨bm,N0,nm,qn,bs,hd,sn,sub,ab,col,dd,k0,k1,k2,k3,k5,mN,hC,hN,hni,T⟩:=(Fc I.ok.mod.CD hc).obj
 refine wpAny_Raise_call_subT (C:=C) (nm:=nm) (q:=qn) (N:=N0) (bs:=bs) (bm:=bm) (hdct:=hd) (sn:=sn) (sub:=sub) (ab:=ab) (col:=col) (dd:=dd) (k0:=k0) (k1:=k1) (k2:=k2) (k3:=k3) (k5:=k5)
  PySem.F.excBase_ValueError (mN:=mN) (T.hasType (by decide)) (I.ok.hd rfl) (by show (backTo cpos (starEach (e::es) (envOfC qual scope s0.heap.objs.size f cd))).any (·.1)=false;rw [he];show (false || (backTo cpos (starEach es (envOfC qual scope s0.heap.objs.size f cd))).any (·.1))=false;rw [hpl];rfl) hni (wF I hg hm ⟨rfl,?_⟩ hdb)
 have go:=ha cpos pins s σ H _ I h
 show wpAny (model P w) _ (evalArgs (.ref C) true (backTo cpos (starEach (e::es) (envOfC qual scope s0.heap.objs.size f cd))) []) _ _ _
 have go':wpAny (model P w) _ (spliced (backTo cpos (starEach (e::es) (envOfC qual scope s0.heap.objs.size f cd)))) _ _ _:=go
 rw [he] at go' ⊢
 refine Calls.evalArgs_plain (aG go' fun us s1 ⟨vs,H1,I1,r,hz,q⟩=>?_)
 have kp:∀ b o,base.get? b=some o->s1.heap.get? b=some o:=I1.bk
 refine ⟨rfl,by rw [<- r.length];exact hz,kp _ _ hC,hN.keeps kp,T.keeps kp,fun h' a M=>?_⟩
 obtain ⟨hp,g,dr,tk,os⟩:=s1
 obtain ⟨keeps,new,t0,hx,_,_⟩:=M
 have I2:=I1.x6 (a:=a) (o:=.ext (mj a C none)) (t':=tk) keeps new (zX ⟨_,_,_,_,_,_,_,hx⟩)
 have na:s0.heap.get? a=none:=by
  cases c:s0.heap.get? a with
  | none=>rfl
  | some o =>
   obtain ⟨o1,e1⟩:=I1.base.there a o c (by show a∉([]:List Addr);simp)
   rw [e1] at new
   cases new
 exact Ic I2 (aL) hx na (q a (I1.jL new))
end
end L2
namespace L2
open PySem PySem.Spec PyProof.Rows PySem.W
section
variable {P:Program}{w:World}{K:PySem.W.Frag}{mg:Str->Option Value}{base:Heap}
theorem dh.Lr {x qual:Str}{st:Stmt}{f:Addr}{fd:FuncData}{N ps:List Str}{k:Nat}{sp:Sp}(F:dh K x qual st f fd)(S:aQ N ps (ai st))(len:∀ vs H Q E,sp vs H Q E->vs.length=ps.length)
  (hbody:∀ (cdv:Value)(A:Around)(outer:List Env)(s:Shared)(H:Hp)(vs:List V)(Q:VK)(E:XK),d9 k (A.deeper (envOfC qual (ai st) s.heap.objs.size f cdv))->sp vs H Q E ->
   ∃ t,mE (gz (bT P w) P w K mg base N qual (ai st) f cdv A outer s H E) (aH st) t/\t { nx:=fun _ H'=>Q .br H',rt:=Q } (start N vs) H):bF P w K mg base (bT P w) (k + 1) f fd ps sp:=by
 obtain ⟨oc,od,kV,doc,pm,an,cdv,ct,osl,rfl,lk,hcd⟩:=F.ex
 refine JG lk hcd S len fun A outer s H vs Q E hr hsp=>?_
 obtain ⟨t,h,q⟩:=hbody cdv A outer s H vs Q E hr hsp
 exact ⟨t,h,q⟩
def aJ (P:Program)(w:World)(K:PySem.W.Frag)(mg:Str->Option Value)(base:Heap) (k:Nat) (x:Str)(ps:List Str)(sp:Sp):Prop :=
 ∃ f fd,mg x=some (.ref f)/\PySem.W.keepIn K (.ref f)=true/\Binds K fd ps []/\bF P w K mg base (bT P w) k f fd ps sp
end
end L2
namespace Dv
open PySem L2 PySem.W
def WE (X:Cx)(e:Expr):TE:=fun σ H Q=>∀ (pins:List (Addr×Obj))(s:Shared),Inv X pins σ H s->wpAny (model X.prog X.w) X.A (eval e X.env) (EP X pins σ Q) X.xe s
theorem bx {X:Cx}{e:Expr}:PE X e (WE X e):=fun pins s _ _ _ I h=>h pins s I
theorem WE.of {X:Cx}{e:Expr}{t:TE}{σ:St}{H:Hp}{Q:VK}(h:PE X e t)(q:t σ H Q):WE X e σ H Q:=fun pins s I=>h pins s σ H Q I q
def WT (X:Cx)(e:Expr):TT:=fun σ H Q=>∀ (pins:List (Addr×Obj))(s:Shared),Inv X pins σ H s->wpAny (model X.prog X.w) X.A (isTrue e X.env (eval e X.env)) (TP X pins σ Q) X.xe s
theorem jh {X:Cx}{e:Expr}:PT X e (WT X e):=fun pins s _ _ _ I h=>h pins s I
theorem WT.of {X:Cx}{e:Expr}{t:TT}{σ:St}{H:Hp}{Q:Bool->Hp->Prop}(h:PT X e t)(q:t σ H Q):WT X e σ H Q:=fun pins s I=>h pins s σ H Q I q
def qa (X:Cx):List Expr->TA
 | [],_,H,Q=>Q [] H
 | e::es,σ,H,Q=>WE X e σ H fun v H1=>qa X es σ H1 fun vs H2=>Q (v::vs) H2
def sel (π:List Nat)(σ:St):St:=π.map fun i=>(σ[i]?).join
theorem fS {π:List Nat}{σ:St}{j i:Nat}{v:V}(h:π[j]?=some i)(e:σ[i]?=some (some v)):(sel π σ)[j]?=some (some v):=by
 unfold sel
 rw [List.getElem?_map,h]
 show some (σ[i]?).join=_
 rw [e]
 rfl
def XL (X:Cx)(Ex:XK)(x:XC)(g:Gh):Prop:=∀ (c:Str)(d:PyData)(C a:Addr)(H':Hp),X.mg c=some (.ref C)->x c d->(∀ p o,p∉g.M->g.H0 p=some o->H' p=some o)->H' a=some (.ext (mj a C none))->g.H0 a=none->Ex (.ref C) (some a) H'
theorem XL.no {X:Cx}{Ex:XK}{g:Gh}:XL X Ex xF g:=fun _ _ _ _ _ _ z=>z.elim
def SE (X:Cx)(Ex:XK)(π:List Nat)(e:Expr)(d:DE):Prop :=
 ∀ (g:Gh)(x:XC)(E:En)(σ:St)(H Hm:Hp)(F:Nat->List Addr)(P:En->Kd->PyData->Prop)(Q:VK),XL X Ex x g->Rl X.K g E σ H Hm F->d x E P ->
  (∀ E' k v u H' Hm' F' fp,P E' k v->Rl X.K g E' σ H' Hm' F'->aj Hm Hm'->Tm X.K g F' H' Hm' k u v fp->Q u H')->WE X e (sel π σ) H Q
def ST (X:Cx)(Ex:XK)(π:List Nat)(e:Expr)(d:DT):Prop :=
 ∀ (g:Gh)(x:XC)(E:En)(σ:St)(H Hm:Hp)(F:Nat->List Addr)(P:En->Bool->Prop)(Q:Bool->Hp->Prop),XL X Ex x g->Rl X.K g E σ H Hm F->d x E P ->
  (∀ E' b H' Hm' F',P E' b->Rl X.K g E' σ H' Hm' F'->aj Hm Hm'->Q b H')->WT X e (sel π σ) H Q
inductive aU (X:Cx)(Ex:XK)(π:List Nat):List Expr->List Arg->Prop
 | nil:aU X Ex π [] []
 | pk {e:Expr}{es:List Expr}{as:List Arg}{i j:Nat}:PE X e (l0 j)->π[j]?=some i->aU X Ex π es as->aU X Ex π (e::es) (.pk i::as)
 | ev {e:Expr}{es:List Expr}{as:List Arg}{d:DE}:SE X Ex π e d->aU X Ex π es as->aU X Ex π (e::es) (.ev d::as)
inductive Got (K:Frag)(σ:St)(Hm:Hp):List Arg->List (Option PyData)->List V->Prop
 | nil:Got K σ Hm [] [] []
 | pk {i:Nat}{v:V}{as:List Arg}{os:List (Option PyData)}{vs:List V}:σ[i]?=some (some v)->Got K σ Hm as os vs->Got K σ Hm (.pk i::as) (none::os) (v::vs)
 | ev {e:DE}{v:V}{d:PyData}{as:List Arg}{os:List (Option PyData)}{vs:List V}:Rp K Hm v d->Got K σ Hm as os vs->Got K σ Hm (.ev e::as) (some d::os) (v::vs)
theorem ki {K:Frag}{g:Gh}{E:En}{σ:St}{H Hm:Hp}{F:Nat->List Addr}(R:Rl K g E σ H Hm F){i:Nat}(h:here E i=true):∃ v,σ[i]?=some (some v):=by
 unfold here at h
 split at h
 ·rename_i kd e
  obtain ⟨v,h1,_⟩:=R.slot i kd.1 kd.2 e
  exact ⟨v,h1⟩
 ·cases h
section
variable {X:Cx}{Ex:XK}{π:List Nat}{g:Gh}{x:XC}{σ:St}
theorem jW (hx:XL X Ex x g){es:List Expr}{as:List Arg}(S:aU X Ex π es as):∀ {E:En}{H Hm:Hp}{F:Nat->List Addr}{P:En->List (Option PyData)->Prop}{Q:List V->Hp->Prop},Rl X.K g E σ H Hm F->ig as x E P ->
  (∀ E' os vs H' Hm' F',P E' os->Rl X.K g E' σ H' Hm' F'->aj Hm Hm'->Got X.K σ Hm' as os vs->Q vs H')->qa X es (sel π σ) H Q:=by
 induction S with
 | nil=>exact fun R h q=>q _ _ _ _ _ _ h R (aj.refl _) .nil
 | @pk e es as i j hp hj _ ih =>
  intro E H Hm F P Q R h q
  obtain ⟨h1,h2⟩:=h
  obtain ⟨v,hv⟩:=ki R h1
  refine WE.of hp ⟨v,fS hj hv,ih R h2 fun E' os vs H' Hm' F' p R' s G=>q _ _ _ _ _ _ p R' s (.pk hv G)⟩
 | @ev e es as d hd _ ih =>
  intro E H Hm F P Q R h q
  refine hd g x E σ H Hm F _ _ hx R h fun E1 k v u H1 Hm1 F1 fp p R1 s1 T=>?_
  obtain ⟨hk,p⟩:=p
  obtain ⟨Hm2,s2,R2,r⟩:=T.fM R1 hk
  exact ih R2 p fun E' os vs H' Hm' F' p' R' s' G=>q _ _ _ _ _ _ p' R' (s1.trans (s2.trans s')) (.ev (r.mono s') G)
theorem jK {K:Frag}{E:En}{H Hm:Hp}{F:Nat->List Addr}(R:Rl K g E σ H Hm F){Hm1:Hp}(s:aj Hm Hm1):∀ {as:List Arg}{os:List (Option PyData)}{vs:List V}{ds:List PyData},Got K σ Hm as os vs->fill as E os=some ds->(∀ i∈gI as,∀ a∈F i,Hm1 a=H a)->aA K Hm1 vs ds
 | _,_,_,_,.nil,h,_=>by cases h;exact .nil
 | _,_,_,_,.pk (i:=i) (as:=as) (os:=os) hv G,h,n=>by
  rw [fill] at h
  split at h
  ·rename_i k d e
   by_cases hk:k.rd=true
   ·rw [if_pos hk] at h
    cases hf:fill as E os with
    | none=>rw [hf] at h;cases h
    | some es =>
     rw [hf] at h
     cases h
     obtain ⟨v',h1,h2⟩:=R.slot i k d e
     rw [hv] at h1
     cases h1
     exact .cons (h2.rp hk s (n i List.mem_cons_self)) (jK R s G hf fun j hj=>n j (List.mem_cons_of_mem _ hj))
   ·rw [if_neg hk] at h;cases h
  ·cases h
 | _,_,_,_,.ev (as:=as) (os:=os) r G,h,n=>by
  rw [fill] at h
  cases hf:fill as E os with
  | none=>rw [hf] at h;cases h
  | some es =>
   rw [hf] at h
   cases h
   exact .cons (r.mono s) (jK R s G hf n)
theorem lW:∀ {is:List Nat}{E E2:En},cU is E=some E2->E2.length=E.length/\∀ j,(j∉is->E2[j]?=E[j]?)/\(j∈is->∃ k d,E[j]?=some (some (k,d))/\k.fz=true/\E2[j]?=some (some (.sh,d)))
 | [],E,E2,h=>by
  cases h
  exact ⟨rfl,fun j=>⟨fun _=>rfl,fun z=>by cases z⟩⟩
 | i::r,E,E2,h=>by
  have h:(cT E i).bind (cU r)=some E2:=h
  cases hf:cT E i with
  | none=>rw [hf] at h;cases h
  | some E1 =>
   rw [hf] at h
   obtain ⟨l1,g1⟩:=lW (is:=r) (E:=E1) (E2:=E2) h
   unfold cT at hf
   split at hf
   ·rename_i k d e
    by_cases hk:k.fz=true
    ·rw [if_pos hk] at hf
     cases hf
     have li:i < E.length:=by
      rcases Nat.lt_or_ge i E.length with h | h
      ·exact h
      ·rw [List.getElem?_eq_none h] at e;cases e
     rw [List.length_set] at l1
     refine ⟨l1,fun j=>⟨fun n=>?_,fun m=>?_⟩⟩
     ·have n1:j≠i:=fun z=>n (z ▸ List.mem_cons_self)
      rw [(g1 j).1 fun z=>n (List.mem_cons_of_mem _ z),ao (Ne.symm n1)]
     ·by_cases c:j=i
      ·subst c
       by_cases m':j∈r
       ·obtain ⟨k2,d2,e2,_,e3⟩:=(g1 j).2 m'
        rw [aF li] at e2
        cases e2
        exact ⟨k,d,e,hk,e3⟩
       ·exact ⟨k,d,e,hk,by rw [(g1 j).1 m',aF li]⟩
      ·have m':j∈r:=(List.mem_cons.mp m).resolve_left c
       obtain ⟨k2,d2,e2,h2,e3⟩:=(g1 j).2 m'
       rw [ao (Ne.symm c)] at e2
       exact ⟨k2,d2,e2,h2,e3⟩
    ·rw [if_neg hk] at hf;cases hf
   ·cases hf
theorem uA {K:Frag}{E E2:En}{H H' Hm Hm2:Hp}{F:Nat->List Addr}{is:List Nat}{k:Kd}{u:V}{v:PyData}{fp:List Addr}(R:Rl K g E σ H Hm F)(hE:(if flat k v=true then some E else cU is E)=some E2)
  (sH:aj H H')(s1:aj (lend Hm H (is.flatMap F)) Hm2)(s2:aj Hm2 H')(old:∀ a,H a≠none->OE (Hm2 a) (lend Hm H (is.flatMap F) a))(o:Own K H' Hm2 k u v fp)(fr:∀ a∈fp,H a=none/\Hm2 a=none) :
  ∃ Hm' F',Rl K g E2 σ H' Hm' F'/\aj Hm Hm'/\Tm K g F' H' Hm' k u v fp:=by
 have mem:∀ {a i},a∈F i->i∈is->a∈is.flatMap F:=fun ha hi=>List.mem_flatMap.mpr ⟨_,hi,ha⟩
 have off:∀ a∈is.flatMap F,Hm a=none:=fun a ha=>by
  obtain ⟨i,_,h⟩:=List.mem_flatMap.mp ha
  exact R.off i a h
 have up:aj Hm (lend Hm H (is.flatMap F)):=i9 off
 have bI:∀ {i a},a∈F i->H a≠none:=fun ha z=>by
  obtain ⟨u,hu,_⟩:=R.bI _ _ ha
  rw [z] at hu
  cases hu
 have nfp:∀ a∈fp,∀ i,a∉F i:=fun a ha i=>R.fresh (fr a ha).1
 by_cases hf:flat k v=true
 ·rw [if_pos hf] at hE
  cases hE
  refine ⟨back Hm2 (is.flatMap F),F,R.grow sH (fun b o e=>?_) (vt s2) (fun i a ha=>?_) (fun a ha=>?_),fun b o e=>?_,⟨o.flat (fun a xs h=>?_) hf,fun a ha=>?_,nfp,fun a ha=>R.gF (fr a ha).1⟩⟩
  ·rw [dF fun z=>by rw [off b z] at e;cases e]
   exact s1 _ _ (up _ _ e)
  ·by_cases c:a∈is.flatMap F
   ·exact iV c
   ·rw [dF c]
    obtain ⟨w,hw,nt⟩:=R.bI i a ha
    exact (old a (bI ha)).off (by rw [dG c];exact R.off i a ha) s2 (sH _ _ hw) nt
  ·by_cases c:a∈is.flatMap F
   ·rw [iV c,off a c];exact .inl rfl
   ·have h:=old a (R.qD ha)
    rw [dG c] at h
    rw [dF c]
    exact h
  ·rw [dF fun z=>by rw [off b z] at e;cases e]
   exact s1 _ _ (up _ _ e)
  ·have c:a∉is.flatMap F:=fun z=>by
    obtain ⟨i,_,hi⟩:=List.mem_flatMap.mp z
    obtain ⟨w,hw,nt⟩:=R.bI i a hi
    have e2:Hm2 a=some w:=s1 _ _ (by rw [fR z];exact hw)
    rw [e2] at h
    cases h
    exact nt xs rfl
   rw [dF c]
   exact h
  ·by_cases c:a∈is.flatMap F
   ·exact iV c
   ·rw [dF c];exact (fr a ha).2
 ·rw [if_neg hf] at hE
  obtain ⟨l2,g2⟩:=lW hE
  have R':Rl K g E2 σ H' Hm2 (fun j=>if j∈is then [] else F j):={
   len:=l2.trans R.len
   sub:=s2
   slot:=fun j k' d' e'=>by
    by_cases c:j∈is
    ·obtain ⟨k0,d0,e0,hk0,e1⟩:=(g2 j).2 c
     rw [e1] at e'
     cases e'
     obtain ⟨v',h1,h2⟩:=R.slot j k0 _ e0
     refine ⟨v',h1,?_⟩
     rw [if_pos c]
     exact .sh ((h2.rp (by cases k0 <;> first | rfl | cases hk0) up fun a ha=>fR (mem ha c)).mono s1)
    ·rw [(g2 j).1 c] at e'
     obtain ⟨v',h1,h2⟩:=R.slot j k' d' e'
     refine ⟨v',h1,?_⟩
     rw [if_neg c]
     refine h2.step (up.trans s1) fun a ha=>?_
     obtain ⟨w,hw,_⟩:=h2.live a ha
     rw [hw]
     exact sH _ _ hw
   off:=fun j a ha=>by
    by_cases c:j∈is
    ·rw [if_pos c] at ha;cases ha
    ·rw [if_neg c] at ha
     obtain ⟨w,hw,nt⟩:=R.bI j a ha
     refine (old a (bI ha)).off ?_ s2 (sH _ _ hw) nt
     rw [dG]
     ·exact R.off j a ha
     ·intro z
      obtain ⟨i,hi,h⟩:=List.mem_flatMap.mp z
      exact c (R.aR i j a h ha ▸ hi)
   bI:=fun j a ha=>by
    by_cases c:j∈is
    ·rw [if_pos c] at ha;cases ha
    ·rw [if_neg c] at ha
     obtain ⟨w,hw,nt⟩:=R.bI j a ha
     exact ⟨w,sH _ _ hw,nt⟩
   aR:=fun j l a h1 h2=>by
    by_cases c:j∈is
    ·rw [if_pos c] at h1;cases h1
    ·rw [if_neg c] at h1
     by_cases c':l∈is
     ·rw [if_pos c'] at h2;cases h2
     ·rw [if_neg c'] at h2;exact R.aR j l a h1 h2
   fr:=fun p o hp ho=>sH _ _ (R.fr p o hp ho)
   new:=fun j a ha=>by
    by_cases c:j∈is
    ·rw [if_pos c] at ha;cases ha
    ·rw [if_neg c] at ha;exact R.new j a ha
   pin:=fun q hq=>by
    obtain ⟨h1,ds',h2⟩:=R.pin q hq
    have c:q.1∉is:=fun z=>by
     obtain ⟨k0,d0,e0,hk0,_⟩:=(g2 q.1).2 z
     rw [h2] at e0
     cases e0
     cases hk0
    exact ⟨h1,ds',by rw [(g2 q.1).1 c];exact h2⟩
   old:=fun a ha=>by
    refine (old a (R.qD ha)).trans ?_
    rw [dG]
    ·exact R.old a ha
    ·intro z
     obtain ⟨i,hi,h⟩:=List.mem_flatMap.mp z
     obtain ⟨k0,d0,e0,hk0,_⟩:=(g2 i).2 hi
     exact ha (R.notM e0 (by cases k0 <;> first | rfl | (rename_i p;cases p <;> first | rfl | cases hk0) | cases hk0) h) }
  refine ⟨Hm2,_,R',up.trans s1,⟨o,fun a ha=>(fr a ha).2,fun a ha i=>?_,fun a ha=>R.gF (fr a ha).1⟩⟩
  by_cases c:i∈is
  ·rw [if_pos c];simp
  ·rw [if_neg c];exact nfp a ha i
def cV (K:Frag)(f:DR)(r:List V->Hp->VK->Prop):Prop :=
 ∀ (H Hm:Hp)(vs:List V)(ds:List PyData)(P:Kd->PyData->Prop)(Q:VK),aj Hm H->aA K Hm vs ds->f ds P ->
  (∀ k v u H' Hm' fp,P k v->aj H H'->aj Hm Hm'->aj Hm' H'->(∀ a,H a≠none->OE (Hm' a) (Hm a))->Own K H' Hm' k u v fp->(∀ a∈fp,H a=none/\Hm' a=none)->Q u H')->r vs H Q
theorem gm {e:Expr}{es:List Expr}{as:List Arg}{f:DR}{r:List V->Hp->VK->Prop}(S:aU X Ex π es as)(hr:∀ σ H Q,qa X es σ H (fun vs H1=>r vs H1 Q)->WE X e σ H Q)(D:cV X.K f r):SE X Ex π e (ah f as):=by
 intro g x E σ H Hm F P Q hx R h q
 refine hr _ _ _ (jW hx S R h fun E1 os vs H1 Hm1 F1 p R1 s1 G=>?_)
 obtain ⟨ds,hf,hg⟩:=p
 have off:∀ a∈(gI as).flatMap F1,Hm1 a=none:=fun a ha=>by
  obtain ⟨i,_,h⟩:=List.mem_flatMap.mp ha
  exact R1.off i a h
 have up:=i9 (Hm:=Hm1) (H:=H1) off
 refine D H1 (lend Hm1 H1 ((gI as).flatMap F1)) vs ds _ Q (j6 R1.sub) (jK R1 up G hf fun i hi a ha=>fR (List.mem_flatMap.mpr ⟨i,hi,ha⟩)) hg fun k v u H' Hm2 fp p sH sM sS old o fr=>?_
 obtain ⟨E2,ha,p⟩:=p
 obtain ⟨Hm',F',R',s',T⟩:=uA R1 (is:=gI as) (vf ha) sH sM sS old o fr
 exact q _ _ _ _ _ _ _ _ p R' (s1.trans s') T
end
end Dv
namespace L2
open PySem PySem.Spec PyProof.Rows
section
variable {X:Cx}
def x9 (i j:Int):Prop:=0 < j/\j < 115792089237316195423570985008687907853269984665640564039457584007913129639936
theorem Ce:bL X (binaryOp .FloorDiv) (rI x9 fun i j=>.int (i / j)):=CL fun i j _ _ _ _ _ hc q=>by
 have h1:(0:Int) < j:=hc.1
 have h2:j < 115792089237316195423570985008687907853269984665640564039457584007913129639936:=hc.2
 refine floordiv_int (by omega) (by rw [Int.fdiv_eq_ediv_of_nonneg i (by omega)];exact q) (.inl (PyProof.noPylong_of_log2 ?_))
 have:j.natAbs.log2 < 256:=(Nat.log2_lt (by omega)).mpr (by
  have:(2:Nat) ^ 256=115792089237316195423570985008687907853269984665640564039457584007913129639936:=by decide
  omega)
 omega
end
end L2
namespace L2
open PySem PySem.Spec PyProof.Rows
theorem m7:∀ {us:List Value}{ns:List Int},IntsAre us ns->Vals (ns.map V.int) us
 | _,_,.nil=>.nil
 | _,_,.cons k t r=>.cons ⟨t,rfl⟩ (m7 r)
section
variable {X:Cx}
theorem vh:cK X (.builtin "sorted") (fun xs H Q=>∃ (a:Addr)(ns:List Int),xs=[.ref a]/\cu X.K H a (ns.map V.int)/\ns.length < 64/\∀ (ms:List Int)(p:Addr),ms.Perm ns->ms.Pairwise (·<=·)->H p=none->Q (.ref p) (upd H p (.lst (ms.map V.int)))):=by
 intro pins s σ H xs us Q I r h
 obtain ⟨a,ns,rfl,hq,hl,q⟩:=h
 obtain ⟨u,rfl,ru⟩:=r.one
 cases ru
 obtain ⟨its,rv,p,_⟩:=I.list hq
 have hlen:its.length=ns.length:=by rw [<- rv.length,List.length_map]
 refine sorted_ints p.isList (intsAre_of rv) (by omega) fun out ms h1 h2 h3=>?_
 obtain ⟨e,he⟩:=sortedAll_at s.heap its out
 have new:s.heap.get? (s.heap.objs.size + 1)=none:=Heap.get?_none_of_le (Nat.le_succ _)
 have rm:=m7 h1
 have ml:ms.length=ns.length:=h2.length_eq
 have I2:=I.x6 (a:=s.heap.objs.size + 1) (o:=.lst (ms.map V.int)) (t':=s.toks) (h':=sortedAll s.heap its out) (fun b o hb=>sortedAll_old hb) new
  ⟨by rw [List.length_map,ml];exact Nat.le_of_lt (Nat.lt_of_lt_of_le hl (by decide)),out.toList,e,rm,by simpa using he⟩
 exact ⟨.ref (s.heap.objs.size + 1),_,I2,rfl,q ms _ h2 h3 (I.jL new)⟩
end
end L2
namespace TS
open PySem PyProof.Rows
def qU:Bool->Keyed->Array Keyed->Nat->Nat->Nat->StateT SortSt Sem (Option Nat):=sortPriv% PySem.Builtin.gallop
def uK:Array Keyed->Array Keyed->StateT SortSt Sem (Array Keyed):=sortPriv% PySem.Builtin.mergeLo
def vS:Array Keyed->Array Keyed->StateT SortSt Sem (Array Keyed):=sortPriv% PySem.Builtin.mergeHi
section
variable {prog:Program}{w:World}{A:Around}{E:Value->Shared->Prop}{s:Shared}
def iY (prog:Program)(w:World)(A:Around)(s:Shared)(kd:SortKind)(P:Value->Prop):Prop:=∀ (E:Value->Shared->Prop) x y,P x->P y->∀ Q:Bool->Shared->Prop,(∀ b,Q b s)->wpAny (model prog w) A (keyLt' kd x y) Q E s
def Good (P:Value->Prop)(xs:Array Keyed):Prop:=∀ (i:Nat)(p:Keyed),xs[i]?=some p->P p.1
variable {kd:SortKind}{P:Value->Prop}
theorem ask {st:SortSt}{x y:Keyed}{Q:Option Bool->SortSt->Prop}(L:iY prog w A s kd P)(hk:kindOf st=kd)(hx:P x.1)(hy:P y.1)(h:∀ b,Q (some b) st):wpS (model prog w) A E s (lt' x y) Q st:=by
 rw [lt'_eq]
 refine wpS_bind (wpS_get ?_)
 rw [hk]
 refine wpS_bind (wpS_lift (wpAny_attempt (L _ _ _ hx hy _ fun b=>⟨rfl,?_⟩)))
 exact wpS_pure (h b)
theorem jH {st:SortSt}{xs:Array Keyed}{i:Nat}{Q:Keyed->SortSt->Prop}(hi:i < xs.size)(h:∀ p,xs[i]?=some p->Q p st):wpS (model prog w) A E s (elem' xs i) Q st:=by
 rw [elem'_eq,Array.getElem?_eq_getElem hi]
 exact wpS_pure (h _ (Array.getElem?_eq_getElem hi))
theorem mT {st:SortSt}{left:Bool}{key:Keyed}{xs:Array Keyed}{base n hint:Nat}{Q:Option Nat->SortSt->Prop}(L:iY prog w A s kd P)(hk:kindOf st=kd)(hy:P key.1)(G:Good P xs)(hn:base + n<=xs.size)(hh:hint < n)(h:∀ k,k<=n->Q (some k) st) :
  wpS (model prog w) A E s (qU left key xs base n hint) Q st:=by
 have far:∀ (i:Nat){R:Option Bool->SortSt->Prop},i < n->(∀ b,R (some b) st)->wpS (model prog w) A E s (do
   let x <- elem' xs (base + i)
   if left then lt' x key else return (<- lt' key x).map (!·)) R st:=fun i R hi hR=>by
  refine wpS_bind (jH (by omega) fun p hp=>?_)
  cases left with
  | true=>exact ask L hk (G _ _ hp) hy hR
  | false=>exact wpS_bind (ask L hk hy (G _ _ hp) fun b=>wpS_pure (hR _))
 unfold qU
 refine wpS_bind (far hint hh fun b=>?_)
 dsimp only
 split
 all_goals
  refine wpS_bind (wpS_mono (wpS_forRange (I:=fun _ c st'=>st'=st/\c.1=none) (Q:=fun c st'=>st'=st/\c.1=none) ?step (fun _ _ q=>q) ⟨rfl,rfl⟩) ?post)
  case step =>
   rintro x ⟨o,a,c⟩ st' _ _ ⟨rfl,rfl⟩
   dsimp only
   split
   ·exact wpS_pure ⟨rfl,rfl⟩
   ·refine wpS_bind (far _ (by omega) fun b'=>?_)
    dsimp only
    split
    ·exact wpS_pure ⟨rfl,rfl⟩
    ·exact wpS_pure ⟨rfl,rfl⟩
  case post =>
   rintro ⟨o,a,c⟩ st' ⟨rfl,rfl⟩
   dsimp only
   refine wpS_bind (wpS_mono (wpS_forRange (I:=fun _ c st''=>st''=st'/\c.1=none/\c.2.2<=n) (Q:=fun c st''=>st''=st'/\c.1=none/\c.2.2<=n) ?step2 (fun _ _ q=>q) ⟨rfl,rfl,by dsimp only;omega⟩) ?post2)
   case step2 =>
    rintro x ⟨o,a,c⟩ st'' _ _ ⟨rfl,rfl,le⟩
    dsimp only at le ⊢
    split
    ·exact wpS_pure ⟨rfl,rfl,le⟩
    ·refine wpS_bind (far _ (by omega) fun b'=>?_)
     dsimp only
     split
     ·exact wpS_pure ⟨rfl,rfl,le⟩
     ·exact wpS_pure ⟨rfl,rfl,by dsimp only;omega⟩
   case post2 =>
    rintro ⟨o,a,c⟩ st'' ⟨rfl,rfl,le⟩
    dsimp only
    exact wpS_pure (h _ le)
end
end TS
namespace TS
open PySem PyProof.Rows
def Pm (xs ys out:Array Keyed) (ia ib:Nat):Prop:=out.toList.Perm (xs.toList.take ia++ys.toList.take ib)
section
variable {xs ys out:Array Keyed}{ia ib k:Nat}
theorem uQ (zs:Array Keyed) (i k:Nat):zs.toList.take (i + k)=zs.toList.take i++(zs.extract i (i + k)).toList:=by
 rw [Array.toList_extract,List.take_add,List.extract_eq_take_drop]
 congr 2
 omega
theorem Pm.x (h:Pm xs ys out ia ib) (k:Nat):Pm xs ys (out++xs.extract ia (ia + k)) (ia + k) ib:=by
 unfold Pm at *
 rw [Array.toList_append,uQ xs ia k,List.append_assoc]
 refine (h.append_right _).trans ?_
 rw [List.append_assoc]
 exact List.Perm.append_left _ List.perm_append_comm
theorem Pm.y (h:Pm xs ys out ia ib) (k:Nat):Pm xs ys (out++ys.extract ib (ib + k)) ia (ib + k):=by
 unfold Pm at *
 rw [Array.toList_append,uQ ys ib k,<- List.append_assoc]
 exact h.append_right _
theorem oY {zs out:Array Keyed}{i:Nat}{p:Keyed}(hp:zs[i]?=some p):out.push p=out++zs.extract i (i + 1):=by
 obtain ⟨hi,e⟩:=Array.getElem?_eq_some_iff.mp hp
 have:zs.extract i (i + 1)=#[p]:=by
  rw [<- e]
  apply Array.ext
  ·simp
   omega
  ·intro j h1 h2
   have:j=0:=by
    simp at h2
    exact h2
   subst this
   simp
 rw [this]
 rfl
theorem Pm.px {p:Keyed}(h:Pm xs ys out ia ib)(hp:xs[ia]?=some p):Pm xs ys (out.push p) (ia + 1) ib:=by
 rw [oY hp]
 exact h.x 1
theorem Pm.py {p:Keyed}(h:Pm xs ys out ia ib)(hp:ys[ib]?=some p):Pm xs ys (out.push p) ia (ib + 1):=by
 rw [oY hp]
 exact h.y 1
theorem uY (zs:Array Keyed) (i:Nat):zs.toList=zs.toList.take i++(zs.extract i).toList:=by
 rw [Array.toList_extract,List.extract_eq_take_drop]
 have:List.take (zs.size - i) (List.drop i zs.toList)=List.drop i zs.toList:=List.take_of_length_le (by simp)
 rw [this,List.take_append_drop]
theorem Pm.done (h:Pm xs ys out ia ib):(out++xs.extract ia++ys.extract ib).toList.Perm (xs.toList++ys.toList):=by
 unfold Pm at h
 rw [Array.toList_append,Array.toList_append,uY xs ia,uY ys ib]
 refine ((h.append_right _).append_right _).trans ?_
 simp only [List.append_assoc]
 refine List.Perm.append_left _ ?_
 rw [<- List.append_assoc,<- List.append_assoc]
 exact List.Perm.append_right _ List.perm_append_comm
theorem Pm.last (h:Pm xs ys out ia ib):(out++ys.extract ib++xs.extract ia).toList.Perm (xs.toList++ys.toList):=by
 refine List.Perm.trans ?_ h.done
 rw [Array.toList_append,Array.toList_append,Array.toList_append,Array.toList_append,List.append_assoc,List.append_assoc]
 exact List.Perm.append_left _ List.perm_append_comm
end
def kB (st st':SortSt):Prop:=kindOf st'=kindOf st/\arrOf st'=arrOf st/\pendingOf st'=pendingOf st/\failedOf st'=failedOf st
end TS
namespace TS
open PySem PyProof.Rows
inductive HE (st:SortSt)(xs ys:Array Keyed) (x:Nat):Option (Array Keyed)×Array Keyed×Nat×Nat×Nat->SortSt->Prop
 | mk:∀ (out:Array Keyed) (ia ib mg:Nat)(st':SortSt),kB st st'->Pm xs ys out ia ib->ia + 1 < xs.size->ib < ys.size->x + 1<=ia + ib->HE st xs ys x (none,out,ia,ib,mg) st'
inductive yG (st:SortSt)(xs ys:Array Keyed):Option (Array Keyed)×Array Keyed×Nat×Nat×Nat->SortSt->Prop
 | mk:∀ (r out:Array Keyed) (ia ib mg:Nat)(st':SortSt),kB st st'->r.toList.Perm (xs.toList++ys.toList)->yG st xs ys (some r,out,ia,ib,mg) st'
inductive DG (st:SortSt)(xs ys:Array Keyed) (n y:Nat):Option (Array Keyed)×Array Keyed×Nat×Nat×Nat×Nat->SortSt->Prop
 | mk:∀ (out:Array Keyed) (ia ib ac bc:Nat),Pm xs ys out ia ib->ia + 1 < xs.size->ib < ys.size->y + n<=ia + ib->DG st xs ys n y (none,out,ia,ib,ac,bc) st
inductive pR (st:SortSt)(xs ys:Array Keyed) (n:Nat):Option (Array Keyed)×Array Keyed×Nat×Nat×Nat×Nat->SortSt->Prop
 | dn:∀ (r out:Array Keyed) (ia ib ac bc:Nat),r.toList.Perm (xs.toList++ys.toList)->pR st xs ys n (some r,out,ia,ib,ac,bc) st
 | go:∀ (out:Array Keyed) (ia ib ac bc:Nat),Pm xs ys out ia ib->ia + 1 < xs.size->ib < ys.size->n + 1<=ia + ib->pR st xs ys n (none,out,ia,ib,ac,bc) st
inductive Hj (st:SortSt)(xs ys:Array Keyed) (n:Nat):Option (Array Keyed)×Array Keyed×Nat×Nat×Nat×Nat×Nat->SortSt->Prop
 | mk:∀ (out:Array Keyed) (ia ib mg ac bc:Nat)(st':SortSt),kB st st'->Pm xs ys out ia ib->ia + 1 < xs.size->ib < ys.size->n<=ia + ib->Hj st xs ys n (none,out,ia,ib,mg,ac,bc) st'
inductive lU (st:SortSt)(xs ys:Array Keyed) (n:Nat):Option (Array Keyed)×Array Keyed×Nat×Nat×Nat×Nat×Nat->SortSt->Prop
 | dn:∀ (r out:Array Keyed) (ia ib mg ac bc:Nat)(st':SortSt),kB st st'->r.toList.Perm (xs.toList++ys.toList)->lU st xs ys n (some r,out,ia,ib,mg,ac,bc) st'
 | go:∀ (out:Array Keyed) (ia ib mg ac bc:Nat)(st':SortSt),kB st st'->Pm xs ys out ia ib->ia + 1 < xs.size->ib < ys.size->n<=ia + ib->lU st xs ys n (none,out,ia,ib,mg,ac,bc) st'
section
variable {prog:Program}{w:World}{A:Around}{E:Value->Shared->Prop}{s:Shared}{kd:SortKind}{P:Value->Prop}
theorem d7 {M:Model}{σ α:Type}{a b:Nat}{m1 m2:StateT σ Sem α}{Q:α->σ->Prop}{st:σ}(h1:a=b->wpS M A E s m1 Q st)(h2:a≠b->wpS M A E s m2 Q st):wpS M A E s (if (a == b)=true then m1 else m2) Q st:=by
 by_cases e:a=b
 ·rw [if_pos (beq_iff_eq.mpr e)]
  exact h1 e
 ·rw [if_neg (fun z=>e (beq_iff_eq.mp z))]
  exact h2 e
theorem cM {M:Model}{σ α:Type}{c:Prop} [Decidable c]{m1 m2:StateT σ Sem α}{Q:α->σ->Prop}{st:σ}(h1:c->wpS M A E s m1 Q st)(h2:¬ c->wpS M A E s m2 Q st):wpS M A E s (if c then m1 else m2) Q st:=by
 by_cases e:c
 ·rw [if_pos e]
  exact h1 e
 ·rw [if_neg e]
  exact h2 e
theorem cg {α:Type}{st:SortSt}{zs:Array Keyed}{i:Nat}{f:Keyed->StateT SortSt Sem α}{Q:α->SortSt->Prop}(hi:i < zs.size)(h:∀ p,zs[i]?=some p->wpS (model prog w) A E s (f p) Q st):wpS (model prog w) A E s (elem' zs i >>= f) Q st:=wpS_bind (jH hi h)
theorem vK {α:Type}{st:SortSt}{x y:Keyed}{f:Option Bool->StateT SortSt Sem α}{Q:α->SortSt->Prop}(L:iY prog w A s kd P)(hk:kindOf st=kd)(hx:P x.1)(hy:P y.1)(h:∀ b,wpS (model prog w) A E s (f (some b)) Q st):wpS (model prog w) A E s (lt' x y >>= f) Q st:=wpS_bind (ask L hk hx hy h)
theorem l8 {α:Type}{st:SortSt}{left:Bool}{key:Keyed}{xs:Array Keyed}{base n hint:Nat}{f:Option Nat->StateT SortSt Sem α}{Q:α->SortSt->Prop}(L:iY prog w A s kd P)(hk:kindOf st=kd)(hy:P key.1)(G:Good P xs)(hn:base + n<=xs.size)(hh:hint < n)(h:∀ k,k<=n->wpS (model prog w) A E s (f (some k)) Q st):wpS (model prog w) A E s (qU left key xs base n hint >>= f) Q st:=wpS_bind (mT L hk hy G hn hh h)
theorem Ka {st:SortSt}{xs ys:Array Keyed}{Q:Array Keyed->SortSt->Prop}(L:iY prog w A s kd P)(hk:kindOf st=kd)(G1:Good P xs)(G2:Good P ys)(h1:1<=xs.size)(h2:1<=ys.size)(h:∀ zs st',kB st st'->zs.toList.Perm (xs.toList++ys.toList)->Q zs st') :
  wpS (model prog w) A E s (uK xs ys) Q st:=by
 unfold uK
 refine wpS_bind (wpS_lift (wpAny_rule ⟨rfl,?_⟩))
 dsimp only
 refine cg (by omega) fun p hp=>?_
 have pm0:Pm xs ys #[p] 0 1:=by
  have:Pm xs ys #[] 0 0:=List.Perm.refl _
  exact this.py hp
 have g0:kB st st:=⟨rfl,rfl,rfl,rfl⟩
 refine d7 (fun e1=>wpS_pure (h _ _ g0 pm0.done)) (fun e1=>?_)
 refine d7 (fun e2=>wpS_pure (h _ _ g0 pm0.last)) (fun e2=>?_)
 refine wpS_bind (wpS_get ?_)
 refine wpS_bind (wpS_mono (wpS_forRange (I:=HE st xs ys) (Q:=yG st xs ys) ?step ?fin (.mk _ _ _ _ _ g0 pm0 (by omega) (by omega) (by omega))) ?post)
 case post =>
  rintro _ st' ⟨r,out,ia,ib,mg,_,g,pr⟩
  dsimp only
  exact wpS_pure (h _ _ g pr)
 case fin =>
  rintro _ st' ⟨out,ia,ib,mg,_,_,_,a,b,c⟩
  omega
 case step =>
  rintro x _ st' _ _ ⟨out,ia,ib,mg,_,g,pm,a1,b1,c1⟩
  dsimp only
  have hk':kindOf st'=kd:=g.1.trans hk
  refine wpS_bind (wpS_mono (wpS_forRange (I:=DG st' xs ys (ia + ib)) (Q:=pR st' xs ys (ia + ib)) ?step1 ?fin1 (.mk _ _ _ _ _ pm a1 b1 (by omega))) ?post1)
  case fin1 =>
   rintro _ _ ⟨out2,ia2,ib2,ac,bc,_,a,b,c⟩
   omega
  case step1 =>
   rintro y _ _ _ _ ⟨out2,ia2,ib2,ac,bc,pm2,a2,b2,c2⟩
   dsimp only
   refine cg (by omega) fun p1 hp1=>?_
   refine cg (by omega) fun p2 hp2=>?_
   refine vK L hk' (G2 _ _ hp1) (G1 _ _ hp2) fun b=>?_
   dsimp only
   cases b with
   | true =>
    rw [if_pos rfl]
    refine cg (by omega) fun p3 hp3=>?_
    have pm3:=pm2.py hp3
    refine d7 (fun e3=>wpS_pure (pR.dn _ _ _ _ _ _ pm3.done)) (fun e3=>?_)
    refine cM (fun e4=>?_) (fun e4=>?_)
    ·exact wpS_pure (pR.go _ _ _ _ _ pm3 a2 (by omega) (by omega))
    ·exact wpS_pure (DG.mk _ _ _ _ _ pm3 a2 (by omega) (by omega))
   | false =>
    rw [if_neg Bool.false_ne_true]
    refine cg (by omega) fun p3 hp3=>?_
    have pm3:=pm2.px hp3
    refine d7 (fun e3=>wpS_pure (pR.dn _ _ _ _ _ _ pm3.last)) (fun e3=>?_)
    refine cM (fun e4=>?_) (fun e4=>?_)
    ·exact wpS_pure (pR.go _ _ _ _ _ pm3 (by omega) b2 (by omega))
    ·exact wpS_pure (DG.mk _ _ _ _ _ pm3 (by omega) b2 (by omega))
  case post1 =>
   rintro _ _ (⟨r,out2,ia2,ib2,ac,bc,pr⟩ | ⟨out2,ia2,ib2,ac,bc,pm2,a2,b2,c2⟩)
   ·exact wpS_pure (yG.mk _ _ _ _ _ _ g pr)
   ·dsimp only
    refine wpS_bind (wpS_lift (wpAny_rule ⟨rfl,?_⟩))
    refine wpS_bind (wpS_mono (wpS_forRange (I:=fun _=>Hj st xs ys (ia2 + ib2)) (Q:=lU st xs ys (ia2 + ib2)) ?step2 (fun c st3 q=>by cases q;exact .go _ _ _ _ _ _ _ ‹_› ‹_› ‹_› ‹_› ‹_›) (.mk _ _ _ _ _ _ _ g pm2 a2 b2 (Nat.le_refl _))) ?post2)
    case step2 =>
     rintro y _ st3 _ _ ⟨out3,ia3,ib3,mg3,ac3,bc3,_,g3,pm3,a3,b3,c3⟩
     dsimp only
     have hk3:kindOf st3=kd:=g3.1.trans hk
     refine cM (fun e5=>?b1) (fun e5=>?b2)
     generalize mg3 - 1=v
     clear e5
     revert v
     refine ?key
     case b2=>exact ?key mg3
     intro v
     refine wpS_bind (wpS_modify ?_)
     refine cg (by omega) fun p1 hp1=>?_
     refine l8 L hk3 (G2 _ _ hp1) G1 (by omega) (by omega) fun k hk1=>?_
     dsimp only
     refine cM (fun k0=>?c1) (fun k0=>?c2)
     have pm4:=pm3.x k
     refine d7 (fun e6=>wpS_pure (lU.dn _ _ _ _ _ _ _ _ g3 pm4.last)) (fun e6=>?_)
     refine d7 (fun e7=>wpS_pure (lU.dn _ _ _ _ _ _ _ _ g3 pm4.done)) (fun e7=>?_)
     generalize out3++xs.extract ia3 (ia3 + k)=o at pm4 ⊢
     have n1:ia3 + k + 1 < xs.size:=by omega
     have n0:ia3<=ia3 + k:=by omega
     revert n0 n1 pm4
     clear e6 e7 k0
     generalize ia3 + k=n
     clear hk1
     generalize k=d
     revert o n d
     refine ?key2
     case c2=>exact ?key2 out3 ia3 k pm3 a3 (Nat.le_refl _)
     intro o n d pm4 n1 n0
     refine cg (by omega) fun p2 hp2=>?_
     have pm5:=pm4.py hp2
     refine d7 (fun e8=>wpS_pure (lU.dn _ _ _ _ _ _ _ _ g3 pm5.done)) (fun e8=>?_)
     refine cg (by omega) fun p3 hp3=>?_
     refine l8 L hk3 (G1 _ _ hp3) G2 (by omega) (by omega) fun k2 hk2=>?_
     dsimp only
     refine cM (fun k20=>?d1) (fun k20=>?d2)
     have pm6:=pm5.y k2
     refine d7 (fun e9=>wpS_pure (lU.dn _ _ _ _ _ _ _ _ g3 pm6.done)) (fun e9=>?_)
     generalize o.push _++ys.extract (ib3 + 1) (ib3 + 1 + k2)=o2 at pm6 ⊢
     have m1:ib3 + 1 + k2 < ys.size:=by omega
     have m0:ib3 + 1<=ib3 + 1 + k2:=by omega
     revert m0 m1 pm6
     clear e9 k20
     generalize ib3 + 1 + k2=m
     clear hk2
     generalize k2=d2
     revert o2 m d2
     refine ?key3
     case d2=>exact ?key3 _ _ _ pm5 (by omega) (Nat.le_refl _)
     intro o2 m d2 pm6 m1 m0
     refine cg (by omega) fun p4 hp4=>?_
     have pm7:=pm6.px hp4
     refine d7 (fun e10=>wpS_pure (lU.dn _ _ _ _ _ _ _ _ g3 pm7.last)) (fun e10=>?_)
     refine cM (fun _=>?_) (fun _=>?_)
     ·exact wpS_pure (lU.go _ _ _ _ _ _ _ g3 pm7 (by omega) (by omega) (by omega))
     ·exact wpS_pure (Hj.mk _ _ _ _ _ _ _ g3 pm7 (by omega) (by omega) (by omega))
    case post2 =>
     rintro _ st3 (⟨r,out3,ia3,ib3,mg3,ac3,bc3,_,g3,pr⟩ | ⟨out3,ia3,ib3,mg3,ac3,bc3,_,g3,pm3,a3,b3,c3⟩)
     ·exact wpS_pure (yG.mk _ _ _ _ _ _ g3 pr)
     ·dsimp only
      refine wpS_bind (wpS_modify ?_)
      exact wpS_pure (HE.mk _ _ _ _ _ g3 pm3 a3 b3 (by omega))
end
end TS
namespace TS
open PySem PyProof.Rows
def Pr (xs ys out:Array Keyed) (na nb:Nat):Prop:=out.toList.Perm (xs.toList.drop na++ys.toList.drop nb)
section
variable {xs ys out:Array Keyed}{na nb k:Nat}
theorem jc (zs:Array Keyed){i n:Nat}(h:i<=n):zs.toList.drop i=(zs.extract i n).toList++zs.toList.drop n:=by
 obtain ⟨d,rfl⟩:=Nat.exists_eq_add_of_le h
 rw [Array.toList_extract,List.extract_eq_take_drop,Nat.add_sub_cancel_left,<- List.drop_drop]
 exact (List.take_append_drop d _).symm
theorem Pr.x (h:Pr xs ys out na nb)(hk:k<=na):Pr xs ys (out++(xs.extract k na).reverse) k nb:=by
 unfold Pr at *
 rw [Array.toList_append,jc xs hk,Array.toList_reverse,List.append_assoc]
 refine (h.append_right _).trans ?_
 refine List.perm_append_comm.trans ?_
 exact List.Perm.append_right _ (List.reverse_perm _)
theorem Pr.y (h:Pr xs ys out na nb)(hk:k<=nb):Pr xs ys (out++(ys.extract k nb).reverse) na k:=by
 unfold Pr at *
 rw [Array.toList_append,jc ys hk,Array.toList_reverse]
 refine (h.append_right _).trans ?_
 rw [List.append_assoc]
 refine List.Perm.append_left _ ?_
 refine List.perm_append_comm.trans ?_
 exact List.Perm.append_right _ (List.reverse_perm _)
theorem ug {zs out:Array Keyed}{i:Nat}{p:Keyed}(h1:1<=i)(hp:zs[i - 1]?=some p):out.push p=out++(zs.extract (i - 1) i).reverse:=by
 have e:=oY (out:=#[]) hp
 rw [show i - 1 + 1=i by omega] at e
 have e2:zs.extract (i - 1) i=#[p]:=by
  rw [Array.empty_append] at e
  exact e.symm
 rw [e2]
 rfl
theorem Pr.px {p:Keyed}(h:Pr xs ys out na nb)(h1:1<=na)(hp:xs[na - 1]?=some p):Pr xs ys (out.push p) (na - 1) nb:=by
 rw [ug h1 hp]
 exact h.x (by omega)
theorem Pr.py {p:Keyed}(h:Pr xs ys out na nb)(h1:1<=nb)(hp:ys[nb - 1]?=some p):Pr xs ys (out.push p) na (nb - 1):=by
 rw [ug h1 hp]
 exact h.y (by omega)
theorem Pr.done (h:Pr xs ys out na nb):(xs.extract 0 na++ys.extract 0 nb++out.reverse).toList.Perm (xs.toList++ys.toList):=by
 unfold Pr at h
 have e1:=jc xs (Nat.zero_le na)
 have e2:=jc ys (Nat.zero_le nb)
 rw [List.drop_zero] at e1 e2
 rw [Array.toList_append,Array.toList_append,Array.toList_reverse]
 conv=>rhs;rw [e1,e2]
 rw [List.append_assoc,List.append_assoc]
 refine List.Perm.append_left _ ?_
 refine (List.Perm.append_left _ ((List.reverse_perm _).trans h)).trans ?_
 rw [<- List.append_assoc,<- List.append_assoc]
 exact List.Perm.append_right _ List.perm_append_comm
theorem Pr.first (h:Pr xs ys out na nb):(ys.extract 0 nb++xs.extract 0 na++out.reverse).toList.Perm (xs.toList++ys.toList):=by
 refine List.Perm.trans ?_ h.done
 rw [Array.toList_append,Array.toList_append,Array.toList_append,Array.toList_append]
 exact List.Perm.append_right _ List.perm_append_comm
end
inductive Hs (st:SortSt)(xs ys:Array Keyed) (x:Nat):Option (Array Keyed)×Nat×Nat×Array Keyed×Nat->SortSt->Prop
 | mk:∀ (na nb:Nat)(out:Array Keyed) (mg:Nat)(st':SortSt),kB st st'->Pr xs ys out na nb->1<=na->2<=nb->na<=xs.size->nb<=ys.size->na + nb + x + 1<=xs.size + ys.size->Hs st xs ys x (none,na,nb,out,mg) st'
inductive x8 (st:SortSt)(xs ys:Array Keyed):Option (Array Keyed)×Nat×Nat×Array Keyed×Nat->SortSt->Prop
 | mk:∀ (r:Array Keyed) (na nb:Nat)(out:Array Keyed) (mg:Nat)(st':SortSt),kB st st'->r.toList.Perm (xs.toList++ys.toList)->x8 st xs ys (some r,na,nb,out,mg) st'
inductive Dr (st:SortSt)(xs ys:Array Keyed) (n y:Nat):Option (Array Keyed)×Nat×Nat×Array Keyed×Nat×Nat->SortSt->Prop
 | mk:∀ (na nb:Nat)(out:Array Keyed) (ac bc:Nat),Pr xs ys out na nb->1<=na->2<=nb->na<=xs.size->nb<=ys.size->na + nb + y<=n->Dr st xs ys n y (none,na,nb,out,ac,bc) st
inductive pT (st:SortSt)(xs ys:Array Keyed) (n:Nat):Option (Array Keyed)×Nat×Nat×Array Keyed×Nat×Nat->SortSt->Prop
 | dn:∀ (r:Array Keyed) (na nb:Nat)(out:Array Keyed) (ac bc:Nat),r.toList.Perm (xs.toList++ys.toList)->pT st xs ys n (some r,na,nb,out,ac,bc) st
 | go:∀ (na nb:Nat)(out:Array Keyed) (ac bc:Nat),Pr xs ys out na nb->1<=na->2<=nb->na<=xs.size->nb<=ys.size->na + nb + 1<=n->pT st xs ys n (none,na,nb,out,ac,bc) st
inductive Ip (st:SortSt)(xs ys:Array Keyed) (n:Nat):Option (Array Keyed)×Nat×Nat×Array Keyed×Nat×Nat×Nat->SortSt->Prop
 | mk:∀ (na nb:Nat)(out:Array Keyed) (mg ac bc:Nat)(st':SortSt),kB st st'->Pr xs ys out na nb->1<=na->2<=nb->na<=xs.size->nb<=ys.size->na + nb<=n->Ip st xs ys n (none,na,nb,out,mg,ac,bc) st'
inductive lX (st:SortSt)(xs ys:Array Keyed) (n:Nat):Option (Array Keyed)×Nat×Nat×Array Keyed×Nat×Nat×Nat->SortSt->Prop
 | dn:∀ (r:Array Keyed) (na nb:Nat)(out:Array Keyed) (mg ac bc:Nat)(st':SortSt),kB st st'->r.toList.Perm (xs.toList++ys.toList)->lX st xs ys n (some r,na,nb,out,mg,ac,bc) st'
 | go:∀ (na nb:Nat)(out:Array Keyed) (mg ac bc:Nat)(st':SortSt),kB st st'->Pr xs ys out na nb->1<=na->2<=nb->na<=xs.size->nb<=ys.size->na + nb<=n->lX st xs ys n (none,na,nb,out,mg,ac,bc) st'
section
variable {prog:Program}{w:World}{A:Around}{E:Value->Shared->Prop}{s:Shared}{kd:SortKind}{P:Value->Prop}
theorem Jr {st:SortSt}{xs ys:Array Keyed}{Q:Array Keyed->SortSt->Prop}(L:iY prog w A s kd P)(hk:kindOf st=kd)(G1:Good P xs)(G2:Good P ys)(h1:1<=xs.size)(h2:1<=ys.size)(h:∀ zs st',kB st st'->zs.toList.Perm (xs.toList++ys.toList)->Q zs st') :
  wpS (model prog w) A E s (vS xs ys) Q st:=by
 unfold vS
 refine wpS_bind (wpS_lift (wpAny_rule ⟨rfl,?_⟩))
 dsimp only
 refine cg (by omega) fun p hp=>?_
 have pm0:Pr xs ys #[p] (xs.size - 1) ys.size:=by
  have z:Pr xs ys #[] xs.size ys.size:=by
   unfold Pr
   rw [List.drop_of_length_le (by simp),List.drop_of_length_le (by simp)]
   exact List.Perm.refl _
  exact z.px h1 hp
 have g0:kB st st:=⟨rfl,rfl,rfl,rfl⟩
 refine d7 (fun e1=>wpS_pure (h _ _ g0 pm0.done)) (fun e1=>?_)
 refine d7 (fun e2=>wpS_pure (h _ _ g0 pm0.first)) (fun e2=>?_)
 refine wpS_bind (wpS_get ?_)
 refine wpS_bind (wpS_mono (wpS_forRange (I:=Hs st xs ys) (Q:=x8 st xs ys) ?step ?fin (.mk _ _ _ _ _ g0 pm0 (by omega) (by omega) (by omega) (by omega) (by omega))) ?post)
 case post =>
  rintro _ st' ⟨r,na,nb,out,mg,_,g,pr⟩
  dsimp only
  exact wpS_pure (h _ _ g pr)
 case fin =>
  rintro _ st' ⟨na,nb,out,mg,_,_,_,a,b,c,d,e⟩
  omega
 case step =>
  rintro x _ st' _ _ ⟨na,nb,out,mg,_,g,pm,a1,b1,c1,d1,f1⟩
  dsimp only
  have hk':kindOf st'=kd:=g.1.trans hk
  refine wpS_bind (wpS_mono (wpS_forRange (I:=Dr st' xs ys (na + nb)) (Q:=pT st' xs ys (na + nb)) ?step1 ?fin1 (.mk _ _ _ _ _ pm a1 b1 c1 d1 (by omega))) ?post1)
  case fin1 =>
   rintro _ _ ⟨na2,mG,out2,ac,bc,_,a,b,c,d,e⟩
   omega
  case step1 =>
   rintro y _ _ _ _ ⟨na2,mG,out2,ac,bc,pm2,a2,b2,c2,d2,f2⟩
   dsimp only
   refine cg (by omega) fun p1 hp1=>?_
   refine cg (by omega) fun p2 hp2=>?_
   refine vK L hk' (G2 _ _ hp1) (G1 _ _ hp2) fun b=>?_
   dsimp only
   cases b with
   | true =>
    rw [if_pos rfl]
    refine cg (by omega) fun p3 hp3=>?_
    have pm3:=pm2.px (by omega) hp3
    refine d7 (fun e3=>wpS_pure (pT.dn _ _ _ _ _ _ pm3.done)) (fun e3=>?_)
    refine cM (fun e4=>?_) (fun e4=>?_)
    ·exact wpS_pure (pT.go _ _ _ _ _ pm3 (by omega) (by omega) (by omega) (by omega) (by omega))
    ·exact wpS_pure (Dr.mk _ _ _ _ _ pm3 (by omega) (by omega) (by omega) (by omega) (by omega))
   | false =>
    rw [if_neg Bool.false_ne_true]
    refine cg (by omega) fun p3 hp3=>?_
    have pm3:=pm2.py (by omega) hp3
    refine d7 (fun e3=>wpS_pure (pT.dn _ _ _ _ _ _ pm3.first)) (fun e3=>?_)
    refine cM (fun e4=>?_) (fun e4=>?_)
    ·exact wpS_pure (pT.go _ _ _ _ _ pm3 (by omega) (by omega) (by omega) (by omega) (by omega))
    ·exact wpS_pure (Dr.mk _ _ _ _ _ pm3 (by omega) (by omega) (by omega) (by omega) (by omega))
  case post1 =>
   rintro _ _ (⟨r,na2,mG,out2,ac,bc,pr⟩ | ⟨na2,mG,out2,ac,bc,pm2,a2,b2,c2,d2,f2⟩)
   ·exact wpS_pure (x8.mk _ _ _ _ _ _ g pr)
   ·dsimp only
    refine wpS_bind (wpS_lift (wpAny_rule ⟨rfl,?_⟩))
    refine wpS_bind (wpS_mono (wpS_forRange (I:=fun _=>Ip st xs ys (na2 + mG)) (Q:=lX st xs ys (na2 + mG)) ?step2 (fun c st3 q=>by cases q;exact .go _ _ _ _ _ _ _ ‹_› ‹_› ‹_› ‹_› ‹_› ‹_› ‹_›) (.mk _ _ _ _ _ _ _ g pm2 a2 b2 c2 d2 (Nat.le_refl _))) ?post2)
    case step2 =>
     rintro y _ st3 _ _ ⟨na3,nb3,out3,mg3,ac3,bc3,_,g3,pm3,a3,b3,c3,d3,f3⟩
     dsimp only
     have hk3:kindOf st3=kd:=g3.1.trans hk
     refine cM (fun e5=>?b1) (fun e5=>?b2)
     generalize mg3 - 1=v
     clear e5
     revert v
     refine ?key
     case b2=>exact ?key mg3
     intro v
     refine wpS_bind (wpS_modify ?_)
     refine cg (by omega) fun p1 hp1=>?_
     refine l8 L hk3 (G2 _ _ hp1) G1 (by omega) (by omega) fun k hk1=>?_
     dsimp only
     refine cM (fun k0=>?c1) (fun k0=>?c2)
     have pm4:=pm3.x hk1
     refine d7 (fun e7=>wpS_pure (lX.dn _ _ _ _ _ _ _ _ g3 pm4.done)) (fun e7=>?_)
     generalize out3++(xs.extract k na3).reverse=o at pm4 ⊢
     generalize na3 - k=d
     have n1:1<=k:=by omega
     revert n1 pm4
     clear e7 k0
     revert hk1
     generalize k=n
     revert d o n
     refine ?key2
     case c2=>exact ?key2 out3 (na3 - k) na3 (Nat.le_refl _) pm3 (by omega)
     intro o d n hk1 pm4 n1
     refine cg (by omega) fun p2 hp2=>?_
     have pm5:=pm4.py (by omega) hp2
     refine d7 (fun e8=>wpS_pure (lX.dn _ _ _ _ _ _ _ _ g3 pm5.first)) (fun e8=>?_)
     refine cg (by omega) fun p3 hp3=>?_
     refine l8 L hk3 (G1 _ _ hp3) G2 (by omega) (by omega) fun k2 hk2=>?_
     dsimp only
     refine cM (fun k20=>?d1) (fun k20=>?d2)
     have pm6:=pm5.y hk2
     refine d7 (fun e9=>wpS_pure (lX.dn _ _ _ _ _ _ _ _ g3 pm6.first)) (fun e9=>?_)
     refine d7 (fun e9'=>wpS_pure (lX.dn _ _ _ _ _ _ _ _ g3 pm6.done)) (fun e9'=>?_)
     have n2:2<=k2:=by omega
     revert n2 pm6
     generalize o.push _++(ys.extract k2 (nb3 - 1)).reverse=o2
     generalize nb3 - 1 - k2=d2
     clear e9 e9' k20
     revert hk2
     generalize k2=m
     revert d2 o2 m
     refine ?key3
     case d2=>exact ?key3 _ _ _ (Nat.le_refl _) pm5 (by omega)
     intro o2 d2 m hm pm6 n2
     refine cg (by omega) fun p4 hp4=>?_
     have pm7:=pm6.px (by omega) hp4
     refine d7 (fun e10=>wpS_pure (lX.dn _ _ _ _ _ _ _ _ g3 pm7.done)) (fun e10=>?_)
     refine cM (fun _=>?_) (fun _=>?_)
     ·exact wpS_pure (lX.go _ _ _ _ _ _ _ g3 pm7 (by omega) (by omega) (by omega) (by omega) (by omega))
     ·exact wpS_pure (Ip.mk _ _ _ _ _ _ _ g3 pm7 (by omega) (by omega) (by omega) (by omega) (by omega))
    case post2 =>
     rintro _ st3 (⟨r,na3,nb3,out3,mg3,ac3,bc3,_,g3,pr⟩ | ⟨na3,nb3,out3,mg3,ac3,bc3,_,g3,pm3,a3,b3,c3,d3,f3⟩)
     ·exact wpS_pure (x8.mk _ _ _ _ _ _ g3 pr)
     ·dsimp only
      refine wpS_bind (wpS_modify ?_)
      exact wpS_pure (Hs.mk _ _ _ _ _ g3 pm3 a3 b3 c3 d3 (by omega))
end
end TS
namespace TS
open PySem PyProof.Rows
structure SB (kd:SortKind)(xs0:Array Keyed)(st:SortSt):Prop where
 perm:(arrOf st).Perm xs0
 kind:kindOf st=kd
 ok:failedOf st=none
theorem SB.size {kd:SortKind}{xs0:Array Keyed}{st:SortSt}(B:SB kd xs0 st):(arrOf st).size=xs0.size:=B.perm.size_eq
theorem Good.perm {P:Value->Prop}{xs ys:Array Keyed}(G:Good P ys)(p:xs.Perm ys):Good P xs:=fun i q h=>by
 have m:q∈xs.toList:=List.mem_of_getElem? (by rw [Array.getElem?_toList];exact h)
 have m2:q∈ys.toList:=(Array.perm_iff_toList_perm.mp p).mem_iff.mp m
 obtain ⟨j,hj⟩:=List.getElem?_of_mem m2
 rw [Array.getElem?_toList] at hj
 exact G j q hj
section
variable {prog:Program}{w:World}{A:Around}{E:Value->Shared->Prop}{s:Shared}{kd:SortKind}{P:Value->Prop}{xs0:Array Keyed}
theorem fZ {st:SortSt}{i j:Nat}{Q:Option Bool->SortSt->Prop}(L:iY prog w A s kd P)(G:Good P xs0)(B:SB kd xs0 st)(hi:i < xs0.size)(hj:j < xs0.size)(h:∀ b,Q (some b) st):wpS (model prog w) A E s (ltAt' i j) Q st:=by
 rw [ltAt'_eq]
 refine wpS_bind (wpS_get ?_)
 have G':=G.perm B.perm
 refine wpS_bind (jH (by rw [B.size];exact hi) fun p hp=>?_)
 refine wpS_bind (jH (by rw [B.size];exact hj) fun q hq=>?_)
 exact ask L B.kind (G' _ _ hp) (G' _ _ hq) h
theorem iC {st:SortSt}{i j:Nat}{Q:Unit->SortSt->Prop}(B:SB kd xs0 st)(h:∀ st',SB kd xs0 st'->pendingOf st'=pendingOf st->Q () st'):wpS (model prog w) A E s (reverseSlice' i j) Q st:=by
 rw [reverseSlice'_eq]
 exact wpS_modify (h _ ⟨(mirror_perm _ _ _ _).trans B.perm,B.kind,B.ok⟩ rfl)
theorem Bm {st:SortSt}{lo nrem:Nat}{Q:Option Nat->SortSt->Prop}(L:iY prog w A s kd P)(G:Good P xs0)(B:SB kd xs0 st)(h1:1<=nrem)(hn:lo + nrem<=xs0.size)(h:∀ m st',SB kd xs0 st'->pendingOf st'=pendingOf st->1<=m->m<=nrem->Q (some m) st') :
  wpS (model prog w) A E s (countRun' lo nrem) Q st:=by
 unfold countRun'
 refine wpS_bind (wpS_mono (wpS_forRange (I:=fun x c st'=>st'=st/\c.1=none/\c.2=x) (Q:=fun c st'=>st'=st/\c.1=none/\1<=c.2/\c.2<=nrem) ?step ?fin ⟨rfl,rfl,rfl⟩) ?post)
 case step =>
  rintro x ⟨o,n⟩ st' a b ⟨rfl,rfl,rfl⟩
  dsimp only
  refine wpS_bind (fZ L G B (by dsimp only at a b;omega) (by dsimp only at a b;omega) fun c=>?_)
  dsimp only
  refine cM (fun _=>wpS_pure ⟨rfl,rfl,by dsimp only at a b ⊢;omega,by dsimp only at a b ⊢;omega⟩) (fun _=>wpS_pure ⟨rfl,rfl,rfl⟩)
 case fin =>
  rintro ⟨o,n⟩ st' ⟨rfl,rfl,e⟩
  dsimp only at e
  exact ⟨rfl,rfl,by dsimp only;omega,by dsimp only;omega⟩
 case post =>
  rintro ⟨o,n⟩ st' ⟨rfl,rfl,n1,n2⟩
  dsimp only at n1 n2 ⊢
  refine d7 (fun e=>wpS_pure (h _ _ B rfl n1 n2)) (fun e=>?_)
  refine cM (fun n0=>?_) (fun n0=>?_)
  ·refine wpS_bind (fZ L G B (by omega) (by omega) fun c=>?_)
   dsimp only
   refine cM (fun _=>wpS_pure (h _ _ B rfl n1 n2)) (fun _=>?_)
   refine wpS_bind (iC B fun st6 B6 p6=>?_)
   refine wpS_bind (wpS_lift (wpAny_rule ⟨rfl,?_⟩))
   refine wpS_bind (wpS_mono (wpS_forRange (I:=fun x c st2=>SB kd xs0 st2/\pendingOf st2=pendingOf st'/\c.1=none/\c.2.1=x) (Q:=fun c st2=>SB kd xs0 st2/\pendingOf st2=pendingOf st'/\c.1=none/\1<=c.2.1/\c.2.1<=nrem) ?step1 ?fin1 ⟨B6,p6,rfl,rfl⟩) ?post1)
   case step1 =>
    rintro x ⟨o,m,q⟩ st2 a b ⟨B2,p2,rfl,rfl⟩
    dsimp only at a b ⊢
    refine wpS_bind (fZ L G B2 (by omega) (by omega) fun c=>?_)
    dsimp only
    refine cM (fun _=>?_) (fun _=>?_)
    ·refine cM (fun _=>?_) (fun _=>?_)
     ·exact wpS_bind (iC B2 fun st3 B3 p3=>wpS_pure ⟨B3,p3.trans p2,rfl,rfl⟩)
     ·exact wpS_pure ⟨B2,p2,rfl,rfl⟩
    ·refine wpS_bind (fZ L G B2 (by omega) (by omega) fun c2=>?_)
     dsimp only
     refine cM (fun _=>?_) (fun _=>?_)
     ·exact wpS_pure ⟨B2,p2,rfl,by dsimp only;omega,by dsimp only;omega⟩
     ·exact wpS_pure ⟨B2,p2,rfl,rfl⟩
   case fin1 =>
    rintro ⟨o,m,q⟩ st2 ⟨B2,p2,rfl,e2⟩
    dsimp only at e2
    exact ⟨B2,p2,rfl,by dsimp only;omega,by dsimp only;omega⟩
   case post1 =>
    rintro ⟨o,m,q⟩ st2 ⟨B2,p2,rfl,m1,m2⟩
    dsimp only at m1 m2 ⊢
    refine cM (fun _=>?_) (fun _=>?_)
    ·refine wpS_bind (iC B2 fun st3 B3 p3=>?_)
     refine wpS_bind (iC B3 fun st4 B4 p4=>?_)
     refine wpS_bind (wpS_mono (wpS_forRange (I:=fun x c st5=>st5=st4/\c.1=none/\c.2=x) (Q:=fun c st5=>st5=st4/\c.1=none/\1<=c.2/\c.2<=nrem) ?stepL2 ?finL2 ⟨rfl,rfl,rfl⟩) ?postL2)
     case stepL2 =>
      rintro x ⟨o,m⟩ st5 a b ⟨rfl,rfl,rfl⟩
      dsimp only at a b ⊢
      refine wpS_bind (fZ L G B4 (by omega) (by omega) fun c=>?_)
      dsimp only
      refine cM (fun _=>wpS_pure ⟨rfl,rfl,by dsimp only;omega,by dsimp only;omega⟩) (fun _=>wpS_pure ⟨rfl,rfl,rfl⟩)
     case finL2 =>
      rintro ⟨o,m⟩ st5 ⟨rfl,rfl,e2⟩
      dsimp only at e2
      exact ⟨rfl,rfl,by dsimp only;omega,by dsimp only;omega⟩
     case postL2 =>
      rintro ⟨o,m⟩ st5 ⟨rfl,rfl,k1,k2⟩
      dsimp only at k1 k2 ⊢
      exact wpS_pure (h _ _ B4 (p4.trans (p3.trans p2)) k1 k2)
    ·refine wpS_bind (iC B2 fun st4 B4 p4=>?_)
     refine wpS_bind (wpS_mono (wpS_forRange (I:=fun x c st5=>st5=st4/\c.1=none/\c.2=x) (Q:=fun c st5=>st5=st4/\c.1=none/\1<=c.2/\c.2<=nrem) ?stepL3 ?finL3 ⟨rfl,rfl,rfl⟩) ?postL3)
     case stepL3 =>
      rintro x ⟨o,m⟩ st5 a b ⟨rfl,rfl,rfl⟩
      dsimp only at a b ⊢
      refine wpS_bind (fZ L G B4 (by omega) (by omega) fun c=>?_)
      dsimp only
      refine cM (fun _=>wpS_pure ⟨rfl,rfl,by dsimp only;omega,by dsimp only;omega⟩) (fun _=>wpS_pure ⟨rfl,rfl,rfl⟩)
     case finL3 =>
      rintro ⟨o,m⟩ st5 ⟨rfl,rfl,e2⟩
      dsimp only at e2
      exact ⟨rfl,rfl,by dsimp only;omega,by dsimp only;omega⟩
     case postL3 =>
      rintro ⟨o,m⟩ st5 ⟨rfl,rfl,k1,k2⟩
      dsimp only at k1 k2 ⊢
      exact wpS_pure (h _ _ B4 (p4.trans p2) k1 k2)
  ·have p6:pendingOf st'=pendingOf st':=rfl
   refine wpS_bind (wpS_lift (wpAny_rule ⟨rfl,?_⟩))
   refine wpS_bind (wpS_mono (wpS_forRange (I:=fun x c st2=>SB kd xs0 st2/\pendingOf st2=pendingOf st'/\c.1=none/\c.2.1=x) (Q:=fun c st2=>SB kd xs0 st2/\pendingOf st2=pendingOf st'/\c.1=none/\1<=c.2.1/\c.2.1<=nrem) ?step4 ?fin4 ⟨B,p6,rfl,rfl⟩) ?post4)
   case step4 =>
    rintro x ⟨o,m,q⟩ st2 a b ⟨B2,p2,rfl,rfl⟩
    dsimp only at a b ⊢
    refine wpS_bind (fZ L G B2 (by omega) (by omega) fun c=>?_)
    dsimp only
    refine cM (fun _=>?_) (fun _=>?_)
    ·refine cM (fun _=>?_) (fun _=>?_)
     ·exact wpS_bind (iC B2 fun st3 B3 p3=>wpS_pure ⟨B3,p3.trans p2,rfl,rfl⟩)
     ·exact wpS_pure ⟨B2,p2,rfl,rfl⟩
    ·refine wpS_bind (fZ L G B2 (by omega) (by omega) fun c2=>?_)
     dsimp only
     refine cM (fun _=>?_) (fun _=>?_)
     ·exact wpS_pure ⟨B2,p2,rfl,by dsimp only;omega,by dsimp only;omega⟩
     ·exact wpS_pure ⟨B2,p2,rfl,rfl⟩
   case fin4 =>
    rintro ⟨o,m,q⟩ st2 ⟨B2,p2,rfl,e2⟩
    dsimp only at e2
    exact ⟨B2,p2,rfl,by dsimp only;omega,by dsimp only;omega⟩
   case post4 =>
    rintro ⟨o,m,q⟩ st2 ⟨B2,p2,rfl,m1,m2⟩
    dsimp only at m1 m2 ⊢
    refine cM (fun _=>?_) (fun _=>?_)
    ·refine wpS_bind (iC B2 fun st3 B3 p3=>?_)
     refine wpS_bind (iC B3 fun st4 B4 p4=>?_)
     refine wpS_bind (wpS_mono (wpS_forRange (I:=fun x c st5=>st5=st4/\c.1=none/\c.2=x) (Q:=fun c st5=>st5=st4/\c.1=none/\1<=c.2/\c.2<=nrem) ?stepL5 ?finL5 ⟨rfl,rfl,rfl⟩) ?postL5)
     case stepL5 =>
      rintro x ⟨o,m⟩ st5 a b ⟨rfl,rfl,rfl⟩
      dsimp only at a b ⊢
      refine wpS_bind (fZ L G B4 (by omega) (by omega) fun c=>?_)
      dsimp only
      refine cM (fun _=>wpS_pure ⟨rfl,rfl,by dsimp only;omega,by dsimp only;omega⟩) (fun _=>wpS_pure ⟨rfl,rfl,rfl⟩)
     case finL5 =>
      rintro ⟨o,m⟩ st5 ⟨rfl,rfl,e2⟩
      dsimp only at e2
      exact ⟨rfl,rfl,by dsimp only;omega,by dsimp only;omega⟩
     case postL5 =>
      rintro ⟨o,m⟩ st5 ⟨rfl,rfl,k1,k2⟩
      dsimp only at k1 k2 ⊢
      exact wpS_pure (h _ _ B4 (p4.trans (p3.trans p2)) k1 k2)
    ·refine wpS_bind (iC B2 fun st4 B4 p4=>?_)
     refine wpS_bind (wpS_mono (wpS_forRange (I:=fun x c st5=>st5=st4/\c.1=none/\c.2=x) (Q:=fun c st5=>st5=st4/\c.1=none/\1<=c.2/\c.2<=nrem) ?stepL6 ?finL6 ⟨rfl,rfl,rfl⟩) ?postL6)
     case stepL6 =>
      rintro x ⟨o,m⟩ st5 a b ⟨rfl,rfl,rfl⟩
      dsimp only at a b ⊢
      refine wpS_bind (fZ L G B4 (by omega) (by omega) fun c=>?_)
      dsimp only
      refine cM (fun _=>wpS_pure ⟨rfl,rfl,by dsimp only;omega,by dsimp only;omega⟩) (fun _=>wpS_pure ⟨rfl,rfl,rfl⟩)
     case finL6 =>
      rintro ⟨o,m⟩ st5 ⟨rfl,rfl,e2⟩
      dsimp only at e2
      exact ⟨rfl,rfl,by dsimp only;omega,by dsimp only;omega⟩
     case postL6 =>
      rintro ⟨o,m⟩ st5 ⟨rfl,rfl,k1,k2⟩
      dsimp only at k1 k2 ⊢
      exact wpS_pure (h _ _ B4 (p4.trans p2) k1 k2)
theorem Ik {st:SortSt}{lo n k:Nat}{Q:Bool->SortSt->Prop}(L:iY prog w A s kd P)(G:Good P xs0)(B:SB kd xs0 st)(hn:lo + n<=xs0.size)(h:∀ st',SB kd xs0 st'->pendingOf st'=pendingOf st->Q true st') :
  wpS (model prog w) A E s (binarySort' lo n k) Q st:=by
 unfold binarySort'
 refine wpS_bind (wpS_mono (wpS_forRange (I:=fun x c st'=>SB kd xs0 st'/\pendingOf st'=pendingOf st/\c.1=none) (Q:=fun c st'=>SB kd xs0 st'/\pendingOf st'=pendingOf st/\c.1=none) ?step (fun _ _ q=>q) ⟨B,rfl,rfl⟩) ?post)
 case post =>
  rintro ⟨o,u⟩ st' ⟨B1,p1,rfl⟩
  exact wpS_pure (h _ B1 p1)
 case step =>
  rintro x ⟨o,u⟩ st' a b ⟨B1,p1,rfl⟩
  dsimp only
  refine wpS_bind (wpS_mono (wpS_forRange (I:=fun y c st2=>st2=st'/\c.1=none/\c.2.2<=x) (Q:=fun c st2=>st2=st'/\c.1=none/\c.2.2<=x) ?step1 (fun _ _ q=>q) ⟨rfl,rfl,Nat.le_refl _⟩) ?post1)
  case step1 =>
   rintro y ⟨o,l,r⟩ st2 _ _ ⟨rfl,rfl,le⟩
   dsimp only at le ⊢
   refine cM (fun _=>wpS_pure ⟨rfl,rfl,le⟩) (fun lr=>?_)
   refine wpS_bind (fZ L G B1 (by omega) (by omega) fun c=>?_)
   dsimp only
   refine cM (fun _=>wpS_pure ⟨rfl,rfl,by dsimp only;omega⟩) (fun _=>wpS_pure ⟨rfl,rfl,le⟩)
  case post1 =>
   rintro ⟨o,l,r⟩ st2 ⟨rfl,rfl,le⟩
   dsimp only
   refine wpS_bind (wpS_modify ?_)
   exact wpS_pure ⟨⟨(bubble_perm _ _ _).trans B1.perm,B1.kind,B1.ok⟩,p1,rfl⟩
end
end TS
namespace TS
open PySem PyProof.Rows
theorem uG (sa:Nat):∀ (l:List Keyed) (i:Nat)(a:Array Keyed),sa + i + l.length<=a.size->((l.zipIdx i).foldl (fun a (x:Keyed×Nat)=>a.setIfInBounds (sa + x.2) x.1) a).toList=a.toList.take (sa + i)++(l++a.toList.drop (sa + i + l.length))
 | [],i,a,h=>by simp
 | p::r,i,a,h=>by
  have hl:(p::r).length=r.length + 1:=rfl
  rw [hl] at h
  rw [List.zipIdx_cons,List.foldl_cons,uG sa r (i + 1) _ (by rw [Array.size_setIfInBounds];omega)]
  rw [Array.toList_setIfInBounds]
  have lt:sa + i < a.toList.length:=by simp;omega
  have e1:(a.toList.set (sa + i) p).take (sa + (i + 1))=a.toList.take (sa + i)++[p]:=by
   rw [show sa + (i + 1)=sa + i + 1 by omega,List.take_succ,List.take_set_of_le (Nat.le_refl _),List.getElem?_set_self lt]
   rfl
  have e2:(a.toList.set (sa + i) p).drop (sa + (i + 1) + r.length)=a.toList.drop (sa + i + (p::r).length):=by
   rw [List.drop_set_of_lt (by omega),hl]
   congr 1
   omega
  rw [e1,e2]
  simp
theorem seg (a:Array Keyed){i j k:Nat}(h1:i<=j)(h2:j<=k):a.toList=a.toList.take i++((a.extract i j).toList++((a.extract j k).toList++a.toList.drop k)):=by
 have e1:=jc a h1
 have e2:=jc a h2
 rw [<- e2,<- e1,List.take_append_drop]
section
variable {prog:Program}{w:World}{A:Around}{E:Value->Shared->Prop}{s:Shared}{kd:SortKind}{P:Value->Prop}{xs0:Array Keyed}
theorem Good.extract {xs:Array Keyed}(G:Good P xs) (i j:Nat):Good P (xs.extract i j):=fun k p h=>by
 rw [Array.getElem?_extract] at h
 split at h
 ·exact G _ _ h
 ·cases h
theorem BA {st:SortSt}{i sa na pw sb nb pb:Nat}{Q:Bool->SortSt->Prop}(L:iY prog w A s kd P)(G:Good P xs0)(B:SB kd xs0 st)(e1:(pendingOf st)[i]?=some (sa,na,pw))(e2:(pendingOf st)[i + 1]?=some (sb,nb,pb))(c:sb=sa + na)(n1:1<=na)(n2:1<=nb)(le:sb + nb<=xs0.size)
  (h:∀ st',SB kd xs0 st'->pendingOf st'=((pendingOf st).setIfInBounds i (sa,na + nb,pw)).eraseIdxIfInBounds (i + 1)->Q true st'):wpS (model prog w) A E s (mergeAt' i) Q st:=by
 have G':=G.perm B.perm
 have sz:=B.size
 unfold mergeAt'
 refine wpS_bind (wpS_get ?_)
 dsimp only
 rw [e1,e2]
 dsimp only
 refine wpS_bind (?_:wpS _ _ _ _ (set _) _ _)
 unfold wpS
 rw [StateT.run_set]
 refine wpAny_pure ⟨rfl,?_⟩
 refine wpS_bind (jH (by rw [sz];omega) fun p hp=>?_)
 have B1:SB kd xs0 (SortSt.mk' (kindOf st) (arrOf st) (((pendingOf st).setIfInBounds i (sa,na + nb,pw)).eraseIdxIfInBounds (i + 1)) (gallopOf st) (failedOf st)):=⟨B.perm,B.kind,B.ok⟩
 refine wpS_bind (mT L B.kind (G' _ _ hp) G' (show sa + na<=(arrOf st).size by omega) (by omega) fun k hk=>?_)
 dsimp only
 refine d7 (fun _=>wpS_pure (h _ B1 rfl)) (fun e3=>?_)
 refine wpS_bind (jH (show sa + k + (na - k) - 1 < (arrOf st).size by omega) fun p2 hp2=>?_)
 refine wpS_bind (mT L B.kind (G' _ _ hp2) G' (show sb + nb<=(arrOf st).size by omega) (by omega) fun k2 hk2=>?_)
 dsimp only
 refine d7 (fun _=>wpS_pure (h _ B1 rfl)) (fun e4=>?_)
 have x1:((arrOf st).extract (sa + k) sb).size=sb - (sa + k):=by
  rw [Array.size_extract]
  omega
 have x2:((arrOf st).extract sb (sb + k2)).size=k2:=by
  rw [Array.size_extract]
  omega
 have fin:∀ zs:Array Keyed,zs.toList.Perm (((arrOf st).extract (sa + k) sb).toList++((arrOf st).extract sb (sb + k2)).toList)->(zs.toList.zipIdx.foldl (fun a (x:Keyed×Nat)=>a.setIfInBounds (sa + k + x.2) x.1) (arrOf st)).Perm xs0:=fun zs pm=>by
  have zl:zs.toList.length=sb + k2 - (sa + k):=by
   rw [pm.length_eq,List.length_append,Array.length_toList,Array.length_toList,x1,x2]
   omega
  refine Array.Perm.trans (Array.perm_iff_toList_perm.mpr ?_) B.perm
  rw [uG (sa + k) zs.toList 0 (arrOf st) (by omega)]
  have e:=seg (arrOf st) (show sa + k<=sb by omega) (show sb<=sb + k2 by omega)
  rw [Nat.add_zero,show sa + k + zs.toList.length=sb + k2 by omega]
  conv=>rhs;rw [e]
  refine List.Perm.append_left _ ?_
  rw [<- List.append_assoc]
  exact pm.append_right _
 refine cM (fun _=>?_) (fun _=>?_)
 ·refine wpS_bind (Ka L B.kind (G'.extract _ _) (G'.extract _ _) (show 1<=((arrOf st).extract (sa + k) sb).size by omega) (show 1<=((arrOf st).extract sb (sb + k2)).size by omega) fun zs st2 g pm=>?_)
  obtain ⟨g1,g2,g3,g4⟩:=g
  refine wpS_bind (wpS_modify ?_)
  refine wpS_bind (wpS_get ?_)
  refine wpS_pure ?_
  have e:(failedOf st2).isNone=true:=by
   rw [g4]
   show (failedOf st).isNone=true
   rw [B.ok]
   rfl
  show Q (failedOf st2).isNone _
  rw [e]
  refine h _ ⟨?_,g1.trans B.kind,g4.trans B.ok⟩ g3
  show (zs.toList.zipIdx.foldl (fun a (x:Keyed×Nat)=>a.setIfInBounds (sa + k + x.2) x.1) (arrOf st2)).Perm xs0
  rw [g2]
  exact fin zs pm
 ·refine wpS_bind (Jr L B.kind (G'.extract _ _) (G'.extract _ _) (show 1<=((arrOf st).extract (sa + k) sb).size by omega) (show 1<=((arrOf st).extract sb (sb + k2)).size by omega) fun zs st2 g pm=>?_)
  obtain ⟨g1,g2,g3,g4⟩:=g
  refine wpS_bind (wpS_modify ?_)
  refine wpS_bind (wpS_get ?_)
  refine wpS_pure ?_
  have e:(failedOf st2).isNone=true:=by
   rw [g4]
   show (failedOf st).isNone=true
   rw [B.ok]
   rfl
  show Q (failedOf st2).isNone _
  rw [e]
  refine h _ ⟨?_,g1.trans B.kind,g4.trans B.ok⟩ g3
  show (zs.toList.zipIdx.foldl (fun a (x:Keyed×Nat)=>a.setIfInBounds (sa + k + x.2) x.1) (arrOf st2)).Perm xs0
  rw [g2]
  exact fin zs pm
end
end TS
namespace TS
open PySem PyProof.Rows
def Cont:Nat->List (Nat×Nat×Nat)->Nat->Prop
 | f,[],lo=>f=lo
 | f,(s,n,_)::r,lo=>s=f/\1<=n/\Cont (f + n) r lo
theorem Cont.le:∀ {l:List (Nat×Nat×Nat)}{f lo:Nat},Cont f l lo->f<=lo
 | [],f,lo,h=>Nat.le_of_eq h
 | (s,n,p)::r,f,lo,⟨_,h1,h⟩=>by
  have:=Cont.le h
  omega
theorem Cont.two:∀ {l:List (Nat×Nat×Nat)}{f lo:Nat} (i:Nat),Cont f l lo->i + 1 < l.length->∃ sa na pw sb nb pb,l[i]?=some (sa,na,pw)/\l[i + 1]?=some (sb,nb,pb)/\sb=sa + na/\1<=na/\1<=nb/\sb + nb<=lo
 | (s,n,p)::(s2,n2,p2)::r,f,lo,0,⟨h1,h2,h3,h4,h5⟩,_=>⟨s,n,p,s2,n2,p2,rfl,rfl,by omega,h2,h4,by have:=h5.le;omega⟩
 | (s,n,p)::r,f,lo,i + 1,⟨_,_,h⟩,hl=>Cont.two i h (by simpa using hl)
 | [],_,_,_,_,hl=>by simp at hl
 | [_],_,_,0,_,hl=>by simp at hl
theorem Cont.merge:∀ {l:List (Nat×Nat×Nat)}{f lo:Nat} (i:Nat){sa na pw sb nb pb:Nat},Cont f l lo->l[i]?=some (sa,na,pw)->l[i + 1]?=some (sb,nb,pb)->Cont f ((l.set i (sa,na + nb,pw)).eraseIdx (i + 1)) lo
 | (s,n,p)::(s2,n2,p2)::r,f,lo,0,sa,na,pw,sb,nb,pb,⟨h1,h2,h3,h4,h5⟩,e1,e2=>by
  cases e1
  cases e2
  refine ⟨h1,by omega,?_⟩
  rw [<- Nat.add_assoc]
  exact h5
 | (s,n,p)::r,f,lo,i + 1,sa,na,pw,sb,nb,pb,⟨h1,h2,h⟩,e1,e2=>⟨h1,h2,Cont.merge i h e1 e2⟩
 | [],_,_,_,_,_,_,_,_,_,_,e1,_=>by cases e1
 | [_],_,_,0,_,_,_,_,_,_,_,_,e2=>by cases e2
theorem Cont.mod (pw:Nat):∀ {l:List (Nat×Nat×Nat)}{f lo:Nat} (j:Nat),Cont f l lo->Cont f (l.modify j fun x=>(x.1,x.2.1,pw)) lo
 | [],f,lo,j,h=>by
  rw [List.modify_nil]
  exact h
 | (s,n,p)::r,f,lo,0,⟨h1,h2,h⟩=>⟨h1,h2,h⟩
 | (s,n,p)::r,f,lo,j + 1,⟨h1,h2,h⟩=>⟨h1,h2,Cont.mod pw j h⟩
theorem Cont.push {n:Nat}(hn:1<=n):∀ {l:List (Nat×Nat×Nat)}{f lo:Nat},Cont f l lo->Cont f (l++[(lo,n,0)]) (lo + n)
 | [],f,lo,h=>⟨h.symm,hn,by show f + n=lo + n;rw [show f=lo from h]⟩
 | (s,m,p)::r,f,lo,⟨h1,h2,h⟩=>⟨h1,h2,Cont.push hn h⟩
section
variable {prog:Program}{w:World}{A:Around}{E:Value->Shared->Prop}{s:Shared}{kd:SortKind}{P:Value->Prop}{xs0:Array Keyed}
theorem pI {st:SortSt}{i lo:Nat}{Q:Bool->SortSt->Prop}(L:iY prog w A s kd P)(G:Good P xs0)(B:SB kd xs0 st)(C:Cont 0 (pendingOf st).toList lo)(le:lo<=xs0.size)(hi:i + 1 < (pendingOf st).size)
  (h:∀ st',SB kd xs0 st'->Cont 0 (pendingOf st').toList lo->Q true st'):wpS (model prog w) A E s (mergeAt' i) Q st:=by
 obtain ⟨sa,na,pw,sb,nb,pb,e1,e2,c,n1,n2,l2⟩:=C.two i (by simpa using hi)
 refine BA L G B (by rw [<- Array.getElem?_toList];exact e1) (by rw [<- Array.getElem?_toList];exact e2) c n1 n2 (by omega) fun st' B' p'=>h st' B' ?_
 rw [p',Array.toList_eraseIdxIfInBounds,Array.toList_setIfInBounds]
 exact C.merge i e1 e2
theorem Ef {st:SortSt}{Q:Unit->SortSt->Prop}(L:iY prog w A s kd P)(G:Good P xs0)(B:SB kd xs0 st)(p0:pendingOf st=#[])(h:∀ st',SB kd xs0 st'->Q () st'):wpS (model prog w) A E s sortRuns' Q st:=by
 rw [sortRuns'_eq]
 refine wpS_bind (wpS_get ?_)
 dsimp only
 rw [B.size]
 refine wpS_bind (wpS_mono (wpS_forRange (I:=fun x c st'=>SB kd xs0 st'/\c.1=none/\Cont 0 (pendingOf st').toList c.2/\c.2<=xs0.size) (Q:=fun c st'=>SB kd xs0 st'/\c.1=none/\Cont 0 (pendingOf st').toList c.2/\c.2<=xs0.size) ?step (fun _ _ q=>q) ⟨B,rfl,by rw [p0];rfl,Nat.zero_le _⟩) ?post)
 case step =>
  rintro x ⟨o,lo⟩ st' _ _ ⟨B1,rfl,C1,l1⟩
  dsimp only at C1 l1 ⊢
  refine cM (fun _=>wpS_pure ⟨B1,rfl,C1,l1⟩) (fun ge=>?_)
  refine wpS_bind (Bm L G B1 (by omega) (by omega) fun m st2 B2 p2 m1 m2=>?_)
  dsimp only
  have C2:Cont 0 (pendingOf st2).toList lo:=by rw [p2];exact C1
  refine cM (fun lt=>?_) (fun lt=>?_)
  ·refine wpS_bind (wpS_lift (wpAny_rule ⟨rfl,?_⟩))
   generalize hf:min (xs0.size - lo) (minRun' xs0.size xs0.size 0)=force
   have f1:1<=force:=by omega
   have f2:lo + force<=xs0.size:=by omega
   refine wpS_bind (Ik L G B2 f2 fun st3 B3 p3=>?_)
   have C3:Cont 0 (pendingOf st3).toList lo:=by rw [p3];exact C2
   refine cM (fun z=>absurd z (by decide)) (fun _=>?_)
   refine wpS_bind (wpS_get ?_)
   cases hb:(pendingOf st3).back? with
   | none =>
    dsimp only
    refine wpS_bind (wpS_modify ?_)
    refine wpS_pure ⟨⟨B3.perm,B3.kind,B3.ok⟩,rfl,?_,f2⟩
    show Cont 0 ((pendingOf st3).push (lo,force,0)).toList (lo + force)
    rw [Array.toList_push]
    exact C3.push f1
   | some t =>
    obtain ⟨s1,n1',q1⟩:=t
    dsimp only
    refine wpS_bind (wpS_mono (wpS_forRange (I:=fun y c st4=>SB kd xs0 st4/\c.1=none/\Cont 0 (pendingOf st4).toList lo) (Q:=fun c st4=>SB kd xs0 st4/\c.1=none/\Cont 0 (pendingOf st4).toList lo) ?step1 (fun _ _ q=>q) ⟨B3,rfl,C3⟩) ?post1)
    case step1 =>
     rintro y ⟨o,u⟩ st4 _ _ ⟨B4,rfl,C4⟩
     refine wpS_bind (wpS_get ?_)
     cases hm:(if (pendingOf st4).size > 1 then (pendingOf st4)[(pendingOf st4).size - 2]? else none) with
     | none=>exact wpS_pure ⟨B4,rfl,C4⟩
     | some t =>
      obtain ⟨f1,f2,older⟩:=t
      dsimp only
      refine cM (fun _=>wpS_pure ⟨B4,rfl,C4⟩) (fun _=>?_)
      have s2:(pendingOf st4).size > 1:=by
       by_cases z:(pendingOf st4).size > 1
       ·exact z
       ·rw [if_neg z] at hm
        cases hm
      refine wpS_bind (pI L G B4 C4 l1 (by omega) fun st5 B5 C5=>?_)
      exact cM (fun z=>absurd z (by decide)) (fun _=>wpS_pure ⟨B5,rfl,C5⟩)
    case post1 =>
     rintro ⟨o,u⟩ st4 ⟨B4,rfl,C4⟩
     dsimp only
     refine wpS_bind (wpS_modify ?_)
     refine wpS_bind (wpS_modify ?_)
     refine wpS_pure ⟨⟨B4.perm,B4.kind,B4.ok⟩,rfl,?_,f2⟩
     refine id (?_:Cont 0 (((pendingOf st4).modify ((pendingOf st4).size - 1) fun x=>(x.1,x.2.1,_)).push (lo,force,0)).toList (lo + force))
     rw [Array.toList_push,Array.toList_modify]
     exact (C4.mod _ _).push f1
  ·have f2:lo + m<=xs0.size:=by omega
   refine wpS_bind (wpS_get ?_)
   cases hb:(pendingOf st2).back? with
   | none =>
    dsimp only
    refine wpS_bind (wpS_modify ?_)
    refine wpS_pure ⟨⟨B2.perm,B2.kind,B2.ok⟩,rfl,?_,f2⟩
    show Cont 0 ((pendingOf st2).push (lo,m,0)).toList (lo + m)
    rw [Array.toList_push]
    exact C2.push m1
   | some t =>
    obtain ⟨s1,n1',q1⟩:=t
    dsimp only
    refine wpS_bind (wpS_mono (wpS_forRange (I:=fun y c st4=>SB kd xs0 st4/\c.1=none/\Cont 0 (pendingOf st4).toList lo) (Q:=fun c st4=>SB kd xs0 st4/\c.1=none/\Cont 0 (pendingOf st4).toList lo) ?step2 (fun _ _ q=>q) ⟨B2,rfl,C2⟩) ?post2)
    case step2 =>
     rintro y ⟨o,u⟩ st4 _ _ ⟨B4,rfl,C4⟩
     refine wpS_bind (wpS_get ?_)
     cases hm:(if (pendingOf st4).size > 1 then (pendingOf st4)[(pendingOf st4).size - 2]? else none) with
     | none=>exact wpS_pure ⟨B4,rfl,C4⟩
     | some t =>
      obtain ⟨f1,f2,older⟩:=t
      dsimp only
      refine cM (fun _=>wpS_pure ⟨B4,rfl,C4⟩) (fun _=>?_)
      have s2:(pendingOf st4).size > 1:=by
       by_cases z:(pendingOf st4).size > 1
       ·exact z
       ·rw [if_neg z] at hm
        cases hm
      refine wpS_bind (pI L G B4 C4 l1 (by omega) fun st5 B5 C5=>?_)
      exact cM (fun z=>absurd z (by decide)) (fun _=>wpS_pure ⟨B5,rfl,C5⟩)
    case post2 =>
     rintro ⟨o,u⟩ st4 ⟨B4,rfl,C4⟩
     dsimp only
     refine wpS_bind (wpS_modify ?_)
     refine wpS_bind (wpS_modify ?_)
     refine wpS_pure ⟨⟨B4.perm,B4.kind,B4.ok⟩,rfl,?_,f2⟩
     refine id (?_:Cont 0 (((pendingOf st4).modify ((pendingOf st4).size - 1) fun x=>(x.1,x.2.1,_)).push (lo,m,0)).toList (lo + m))
     rw [Array.toList_push,Array.toList_modify]
     exact (C4.mod _ _).push m1
 case post =>
  rintro ⟨o,lo⟩ st' ⟨B1,rfl,C1,l1⟩
  dsimp only at C1 l1 ⊢
  refine wpS_bind (wpS_mono (wpS_forRange (I:=fun y c st4=>SB kd xs0 st4/\c.1=none/\Cont 0 (pendingOf st4).toList lo) (Q:=fun c st4=>SB kd xs0 st4/\c.1=none/\Cont 0 (pendingOf st4).toList lo) ?stepE (fun _ _ q=>q) ⟨B1,rfl,C1⟩) ?postE)
  case stepE =>
   rintro y ⟨o,u⟩ st4 _ _ ⟨B4,rfl,C4⟩
   refine wpS_bind (wpS_get ?_)
   refine cM (fun _=>wpS_pure ⟨B4,rfl,C4⟩) (fun gt=>?_)
   refine wpS_bind (pI L G B4 C4 l1 (by (repeat' split) <;> omega) fun st5 B5 C5=>?_)
   exact cM (fun z=>absurd z (by decide)) (fun _=>wpS_pure ⟨B5,rfl,C5⟩)
  case postE =>
   rintro ⟨o,u⟩ st4 ⟨B4,rfl,C4⟩
   dsimp only
   exact wpS_pure (h _ B4)
end
end TS
namespace TS
open PySem PyProof.Rows
def IsPair (h:Heap)(v:Value):Prop:=∃ (a:Addr)(o:Obj) (i j:Int)(t u:Tok) (n:Nat),v=.ref a/\h.get? a=some o/\o.cls=.type "tuple"/\o.data=.seq #[.int i t,.int j u] n
section
variable {prog:Program}{w:World}{A:Around}{E:Value->Shared->Prop}{s:Shared}
theorem FZ (b:Bool){i j:Int}{t u:Tok}{Q:Bool->Shared->Prop}(h:∀ c,Q c s):wpAny (model prog w) A (oneLt' b (.int i t) (.int j u)) Q E s:=by
 cases b with
 | true=>exact oneLt_int (h _)
 | false =>
  rw [oneLt'_eq]
  rw [if_neg Bool.false_ne_true]
  refine wpAny_bind (?_:wpAny _ _ (compareOp .Lt (.int i t) (.int j u)) _ _ _)
  exact lt_int (wpAny_truthy_bool (h _))
theorem yz:iY prog w A s (tuples' true) (IsPair s.heap):=by
 rintro E x y ⟨a,o,i,j,t,u,n,rfl,ho,hc,hd⟩ ⟨a2,o2,i2,j2,t2,u2,n2,rfl,ho2,hc2,hd2⟩ Q h
 refine wpAny_bind (listItems_at ho hd ?_)
 refine wpAny_bind (listItems_at ho2 hd2 ?_)
 dsimp only
 refine wpAny_bind ?_
 refine wpAny_forIn_list _ (fun rest r s'=>s'=s/\r.1=none/\∀ x∈rest,∃ (i j:Int)(t u:Tok),x.1=(Value.int i t,Value.int j u)) _ ?_ ?_ _ _ ⟨rfl,rfl,fun x hx=>?_⟩
 ·rintro ⟨⟨p,q⟩,k⟩ rest ⟨r,⟨⟩⟩ s' ⟨rfl,rfl,hall⟩
  obtain ⟨i3,j3,t3,u3,e⟩:=hall _ List.mem_cons_self
  dsimp only at e
  cases e
  dsimp only
  refine wpAny_bind ((intKind prog w).eqBool (a:=i3) (b:=j3) (intKind_is _ _ i3 t3) (intKind_is _ _ j3 u3) ?_)
  cases decide (i3=j3) with
  | true=>exact wpAny_pure ⟨rfl,rfl,fun x hx=>hall x (List.mem_cons_of_mem _ hx)⟩
  | false=>exact wpAny_bind (FZ _ fun c=>wpAny_pure (wpAny_pure (h c)))
 ·rintro ⟨r,⟨⟩⟩ s' ⟨rfl,rfl,_⟩
  exact wpAny_pure (h _)
 ·have hx':x=((Value.int i t,Value.int i2 t2),0)\/x=((Value.int j u,Value.int j2 u2),1):=by simpa using hx
  rcases hx' with rfl | rfl
  ·exact ⟨_,_,_,_,rfl⟩
  ·exact ⟨_,_,_,_,rfl⟩
theorem yR {v:Value}{Q:Option Value->Shared->Prop}(hv:IsPair s.heap v)(h:∀ i t,Q (some (.int i t)) s):wpAny (model prog w) A (firstOfTuple' v) Q E s:=by
 obtain ⟨a,o,i,j,t,u,n,rfl,ho,hc,hd⟩:=hv
 unfold firstOfTuple'
 refine wpAny_bind (wpAny_typeOf (T:="tuple") ⟨o,ho,hc⟩ ?_)
 rw [if_neg (by decide)]
 refine wpAny_bind (listItems_at ho hd (wpAny_pure ?_))
 exact h i t
theorem firsts {Q:List (Option Value)->Shared->Prop}:∀ {vs:List Value},(∀ v∈vs,IsPair s.heap v)->(∀ os:List (Option Value),os.length=vs.length->(∀ o∈os,∃ i t,o=some (Value.int i t))->Q os s)->wpAny (model prog w) A (vs.mapM firstOfTuple') Q E s
 | [],_,h=>by
  rw [List.mapM_nil]
  exact wpAny_pure (h [] rfl fun o ho=>(nomatch ho))
 | v::r,hv,h=>by
  rw [List.mapM_cons]
  refine wpAny_bind (yR (hv v List.mem_cons_self) fun i t=>?_)
  refine wpAny_bind (firsts (fun x hx=>hv x (List.mem_cons_of_mem _ hx)) fun os ol oh=>?_)
  refine wpAny_pure (h _ (by simp [ol]) fun o ho=>?_)
  rcases List.mem_cons.mp ho with rfl | ho
  ·exact ⟨i,t,rfl⟩
  ·exact oh o ho
theorem yu {vs:List Value}{Q:SortKind->Shared->Prop}(h0:vs≠[])(hv:∀ v∈vs,IsPair s.heap v)(h:Q (tuples' true) s):wpAny (model prog w) A (keyKind' vs.toArray) Q E s:=by
 rw [keyKind'_eq,List.mapM_toArray]
 rw [map_eq_pure_bind,bind_assoc]
 refine wpAny_bind (firsts hv fun os ol oh=>?_)
 rw [pure_bind]
 have all:os.toArray.all (·.isSome)=true:=by
  rw [List.all_toArray,List.all_eq_true]
  intro o ho
  obtain ⟨i,t,rfl⟩:=oh o ho
  rfl
 rw [if_pos all]
 refine wpAny_bind (wpAny_rule ?_)
 have inte:∃ us:List Value,os.toArray.filterMap id=us.toArray/\us≠[]/\∃ ns,IntsAre us ns:=by
  have go:∀ os:List (Option Value),(∀ o∈os,∃ i t,o=some (Value.int i t))->∃ us ns,os.filterMap id=us/\us.length=os.length/\IntsAre us ns:=fun os=>by
   induction os with
   | nil=>exact fun _=>⟨[],[],rfl,rfl,.nil⟩
   | cons o r ih =>
    intro hh
    obtain ⟨i,t,rfl⟩:=hh o List.mem_cons_self
    obtain ⟨us,ns,e,l,I⟩:=ih fun x hx=>hh x (List.mem_cons_of_mem _ hx)
    exact ⟨.int i t::us,i::ns,by simp [e],by simp [l],.cons i t I⟩
  obtain ⟨us,ns,e,l,I⟩:=go os oh
  refine ⟨us,?_,fun z=>h0 ?_,ns,I⟩
  ·rw [List.filterMap_toArray,e]
  ·rw [z] at l
   have:vs.length=0:=by
    rw [<- ol,<- l]
    rfl
   exact List.length_eq_zero_iff.mp this
 obtain ⟨us,e,un,ns,I⟩:=inte
 rw [e,oneTypeOnly'_eq,List.mapM_toArray,mapM_typeOf_ints I]
 simp only [map_pure,pure_bind]
 obtain ⟨u0,ur,rfl⟩:=List.exists_cons_of_ne_nil un
 have hall:((List.map (fun _=>Value.type "int") (u0::ur)).toArray.all fun x=>x == Value.type "int")=true:=by
  simp only [List.all_toArray,List.all_map,List.all_eq_true]
  intro _ _
  rfl
 have h1:(List.map (fun _=>Value.type "int") (u0::ur)).toArray[0]?=some (Value.type "int"):=by simp
 rw [h1]
 simp only [hall,if_true,pure_bind]
 exact wpAny_pure h
end
end TS
namespace TS
open PySem PyProof.Rows
theorem IsPair.keep {h h':Heap}{v:Value}{a:Addr}{c:Obj}(p:IsPair h v)(ha:h.get? a=some c)(hc:c.cls=.type "list")(k:∀ b o,b≠a->h.get? b=some o->h'.get? b=some o):IsPair h' v:=by
 obtain ⟨b,o,i,j,t,u,n,rfl,ho,hco,hd⟩:=p
 refine ⟨b,o,i,j,t,u,n,rfl,k b o (fun z=>?_) ho,hco,hd⟩
 rw [z,ha] at ho
 cases ho
 rw [hc] at hco
 injection hco with z
 exact absurd z (by decide)
section
variable {prog:Program}{w:World}{A:Around}{E:Value->Shared->Prop}{s:Shared}
theorem yK {a:Addr}{vs:List Value}{n:Nat}{R:Fin->Shared->Prop}(ho:s.heap.get? a=some (seqObj "list" vs.toArray n))(hv:∀ v∈vs,IsPair s.heap v)(few:vs.length<=1000)
  (h:∀ us:Array Value,us.toList.Perm vs->R (.done (.ret .none)) { s with heap:=sortedHeap s.heap a vs us }):wpAny (model prog w) A (Builtin.«list.sort» ⟨[.ref a],[]⟩) R E s:=by
 have line:(1000:Nat)<=sizeLine:=by decide
 have az:a < s.heap.objs.size:=Heap.lt_size ho
 rw [list_sort_plain (a:Addr)]
 refine wpAny_bind (listItems_at ho rfl (?_:_))
 refine wpAny_bind (listUpdate_at ho rfl (?_:_) (by simp;omega) (by simp))
 obtain ⟨ep,g1⟩:∃ ep,(s.heap.update a (Obj.mapSeq fun _=>#[])).get? a=some (seqObj "list" #[] ep):=⟨_,get?_update_seq ho fun _=>#[]⟩
 refine wpAny_bind (seqEpoch_at g1 rfl (?_:_))
 refine wpAny_bind (wpAny_newTuple (?_:_) (by simp;omega))
 refine wpAny_bind (wpAny_newList (?_:_))
 refine wpAny_holding (?_:_)
 have g6:(((s.heap.update a (Obj.mapSeq fun _=>#[])).push (seqObj "tuple" vs.toArray 0)).push (seqObj "list" #[] 0)).get? a=some (seqObj "list" #[] ep):=Heap.get?_push_of_some _ (Heap.get?_push_of_some _ g1)
 have keep:∀ b o,b≠a->s.heap.get? b=some o->(((s.heap.update a (Obj.mapSeq fun _=>#[])).push (seqObj "tuple" vs.toArray 0)).push (seqObj "list" #[] 0)).get? b=some o:=fun b o hb e=>Heap.get?_push_of_some _ (Heap.get?_push_of_some _ ((Heap.get?_update_other _ _ (Ne.symm hb)).trans e))
 have hv6:∀ v∈vs,IsPair (((s.heap.update a (Obj.mapSeq fun _=>#[])).push (seqObj "tuple" vs.toArray 0)).push (seqObj "list" #[] 0)) v:=fun v m=>(hv v m).keep ho rfl keep
 refine id (?_:wpAny (model prog w) A _ R E { s with heap:=((s.heap.update a (Obj.mapSeq fun _=>#[])).push (seqObj "tuple" vs.toArray 0)).push (seqObj "list" #[] 0) })
 dsimp only
 have psz:(vs.toArray.zip vs.toArray).size=vs.length:=by simp
 have out:∀ zs:Array Keyed,zs.Perm (vs.toArray.zip vs.toArray)->(zs.map (·.2)).toList.Perm vs:=fun zs p=>by
  have p2:=(Array.perm_iff_toList_perm.mp p).map (·.2)
  rw [Array.toList_map]
  refine p2.trans ?_
  have:((vs.toArray.zip vs.toArray).toList.map (·.2))=vs:=by
   rw [Array.toList_zip]
   simp [List.map_snd_zip]
  rw [this]
 by_cases h2:vs.toArray.size < 2
 ·rw [if_pos h2,if_pos h2]
  refine wpAny_bind (wpAny_pure (?_:_))
  rw [StateT.run_pure]
  refine wpAny_bind (wpAny_pure (?_:_))
  dsimp only
  refine wpAny_bind (seqEpoch_at g6 rfl (?_:_))
  have o1:=out (vs.toArray.zip vs.toArray) (Array.Perm.refl _)
  have l1:=o1.length_eq
  rw [Array.length_toList] at l1
  refine wpAny_bind (listUpdate_at g6 rfl (?_:_) (by simp) (Nat.le_trans (Nat.le_of_eq l1) (by omega)))
  simp only [bne_self_eq_false,Bool.false_eq_true,if_false]
  refine wpAny_pure (?_:_)
  exact h _ o1
 ·rw [if_neg h2,if_neg h2]
  have ne:vs≠[]:=fun z=>h2 (by rw [z];decide)
  refine wpAny_bind (yu (s:={ s with heap:=((s.heap.update a (Obj.mapSeq fun _=>#[])).push (seqObj "tuple" vs.toArray 0)).push (seqObj "list" #[] 0) }) ne hv6 (?_:_))
  refine wpAny_bind (wpAny_mono (Ef (kd:=tuples' true) (P:=IsPair (((s.heap.update a (Obj.mapSeq fun _=>#[])).push (seqObj "tuple" vs.toArray 0)).push (seqObj "list" #[] 0))) (xs0:=vs.toArray.zip vs.toArray) (s:={ s with heap:=((s.heap.update a (Obj.mapSeq fun _=>#[])).push (seqObj "tuple" vs.toArray 0)).push (seqObj "list" #[] 0) }) (Q:=fun _ st'=>SB (tuples' true) (vs.toArray.zip vs.toArray) st') yz (fun k p hp=>?_) ⟨Array.Perm.refl _,rfl,rfl⟩ rfl fun st' B=>B) ?_ fun _ _ e=>e)
  ·have m:p∈(vs.toArray.zip vs.toArray).toList:=List.mem_of_getElem? (by rw [Array.getElem?_toList];exact hp)
   rw [Array.toList_zip] at m
   exact hv6 _ (List.of_mem_zip m).1
  ·rintro ⟨⟨⟩,st'⟩ s' ⟨rfl,B⟩
   dsimp only
   refine wpAny_bind (seqEpoch_at g6 rfl (?_:_))
   have o1:=out _ B.perm
   have l1:=o1.length_eq
   rw [Array.length_toList] at l1
   refine wpAny_bind (listUpdate_at g6 rfl (?_:_) (by simp) (Nat.le_trans (Nat.le_of_eq l1) (by omega)))
   rw [B.ok]
   simp only [bne_self_eq_false,Bool.false_eq_true,if_false]
   refine wpAny_pure (?_:_)
   exact h _ o1
end
end TS
namespace L2
open PySem PySem.Spec PyProof.Rows
theorem zE {us its:List Value}(p:us.Perm its):∀ {ys:List V},Vals ys its->∃ zs,zs.Perm ys/\Vals zs us:=by
 induction p with
 | nil=>exact fun {ys} r=>⟨ys,List.Perm.refl _,r⟩
 | cons x _ ih =>
  intro ys r
  cases r with
  | cons h r =>
   obtain ⟨zs,p1,r1⟩:=ih r
   exact ⟨_::zs,p1.cons _,.cons h r1⟩
 | swap x y l =>
  intro ys r
  cases r with
  | cons h r =>
   cases r with
   | cons h2 r=>exact ⟨_::_::_,List.Perm.swap _ _ _,.cons h2 (.cons h r)⟩
 | trans _ _ ih1 ih2 =>
  intro ys r
  obtain ⟨zs,p1,r1⟩:=ih2 r
  obtain ⟨ws,p2,r2⟩:=ih1 r1
  exact ⟨ws,p2.trans p1,r2⟩
section
variable {X:Cx}
inductive wO (K:PySem.W.Frag)(xs:List V)(H:Hp)(Q:VK):Prop
 | mk:∀ (a:Addr)(ys:List V),(xs=[.ref a])->(cu K H a ys)->((∀ y∈ys,∃ (b:Addr) (i j:Int),y=.ref b/\cB K H b [.int i,.int j]))->(ys.length<=1000)->(∀ (zs:List V)(p:Addr),zs.Perm ys->H p=none->Q (.ref p) (upd H p (.lst zs)))->wO K xs H Q
def zL (K:PySem.W.Frag):List V->Hp->VK->Prop:=fun xs H Q=>wO K xs H Q
theorem uS:cK X (.builtin "sorted") (zL X.K):=by
 intro pins s σ H xs us Q I r h
 obtain ⟨a,ys,rfl,hq,tu,few,q⟩:=h
 obtain ⟨u,rfl,ru⟩:=r.one
 cases ru
 obtain ⟨its,rv,p,_⟩:=I.list hq
 have hlen:its.length=ys.length:=rv.length.symm
 have hv:∀ v∈its,TS.IsPair s.heap v:=fun v m=>by
  obtain ⟨i,hi⟩:=List.getElem?_of_mem m
  have go:∀ {ys:List V}{its:List Value},Vals ys its->∀ (i:Nat)(u:Value),its[i]?=some u->∃ x,ys[i]?=some x/\RelV x u:=fun {ys its} r=>by
   induction r with
   | nil=>exact fun i u h=>(nomatch h)
   | cons h _ ih =>
    intro i u e
    cases i with
    | zero =>
     cases e
     exact ⟨_,rfl,h⟩
    | succ i=>exact ih i u e
  obtain ⟨x,hx,rx⟩:=go rv i v hi
  obtain ⟨b,i1,j1,rfl,sb⟩:=tu x (List.mem_of_getElem? hx)
  cases rx
  obtain ⟨its2,r2,⟨o2,e2,c2,n2,d2⟩,_⟩:=I.tuple sb
  cases r2 with
  | cons ra r3 =>
   cases r3 with
   | cons rb r4 =>
    cases r4
    obtain ⟨t,rfl⟩:=ra
    obtain ⟨u,rfl⟩:=rb
    exact ⟨b,o2,i1,j1,t,u,n2,rfl,e2,c2,d2⟩
 have line:(1000:Nat)<=sizeLine:=by decide
 refine Calls.call_function_entry kind_sorted plain_sorted entry_sorted (args_sorted1 _) (?_:_)
 unfold Builtin.«sorted»
 refine wpAny_bind (m:=checkCount "sorted" 1 1 _) (wpAny_pure (?_:_))
 refine wpAny_bind (collect_list p.isList (?_:_) (by omega))
 refine wpAny_bind (wpAny_newList (?_:_) (by omega))
 have sz:((s.heap.push (seqObj "list" #[] 0)).update s.heap.objs.size (Obj.mapSeq (·++its.toArray))).objs.size=s.heap.objs.size + 1:=by
  rw [Heap.size_update]
  exact size_push' _ _
 have g0:(((s.heap.push (seqObj "list" #[] 0)).update s.heap.objs.size (Obj.mapSeq (·++its.toArray))).push (seqObj "list" its.toArray 0)).get? (s.heap.objs.size + 1)=some (seqObj "list" its.toArray 0):=by
  rw [<- sz]
  exact Heap.get?_push_size _ rfl
 have old:∀ b o,s.heap.get? b=some o->(((s.heap.push (seqObj "list" #[] 0)).update s.heap.objs.size (Obj.mapSeq (·++its.toArray))).push (seqObj "list" its.toArray 0)).get? b=some o:=fun b o e=>Heap.get?_push_of_some _ ((Heap.get?_update_other _ _ (Nat.ne_of_gt (Heap.lt_size e))).trans (Heap.get?_push_of_some _ e))
 refine id (?_:wpAny _ _ _ _ _ { s with heap:=((s.heap.push (seqObj "list" #[] 0)).update s.heap.objs.size (Obj.mapSeq (·++its.toArray))).push (seqObj "list" its.toArray 0) })
 rw [sz]
 have hv2:∀ v∈its,TS.IsPair (((s.heap.push (seqObj "list" #[] 0)).update s.heap.objs.size (Obj.mapSeq (·++its.toArray))).push (seqObj "list" its.toArray 0)) v:=fun v m=>by
  obtain ⟨b,o,i,j,t,u,n,e,ho,r⟩:=hv v m
  exact ⟨b,o,i,j,t,u,n,e,old b o ho,r⟩
 refine wpAny_bind (wpAny_holding (wpAny_call_entry slot_list_sort ⟨_,g0,rfl⟩ entry_list_sort (TS.yK g0 hv2 (by omega) fun out pm=>⟨_,rfl,(?_:_)⟩) (args_list_sort _)))
 obtain ⟨n,hn⟩:=sortedHeap_at (vs:=its) (out:=out) g0
 obtain ⟨zs,pz,rz⟩:=zE pm rv
 have new:s.heap.get? (s.heap.objs.size + 1)=none:=Heap.get?_none_of_le (Nat.le_succ _)
 have I2:=I.x6 (a:=s.heap.objs.size + 1) (o:=.lst zs) (t':=s.toks) (h':=sortedHeap (((s.heap.push (seqObj "list" #[] 0)).update s.heap.objs.size (Obj.mapSeq (·++its.toArray))).push (seqObj "list" its.toArray 0)) (s.heap.objs.size + 1) its out) (fun b o hb=>by
   have lt:=Heap.lt_size hb
   rw [sortedHeap_old (Nat.ne_of_lt (Nat.lt_succ_of_lt lt)) (by rw [size_push',sz];exact Nat.lt_succ_of_lt (Nat.lt_succ_of_lt lt))]
   exact old b o hb) new
  ⟨by rw [pz.length_eq];omega,out.toList,n,rz,by simpa using hn⟩
 exact wpAny_pure ⟨_,rfl,.ref (s.heap.objs.size + 1),_,I2,rfl,q zs _ pz (I.jL new)⟩
end
end L2
namespace L2
open PySem PySem.Spec PyProof.Rows
/-! ### a comprehension whose own variable stands in a cell (an inner one takes it) -/
abbrev nU:Obj:={ cls:=.type "cell",data:=.cell none }
def Cx.aW (X:Cx)(scope:Scope) (x:Str)(C c:Addr)(NB:List Str)(s2:Shared)(H2:Hp)(fp:List Addr):Cx :=
 { X with N:=NB,s₀:=s2,H₀:=H2,env:=compEnvC scope ((x,c)::b6 X.env.cells scope.names []) C X.env,outer:=X.stack,ex:=fp,fn:=fun y=>y == x,pn:=[],xe:=fun _ _=>False }
section
variable {M:Model}{A:Around}{E:Value->Shared->Prop}{s:Shared}{X:Cx}{scope:Scope}{x:Str}{NB:List Str}{ix:List Nat}
end
section
variable {X:Cx}{scope:Scope}{x:Str}{NB:List Str}{ix:List Nat}{pins:List (Addr×Obj)}{σ:St}{H2:Hp}{s2:Shared}{fp:List Addr}
theorem pN (I2:Inv X pins σ H2 s2){y:Str}{c:Addr}(e:X.env.cells.lookup y=some c):c < s2.heap.objs.size:=by
 obtain ⟨v,q⟩:=I2.cell y c e
 exact q.lt
end
end L2
namespace L2
open PySem PySem.Spec PyProof.Rows
section
variable {X:Cx}{scope:Scope}{x:Str}{NB:List Str}{ix:List Nat}{pins:List (Addr×Obj)}{σ:St}{H2:Hp}{s2:Shared}{fp:List Addr}
theorem za {C c D:Addr}{H':Hp}{s4:Shared}{σB:St}{its:List Value}{n:Nat}{ys:List V}(I2:Inv X pins σ H2 s2)(f2:∀ b∈fp,eV X pins H2 b)(hD:s2.heap.objs.size<=D)
  (I4:Inv (X.aW scope x C c NB s2 H2 fp) [(D,d8 its n)] σB H' s4)(rv:Vals ys its)(hz:ys.length<=sizeLine):Inv X pins σ (upd H' D (.lst ys)) s4:=by
 have hp:=I4.pin (D,d8 its n) (by show _∈[]++[(D,d8 its n)];simp)
 have hfree:H' D=none:=hp.2.1
 have mS:∀ b o,s2.heap.get? b=some o->b≠D:=fun b o e=>Nat.ne_of_lt (Nat.lt_of_lt_of_le (Heap.lt_size e) hD)
 have neT:∀ b o,H2 b=some o->b≠D:=fun b o e=>Nat.ne_of_lt (Nat.lt_of_lt_of_le (I2.hok.lt e) hD)
 have u:Un (frs X.stack) fp H2 H' s2.heap s4.heap:=I4.base
 refine I2.xY (ch:=fp) I4.os ⟨u.keep,u.slot,fun b o e n hx=>?_,u.there,fun b xs e=>?_,fun b o v e=>?_,fun b ps e=>?_⟩ (fun b o e=>?_) I4.bare fun b hb=>?_
 ·rw [au (mS b o e)]
  exact u.free b o e n hx
 ·rw [au (neT b _ e)]
  exact u.tups b xs e
 ·rw [au (neT b _ e)]
  exact u.jy b o v e
 ·rw [au (neT b _ e)]
  exact u.j5 b ps e
 ·by_cases hb:b=D
  ·subst hb
   rw [aL] at e
   cases e
   exact ⟨hz,its,n,rv,hp.1⟩
  ·rw [au hb] at e
   have ne:∀ {c:Addr}{w:HO},H' c=some w->c≠D:=fun {c w} q z=>by rw [z,hfree] at q;cases q
   exact (I4.hok b o e).stay (fun _ _ _ q=>q) (fun c q=>by rw [au (ne q)];exact q) fun c xs q=>by rw [au (ne q)];exact q
 ·obtain ⟨_,g1,g2,g3,g4,g5⟩:=f2 b hb
  exact ⟨g3,g1,g4,g5⟩
end
end L2
namespace L2
open PySem PySem.Spec PyProof.Rows
def Hg (K:PySem.W.Frag)(a:Addr):It :=
 ⟨fun i H=>∃ xs x,cu K H a xs/\xs[i]?=some x,fun i H v H'=>∃ T,H T=none/\v=.ref T/\∀ xs,cu K H a xs->∃ x,xs[i]?=some x/\H'=upd H T (.tup [.int i,x]),fun i H=>∃ xs,cu K H a xs/\xs.length<=i⟩
theorem Au {P:Program}{w:World}{K:PySem.W.Frag}{elts:List Expr}{x1:Nat}{pos:Pos}(a e it:Addr)(hne:e≠it) :
  Turn P w K (.Tuple elts x1 pos) (Hg K a) [e,it] e (fun i h=>(∃ old,IsEnum h e it i old)/\h.IsListIter it a i) where
 mem:=by simp
 obj:=fun i h st b hb=>by
  obtain ⟨⟨old,he⟩,o,e1,c,d⟩:=st
  rcases List.mem_cons.mp hb with z | z
  ·subst z
   exact ⟨_,he,fun v q=>by cases q⟩
  ·have z:b=it:=by simpa using z
   subst z
   exact ⟨o,e1,fun v q=>by rw [d] at q;cases q⟩
 keep:=fun i h h' st k=>by
  obtain ⟨⟨old,he⟩,li⟩:=st
  exact ⟨⟨old,k e (by simp) _ he⟩,li.at fun o q=>k it (by simp) o q⟩
 item:=by
  intro X hP hw hK hc i pins s σ H E I hf st hg
  subst hP hw hK
  obtain ⟨xs,x,hq,hx⟩:=hg
  obtain ⟨its,rv,p,hz⟩:=I.list hq
  obtain ⟨u,hu,ru⟩:=rv.get hx
  obtain ⟨⟨old,he⟩,hit⟩:=st
  have fe:=hf e (by simp)
  have fi:=hf it (by simp)
  refine wpAny_pyNext_enum_item he hit p.isList (x:=u) (by simpa using hu) hne fun h1 heo hit1 ht1 hz1 hk1=>⟨_,rfl,?_⟩
  refine wpAny_letOwnedTupleGo_enum heo fun h2 he2 hs2=>?_
  have elt:e < s.heap.objs.size:=Heap.lt_size he
  have ht2:h2.get? s.heap.objs.size=some { cls:=.type "tuple",data:=.seq #[.int i s.toks,u] }:=(hs2.2 _ (Nat.ne_of_gt elt)).trans ht1
  have hfr:H s.heap.objs.size=none:=I.hok.fresh (Nat.le_refl _)
  have k2:∀ b o,b≠e->b≠it->s.heap.get? b=some o->h2.get? b=some o:=fun b o b1 b2 q=>hs2.extBut b o b1 (hk1 b o b1 b2 q)
  have neT:∀ b o,H b=some o->b≠s.heap.objs.size:=fun b o q z=>by rw [z,hfr] at q;cases q
  have neS:∀ b o,s.heap.get? b=some o->b≠s.heap.objs.size:=fun b o q=>Nat.ne_of_lt (Heap.lt_size q)
  have nt:∀ b o,H b=some o->b≠e/\b≠it:=fun b o q=>⟨(fun z=>by rw [z,fe.1] at q;cases q),(fun z=>by rw [z,fi.1] at q;cases q)⟩
  have nin:∀ b,b∉[e,it]->b≠e/\b≠it:=fun b hb=>⟨fun z=>hb (by simp [z]),fun z=>hb (by simp [z])⟩
  have I2:Inv X pins σ (upd H s.heap.objs.size (.tup [.int i,x])) { s with heap:=h2,toks:=s.toks + 1 }:=by
   refine I.step (g':=s.gens) (d':=s.drawn) (ch:=[e,it]) (fun b hb=>?_) (fun b o _ _ hc' q _=>k2 b o (nin b hc').1 (nin b hc').2 q) (fun b o _ _ hc' q _=>⟨o.slots,k2 b o (nin b hc').1 (nin b hc').2 q⟩)
    (fun b o _ q n=>by rw [au (neS b o q)];exact n) (fun b o hc' q=>⟨o,k2 b o (nin b hc').1 (nin b hc').2 q⟩) (fun b ys q=>by rw [au (neT b _ q)];exact q) (fun b o v q=>by rw [au (neT b _ q)];exact q)
    (fun b ps q=>⟨#[],by rw [au (neT b _ q),q];simp⟩) (fun m hm=>?_) (fun b o q=>?_) I.bare
   ·rcases List.mem_cons.mp hb with z | z
    ·subst z
     exact ⟨fe.2.2.2.1,fe.2.1,fe.2.2.2.2.1,fe.2.2.2.2.2⟩
    ·have z:b=it:=by simpa using z
     subst z
     exact ⟨fi.2.2.2.1,fi.2.1,fi.2.2.2.2.1,fi.2.2.2.2.2⟩
   ·obtain ⟨o,es,ep,ho,r⟩:=hm
    exact ⟨o,es,ep,k2 _ o (Ne.symm fe.2.1) (Ne.symm fi.2.1) ho,r⟩
   ·by_cases z:b=s.heap.objs.size
    ·subst z
     rw [aL] at q
     cases q
     exact ⟨(by show 2<=sizeLine;decide),[.int i s.toks,u],.cons ⟨_,rfl⟩ (.cons ru .nil),_,ht2,rfl,_,rfl⟩
    ·rw [au z] at q
     refine (I.hok b o q).stay (fun c v hc' r=>k2 c v ?_ ?_ r) (fun c r=>by rw [au (neT c _ r)];exact r) fun c ys r=>by rw [au (neT c _ r)];exact r
     ·rcases hc' with y | y
      ·rw [y];exact (nt b o q).1
      ·exact (nt c _ y).1
     ·rcases hc' with y | y
      ·rw [y];exact (nt b o q).2
      ·exact (nt c _ y).2
  refine ⟨.ref s.heap.objs.size,_,I2,rfl,⟨s.heap.objs.size,hfr,rfl,fun ys hy=>⟨x,by rw [I.uD hy hq];exact hx,rfl⟩⟩,⟨⟨_,he2⟩,?_⟩,fun b hb=>?_⟩
  ·exact hit1.at fun o q=>hs2.extBut it o (Ne.symm hne) q
  ·rcases List.mem_cons.mp hb with z | z
   ·subst z
    rw [au (Nat.ne_of_lt elt)]
    exact fe.1
   ·have z:b=it:=by simpa using z
    subst z
    obtain ⟨o,q,_⟩:=id hit
    rw [au (Nat.ne_of_lt (Heap.lt_size q))]
    exact fi.1
 done:=by
  intro X hP hw hK hc i pins s σ H E I hf st hg
  subst hP hw hK
  obtain ⟨xs,hq,hx⟩:=hg
  obtain ⟨its,rv,p,hz⟩:=I.list hq
  obtain ⟨⟨old,he⟩,hit⟩:=st
  obtain ⟨f0,f1,f2,f3,f4,f5⟩:=hf it (by simp)
  have hl:=rv.length
  exact wpAny_pyNext_enum_end (I.ok.hd hc) he hit p.isList (by simp;omega) fun h' eb=>⟨rfl,I.turned (t':=s.toks) (fun b o hb q=>eb b o hb q) f0 f1 f3 f4 f5⟩
 self:=fun _ _ _ _ _ st h=>by
  obtain ⟨⟨old,he⟩,_⟩:=st
  exact wpAny_pyIter_enum he h
section
variable {X:Cx}
inductive Af (K:PySem.W.Frag)(R:(It->Hp->Prop))(vs:List V)(H1:Hp):Prop
 | mk:∀ a,(vs=[.ref a])->((∃ xs,cu K H1 a xs))->(R (Hg K a) H1)->Af K R vs H1
def J2 (K:PySem.W.Frag)(ta:TA):TI:=fun σ H R=>ta σ H fun vs H1=>Af K R vs H1
theorem Ez {elts:List Expr}{x1:Nat}{tp p pos:Pos}{e:Expr}{ta:TA}(hg:Gl X "enumerate")(hm:X.mg "enumerate"=none)(ha:PA X [e] ta)(hs:starEach [e] X.env=[(false,eval e X.env)]:=by rfl) :
  PI X (.Tuple elts x1 tp) (.Call (.Name "enumerate" p) [e] [] pos) (J2 X.K ta):=by
 intro pins s σ H R I h
 refine Call_ (j4 I hg hm boot_enumerate (PyProof.Rows.callWith_type1 (aG (ha pos pins s σ H _ I h) fun us s1 ⟨vs,H1,I1,r1,q1⟩=>?_) hs rfl))
 obtain ⟨a,ev,⟨xs,hq⟩,q⟩:=q1
 subst ev
 obtain ⟨u,rfl,ru⟩:=r1.one
 cases ru
 obtain ⟨its,rv,pl,hz⟩:=I1.list hq
 refine call_enumerate_list pl.isList fun h' he hit hsz hk=>?_
 refine wpAny_pyIter_enum he ?_
 have I2:Inv X pins σ H1 { s1 with heap:=h' }:=I1.kept (t':=s1.toks) hk
 refine ⟨s1.heap.objs.size + 1,[s1.heap.objs.size + 1,s1.heap.objs.size],_,_,H1,rfl,I2,Au a _ _ (Nat.succ_ne_self _),⟨⟨_,he⟩,hit⟩,fun b hb=>?_,q⟩
 have hb:s1.heap.objs.size<=b:=by
  rcases List.mem_cons.mp hb with z | z
  ·rw [z];exact Nat.le_succ _
  ·have z:b=s1.heap.objs.size:=by simpa using z
   rw [z]
   exact Nat.le_refl _
 exact I1.rO hb (I1.hok.fresh hb)
end
end L2
namespace L2
open PySem PySem.Spec PyProof.Rows
/-! ### a comprehension with two names for its target -/
section
variable {prog:Program}{w:World}{A:Around}{R:Result->Shared->Prop}{s:Shared}
abbrev mG (prog:Program)(w:World)(A:Around)(env:Env)(R:Result->Shared->Prop):Value->Shared->Prop:=notedBy (model prog w) A env fun e s'=>R (.error e) s'
end
section
variable {X:Cx}{scope:Scope}{x y0:Str}{NB:List Str}{ix:List Nat}{pins:List (Addr×Obj)}{σ:St}{H2:Hp}{s2:Shared}{fp:List Addr}
end
end L2
namespace L2
open PySem PySem.Spec PyProof.Rows
section
variable {X:Cx}
theorem rH:∀ {ns:List Int}{us:List Value},Vals (ns.map V.int) us->∃ ps:List (Int×Tok),us=ps.map (fun p=>Value.int p.1 p.2)/\ns=ps.map (·.1)
 | [],_,.nil=>⟨[],rfl,rfl⟩
 | n::ns,_,.cons h r=>by
  obtain ⟨t,rfl⟩:=h
  obtain ⟨ps,rfl,rfl⟩:=rH r
  exact ⟨(n,t)::ps,rfl,rfl⟩
end
end L2
namespace L2
open PySem PySem.Spec PyProof.Rows PySem.W
section
variable {X:Cx}
theorem Ar (hc:X.calm=true):cK X (.builtin "min") (fun xs H Q=>∃ (a:Addr)(ns:List Int),xs=[.ref a]/\cu X.K H a (ns.map V.int)/\ns≠[]/\∀ M,M∈ns->(∀ n∈ns,M<=n)->Q (.int M) H):=by
 intro pins s σ H xs us Q I r h
 obtain ⟨a,ns,rfl,hq,ne,q⟩:=h
 obtain ⟨u,rfl,ru⟩:=vals1 r
 cases ru
 obtain ⟨its,rv,p,_⟩:=I.list hq
 obtain ⟨ps,rfl,rfl⟩:=rH rv
 have hl:s.heap.IsList a (intItems ps.toArray):=by
  have:=p.isList
  simpa [intItems] using this
 refine min_intList (I.ok.hd hc) hl (by simpa using List.length_pos_iff.mpr (fun e=>ne (by rw [e];rfl))) fun v h' tk hv hk=>?_
 obtain ⟨t,rfl⟩:=intItems_at hv
 obtain ⟨g1,g2⟩:=argBest_lt (numAt ps.toArray) (ps.toArray.size - 1)
 have pos:0 < ps.length:=List.length_pos_iff.mpr fun e=>ne (by rw [e];rfl)
 refine ⟨.int _,H,I.kept (t':=tk) hk,⟨_,rfl⟩,q _ ?_ fun n hn=>?_⟩
 ·rw [numAt_eq]
  exact getD_mem (by simp at g1 ⊢;omega)
 ·obtain ⟨j,hj,rfl⟩:=mem_getD hn
  rw [List.length_map] at hj
  have e:(ps.map (·.1)).getD j 0=numAt ps.toArray j:=by rw [numAt_eq]
  rw [e]
  exact g2 j (by simp;omega)
theorem oF (ns:List Int):∀ k,k<=ns.length->preSum (fun i=>ns.getD i 0) k=(ns.take k).sum
 | 0,_=>rfl
 | k + 1,h=>by
  have ih:=oF ns k (by omega)
  rw [preSum,ih,List.take_succ,List.getElem?_eq_getElem (show k < ns.length by omega),List.getD_eq_getElem?_getD,List.getElem?_eq_getElem (show k < ns.length by omega)]
  rw [List.sum_append]
  simp
theorem int_at {ns:List Int}{its:List Value}(rv:Vals (ns.map V.int) its){i:Nat}{v:Value}(h:its[i]?=some v):∃ t,v=.int (ns.getD i 0) t:=by
 obtain ⟨x,hx,rx⟩:=xh rv i v h
 rw [List.getElem?_map] at hx
 cases e:ns[i]? with
 | none=>rw [e] at hx;cases hx
 | some b =>
  rw [e] at hx
  cases hx
  obtain ⟨t,rfl⟩:=rx
  exact ⟨t,by rw [List.getD_eq_getElem?_getD,e];rfl⟩
theorem zm (hc:X.calm=true):cK X (.builtin "sum") (fun xs H Q=>∃ (a:Addr)(ns:List Int),xs=[.ref a]/\cu X.K H a (ns.map V.int)/\Q (.int ns.sum) H):=by
 intro pins s σ H xs us Q I r h
 obtain ⟨a,ns,rfl,hq,q⟩:=h
 obtain ⟨u,rfl,ru⟩:=vals1 r
 cases ru
 obtain ⟨its,rv,p,_⟩:=I.list hq
 have hl:=p.isList
 have hlt:a < s.heap.objs.size:=by
  obtain ⟨o,ho,_⟩:=id hl
  exact Heap.lt_size ho
 have hh:X.A.in1.handled=none:=by simp [I.ok.hd hc]
 have hn:its.toArray.size=ns.length:=by
  rw [List.size_toArray,<- rv.length,List.length_map]
 refine call_sum_walkAnyB (wpAny_pyIter_list hl ?_)
 refine ⟨_,_,_,_,_,_,_,fun i=>ns.getD i 0,rfl,(Walks.list hh _ a (Nat.ne_of_lt hlt) its.toArray).toS,?_,?_,?_,?_⟩
 ·exact ⟨⟨_,Heap.get?_push_size _ rfl,rfl,rfl⟩,hl.push _⟩
 ·intro b hb
  show b < (s.heap.push _).objs.size
  rw [Heap.size_push]
  rcases List.mem_cons.mp hb with rfl | hb
  ·exact Nat.lt_succ_self _
  ·rcases List.mem_cons.mp hb with rfl | hb
   ·exact Nat.lt_succ_of_lt hlt
   ·cases hb
 ·intro i v hP
  have hP':its[i]?=some v:=by simpa using hP
  obtain ⟨t,rfl⟩:=int_at rv hP'
  exact .inl ⟨t,rfl⟩
 ·intro s' t' mv
  obtain ⟨h',g,d,t,os⟩:=s'
  obtain ⟨m1,m2,m3,m4,m5⟩:=mv
  dsimp only at m1 m2 m3 m4
  subst m2 m3 m4
  rw [hn,oF ns _ (Nat.le_refl _),List.take_length]
  exact ⟨.int _,H,I.kept (t':=t) (old_kept m1),⟨_,rfl⟩,q⟩
end
end L2
namespace Dv
open PySem L2 PySem.W
/-! ### answers -/
section
variable {K:Frag}{H Hm:Hp}{P:Kd->PyData->Prop}{Q:VK}
def bN (K:Frag)(H Hm:Hp)(P:Kd->PyData->Prop)(Q:VK):Prop:=∀ k v u H' Hm' fp,P k v->aj H H'->aj Hm Hm'->aj Hm' H'->(∀ a,H a≠none->OE (Hm' a) (Hm a))->Own K H' Hm' k u v fp->(∀ a∈fp,H a=none/\Hm' a=none)->Q u H'
theorem bN.sc (q:bN K H Hm P Q)(s:aj Hm H){u:V}{v:PyData}(p:P .sh v)(r:Rp K Hm u v):Q u H:=q _ _ _ _ _ [] p (aj.refl _) (aj.refl _) s (fun _ _=>.inl rfl) (.sh r) fun _ z=>by cases z
theorem jk (s:aj Hm H){p:Addr}(h:H p=none):Hm p=none:=by
 cases e:Hm p with
 | none=>rfl
 | some o=>rw [s _ _ e] at h;cases h
theorem bN.nl (q:bN K H Hm P Q)(s:aj Hm H){p:Addr}{xs:List V}{ds:List PyData}(pp:P (.ow false) (.list ds))(hp:H p=none)(r:aA K Hm xs ds):Q (.ref p) (upd H p (.lst xs)) :=
 q _ _ _ _ Hm [p] pp (cX hp) (aj.refl _) (s.trans (cX hp)) (fun _ _=>.inl rfl) (.ow aL r) fun a ha=>by rw [List.mem_singleton.mp ha];exact ⟨hp,jk s hp⟩
theorem bN.nt (q:bN K H Hm P Q)(s:aj Hm H){p:Addr}{xs:List V}{ds:List PyData}(pp:P .sh (.tuple ds))(hp:H p=none)(r:aA K Hm xs ds):Q (.ref p) (upd H p (.tup xs)):=by
 have n:=jk s hp
 have s2:=cX (o:=.tup xs) n
 refine q _ _ _ _ (upd Hm p (.tup xs)) [] pp (cX hp) s2 (fun b o e=>?_) (fun a ha=>.inl (au fun z=>ha (z ▸ hp))) (.sh (.tup aL (r.mono s2))) fun _ z=>by cases z
 by_cases c:b=p
 ·rw [c,aL] at e ⊢;exact e
 ·rw [au c] at e ⊢;exact s _ _ e
end
/-! ### operations of two values,of one -/
def r2 (r:R2):List V->Hp->VK->Prop:=fun vs H Q=>match vs with
 | [x,y]=>r x y H Q
 | _=>False
def r1 (r:V->Hp->VK->Prop):List V->Hp->VK->Prop:=fun vs H Q=>match vs with
 | [x]=>r x H Q
 | _=>False
theorem dR {K:Frag}{H:Hp}{vs:List V}{a:PyData}(h:aA K H vs [a]):∃ x,vs=[x]/\Rp K H x a:=by
 cases h with
 | cons h t=>cases t;exact ⟨_,rfl,h⟩
theorem cW {K:Frag}{H:Hp}{vs:List V}{a b:PyData}(h:aA K H vs [a,b]):∃ x y,vs=[x,y]/\Rp K H x a/\Rp K H y b:=by
 cases h with
 | cons h t =>
  obtain ⟨y,rfl,h2⟩:=dR t
  exact ⟨_,_,rfl,h,h2⟩
theorem KP {K:Frag}{H:Hp}{vs:List V}{a b c:PyData}(h:aA K H vs [a,b,c]):∃ x y z,vs=[x,y,z]/\Rp K H x a/\Rp K H y b/\Rp K H z c:=by
 cases h with
 | cons h t =>
  obtain ⟨y,z,rfl,h2,h3⟩:=cW t
  exact ⟨_,_,_,rfl,h,h2,h3⟩
theorem bL.or {X:Cx}{f:Value->Value->Sem Value}{r s:R2}(h:bL X f r)(k:bL X f s):bL X f fun x y H Q=>r x y H Q\/s x y H Q:=fun pins st σ H x y v u Q I a b z=>z.elim (h pins st σ H x y v u Q I a b) (k pins st σ H x y v u Q I a b)
section
variable {X:Cx}{Ex:XK}{π:List Nat}
theorem kW {a b:Expr}{op:Operator}{pos:Pos}{r:R2}{f:DR}{as:List Arg}(ho:bL X (binaryOp op) r)(D:cV X.K f (r2 r))(S:aU X Ex π [a,b] as):SE X Ex π (.BinOp a op b pos) (ah f as):=gm (r:=r2 r) S (fun σ H Q h=>WE.of (JF ho bx bx) h) D
theorem JR {a:Expr}{op:UnaryOp}{pos:Pos}{r:V->Hp->VK->Prop}{f:DR}{as:List Arg}(ho:Dm X (unaryOp op) r)(D:cV X.K f (r1 r))(S:aU X Ex π [a] as):SE X Ex π (.UnaryOp op a pos) (ah f as):=gm (r:=r1 r) S (fun σ H Q h=>WE.of (Kg ho bx) h) D
theorem IB {a b:Expr}{op:CmpOp}{pos:Pos}{r:R2}{f:DR}{as:List Arg}(ho:bL X (compareOp op) r)(hm:behindInMarks op b=false)(D:cV X.K f (r2 r))(S:aU X Ex π [a,b] as):SE X Ex π (.Compare a [op] [b] pos) (ah f as):=gm (r:=r2 r) S (fun σ H Q h=>WE.of (Fx ho bx bx hm) h) D
theorem Jm {a b:Expr}{pos:Pos}{r:R2}{f:DR}{as:List Arg}(ho:mH X r)(hs:lg b)(D:cV X.K f (r2 r))(S:aU X Ex π [a,b] as):SE X Ex π (.Subscript a b pos) (ah f as):=gm (r:=r2 r) S (fun σ H Q h=>WE.of (D3 ho bx bx hs) h) D
end
/-! ### ints -/
def lY (g:Int->Int->PyData):DR:=fun ds P=>match ds with
 | [.int a,.int b]=>P .sh (g a b)
 | _=>False
def tY (C:Int->Int->Prop)(g:Int->Int->PyData):DR:=fun ds P=>match ds with
 | [.int a,.int b]=>C a b/\P .sh (g a b)
 | _=>False
theorem rA {ds:List PyData}{Z:Prop}{f:Int->Int->Prop}(h:match ds with | [PyData.int a,.int b]=>f a b | _=>False)(k:∀ a b,ds=[.int a,.int b]->f a b->Z):Z:=by
 split at h
 ·exact k _ _ rfl h
 ·exact h.elim
theorem lS {K:Frag}{g:Int->Int->PyData}{gv:Int->Int->V}(hg:∀ a b Hm,Rp K Hm (gv a b) (g a b)):cV K (lY g) (r2 (mw gv)):=by
 intro H Hm vs ds P Q s r h q
 refine rA h fun a b e p=>?_
 subst e
 obtain ⟨x,y,rfl,h1,h2⟩:=cW r
 cases h1;cases h2
 exact ⟨a,b,rfl,rfl,bN.sc q s p (hg a b Hm)⟩
theorem qS {K:Frag}{C:Int->Int->Prop}{g:Int->Int->PyData}{gv:Int->Int->V}(hg:∀ a b Hm,Rp K Hm (gv a b) (g a b)):cV K (tY C g) (r2 (rI C gv)):=by
 intro H Hm vs ds P Q s r h q
 refine rA h fun a b e p=>?_
 subst e
 obtain ⟨x,y,rfl,h1,h2⟩:=cW r
 cases h1;cases h2
 exact ⟨a,b,rfl,rfl,p.1,bN.sc q s p.2 (hg a b Hm)⟩
/-! ### + -/
inductive AN (K:Frag) (x:V) (y:V)(H:Hp)(Q:VK):Prop
 | mk:∀ l b xs zs,(x=.ref l)->(y=.ref b)->(cQ K H l xs)->(cQ K H b zs)->(xs.length + zs.length<=sizeLine)->(∀ p,H p=none->Q (.ref p) (upd H p (.lst (xs++zs))))->AN K x y H Q
def DV (K:Frag):R2:=fun x y H Q=>AN K x y H Q
section
variable {X:Cx}
theorem FL:bL X (binaryOp .Add) (DV X.K):=by
 intro pins s σ H x y v u Q I rx ry h
 obtain ⟨l,b,xs,zs,rfl,rfl,hH,hB,hz,q⟩:=h
 cases rx
 cases ry
 obtain ⟨z,its,n,r,e⟩:=hH.get I
 obtain ⟨z2,its2,n2,r2,e2⟩:=hB.get I
 have hl:=r.length
 have hl2:=r2.length
 refine PySem.P.add_list e e2 ?_ (by rw [List.size_toArray,List.size_toArray];omega)
 have ea:its.toArray++its2.toArray=(its++its2).toArray:=by simp
 rw [ea]
 exact ⟨.ref _,_,I.HQ (t':=s.toks) (r.append r2) (by rw [List.length_append];omega),rfl,q _ I.fresh⟩
end
def fj:DR:=fun ds P=>match ds with
 | [.int a,.int b]=>P .sh (.int (a + b))
 | [.list a,.list b]=>a.length + b.length<=sizeLine/\P (.ow false) (.list (a++b))
 | [.tuple a,.tuple b]=>(a≠[]/\a.length + b.length<=sizeLine)/\P .sh (.tuple (a++b))
 | [.str a,.str b]=>a.length + b.length<=sizeLine/\P .sh (.str (a++b))
 | _=>False
def DH (K:Frag):R2:=fun x y H Q=>(((mw fun i j=>.int (i + j)) x y H Q\/DV K x y H Q)\/D4 K x y H Q)\/∃ i j,x=.str i/\y=.str j/\i.length + j.length<=sizeLine/\Q (.str (i++j)) H
theorem FY {X:Cx}:bL X (binaryOp .Add) (DH X.K):=((Gq.or FL).or EB).or yZ
theorem Ft {K:Frag}:cV K fj (r2 (DH K)):=by
 intro H Hm vs ds P Q s r h q
 unfold fj at h
 split at h
 ·obtain ⟨x,y,rfl,h1,h2⟩:=cW r
  cases h1;cases h2
  exact .inl (.inl (.inl ⟨_,_,rfl,rfl,bN.sc q s h (.int _)⟩))
 ·obtain ⟨x,y,rfl,h1,h2⟩:=cW r
  cases h1 with
  | lst a1 r1 =>
   cases h2 with
   | lst a2 r2=>exact .inl (.inl (.inr ⟨_,_,_,_,rfl,rfl,cQ.mono s a1,cQ.mono s a2,by rw [r1.len,r2.len];exact h.1,fun p hp=>bN.nl q s h.2 hp (r1.app r2)⟩))
 ·obtain ⟨x,y,rfl,h1,h2⟩:=cW r
  cases h1 with
  | @tup a xs ds1 a1 r1 =>
   cases h2 with
   | @tup b ys ds2 a2 r2 =>
    refine .inl (.inr ⟨_,_,_,_,rfl,rfl,cB.of (s _ _ a1),cB.of (s _ _ a2),fun z=>h.1.1 ?_,by rw [r1.len,r2.len];exact h.1.2,fun z=>?_,fun _ p hp=>bN.nt q s h.2 hp (r1.app r2)⟩)
    ·subst z;cases r1;rfl
    ·subst z
     cases r2
     refine bN.sc q s h.2 ?_
     rw [List.append_nil]
     exact .tup a1 r1
 ·obtain ⟨x,y,rfl,h1,h2⟩:=cW r
  cases h1;cases h2
  exact .inr ⟨_,_,rfl,rfl,h.1,bN.sc q s h.2 (.str _)⟩
 ·exact h.elim
/-! ### a list as often as an int tells -/
inductive Ba (K:Frag) (x:V) (y:V)(H:Hp)(Q:VK):Prop
 | mk:∀ l k xs,(x=.ref l)->(y=.int k)->(cQ K H l xs)->(-(2 ^ 63)<=k)->(k < 2 ^ 63)->(xs.length * k.toNat<=sizeLine)->(∀ p,H p=none->Q (.ref p) (upd H p (.lst (List.replicate k.toNat xs).flatten)))->Ba K x y H Q
def Dh (K:Frag):R2:=fun x y H Q=>Ba K x y H Q
section
variable {X:Cx}
open PyProof.Rows in
theorem E9:bL X (binaryOp .Mult) (Dh X.K):=by
 intro pins s σ H x y v u Q I rx ry h
 obtain ⟨l,k,xs,rfl,rfl,hH,h1,h2,hz,q⟩:=h
 cases rx
 obtain ⟨t,rfl⟩:=ry
 obtain ⟨z,its,n,r,e⟩:=hH.get I
 have hl:=r.length
 have hlen:its.toArray.size * k.toNat<=sizeLine:=by rw [List.size_toArray,<- hl];exact hz
 have hcap:¬ its.toArray.size * k.toNat > (2 ^ 63 - 1) / 8:=by
  have:(sizeLine:Nat)<=(2 ^ 63 - 1) / 8:=by decide
  omega
 have hfit:¬ (!Builtin.List.listFitsIndex k)=true:=by
  rw [fitsIndex_both h1 h2]
  exact Bool.false_ne_true
 have hlong:¬ Builtin.List.listTooLong (its.toArray.size * k.toNat)=true:=by
  rw [u7 hlen]
  exact Bool.false_ne_true
 have hnew:List.foldl (fun x1 x2=>x1++x2) #[] (List.replicate (if its.toArray.isEmpty=true then 0 else k.toNat) its.toArray)=(List.replicate k.toNat its).flatten.toArray:=by
  have f0:∀ m:Nat,List.foldl (fun x1 x2=>x1++x2) #[] (List.replicate m its.toArray)=(List.replicate m its).flatten.toArray:=fun m=>by
   have:=foldl_rep its m []
   rw [List.nil_append] at this
   exact this
  rw [f0]
  cases its with
  | nil=>simp
  | cons a r'=>rw [if_neg (by simp)]
 refine wpAny_binaryOp_repeat_ref (T:="list") (U:="int") (by decide) ⟨_,e,rfl⟩ (fun s'=>typeIs_int s' k t) noFill_list_mul F.fills_int_mul F.slot_int_rmul repeat_list F.slot_int_index.lookup
  (call_meets F.slot_int_rmul (typeIs_int s k t) F.entry_int_rmul (F.args_int_rmul_2 _ _) (int___rmul___int_list k t l its.toArray n)
   ⟨e,rfl,⟨_,e,rfl⟩,call_meets F.slot_list_mul ⟨_,e,rfl⟩ F.entry_list_mul (F.args_list_mul_2 _ _) (AutoListH.list___mul___list_int_3 l its.toArray n k t hfit hcap hlong) ⟨e,?_⟩⟩)
 rw [hnew]
 exact ⟨.ref _,_,I.HQ (t':=s.toks) (r.rep k.toNat) (by rw [len_rep,Nat.mul_comm];exact hz),rfl,q _ I.fresh⟩
end
theorem aA.rep {K:Frag}{H:Hp}{xs:List V}{ds:List PyData}(r:aA K H xs ds):∀ n:Nat,aA K H (List.replicate n xs).flatten (List.replicate n ds).flatten
 | 0=>.nil
 | n + 1=>by rw [List.replicate_succ,List.replicate_succ,List.flatten_cons,List.flatten_cons];exact r.app (r.rep n)
def jA:DR:=fun ds P=>match ds with
 | [.int a,.int b]=>lQ a b/\P .sh (.int (a * b))
 | [.list a,.int k]=>(-(2 ^ 63)<=k/\k < 2 ^ 63/\a.length * k.toNat<=sizeLine)/\P (.ow false) (.list (List.replicate k.toNat a).flatten)
 | _=>False
def Dy (K:Frag):R2:=fun x y H Q=>(rI lQ fun i j=>.int (i * j)) x y H Q\/Dh K x y H Q
theorem FQ {X:Cx}:bL X (binaryOp .Mult) (Dy X.K):=GS.or E9
theorem Ed {K:Frag}:cV K jA (r2 (Dy K)):=by
 intro H Hm vs ds P Q s r h q
 unfold jA at h
 split at h
 ·obtain ⟨x,y,rfl,h1,h2⟩:=cW r
  cases h1;cases h2
  exact .inl ⟨_,_,rfl,rfl,h.1,bN.sc q s h.2 (.int _)⟩
 ·obtain ⟨x,y,rfl,h1,h2⟩:=cW r
  cases h2
  cases h1 with
  | lst a1 r1=>exact .inr ⟨_,_,_,rfl,rfl,cQ.mono s a1,h.1.1,h.1.2.1,by rw [r1.len];exact h.1.2.2,fun p hp=>bN.nl q s h.2 hp (r1.rep _)⟩
 ·exact h.elim
end Dv
namespace L2
open PySem PySem.Spec PyProof.Rows
section
variable {prog:Program}{w:World}{A:Around}{E:Value->Shared->Prop}{s:Shared}
theorem tS {t sl:Addr}{items:Array Value}{vl vu:Value}{lo hi:Option Int}{Q:Value->Shared->Prop}(ht:IsTup s.heap t items)(hs:s.heap.IsSliceOf sl vl vu .none)(pl:IsPart vl lo)(pu:IsPart vu hi)
  (w0:HT.aO items.size 0 lo=0)(w1:HT.aO items.size items.size hi=items.size)(h:Q (.ref t) s):wpAny (model prog w) A (getItem (.ref t) (.ref sl)) Q E s:=by
 obtain ⟨os,hos,hcs,hds⟩:=id hs
 have hTs:s.TypeIs (.ref sl) "slice":=⟨os,hos,hcs⟩
 unfold getItem
 refine wpAny_holding (?_:_)
 refine wpAny_bind (wpAny_sequenceKey ht.typeIs (by decide) (?_:_))
 refine wpAny_bind (wpAny_callSpecial?_slot (name:=Str.ofString "__getitem__") ht.typeIs PyProof.Rows.slot_tuple_getitem
  (wpAny_call_entry PyProof.Rows.slot_tuple_getitem ht.typeIs entry_tuple_getitem (?_:_) (args_tuple_getitem _ _)))
 refine id (?_:wpAny _ _ (Builtin.Tuple.tupleItemsOf (.ref t) >>= _) _ _ s)
 refine wpAny_bind (tupleItemsOf_ ht (?_:_))
 refine wpAny_bind (wpAny_typeOf hTs (?_:_))
 rw [if_pos (by decide)]
 refine wpAny_bind (HT.jM hs pl pu (?_:_))
 have yes:(((HT.aO items.size 0 lo:Nat):Int) == 0 && (1:Int) == 1 && (HT.aO items.size items.size hi - HT.aO items.size 0 lo) == items.size)=true:=by
  rw [w0,w1,Nat.sub_zero]
  simp
 refine id (?_:wpAny _ _ (if (((HT.aO items.size 0 lo:Nat):Int) == 0 && (1:Int) == 1 && (HT.aO items.size items.size hi - HT.aO items.size 0 lo) == items.size)=true then _ else _) _ _ s)
 rw [if_pos yes]
 refine wpAny_bind (m:=Builtin.Tuple.tupleIsExact _) (wpAny_bind (wpAny_typeOf ht.typeIs (wpAny_pure (?_:_))))
 rw [if_pos (by decide)]
 refine wpAny_bind (wpAny_rule (?_:_))
 exact wpAny_pure ⟨_,rfl,wpAny_pure h⟩
end
section
variable {X:Cx}
def Dd (K:PySem.W.Frag):V->Option Int->Option Int->Hp->VK->Prop:=fun x lo hi H Q=>∃ a xs,x=.ref a/\cB K H a xs /\
 (HT.aO xs.length 0 lo=0/\HT.aO xs.length xs.length hi=xs.length->Q (.ref a) H)/\(¬ (HT.aO xs.length 0 lo=0/\HT.aO xs.length xs.length hi=xs.length)->∀ p,H p=none->Q (.ref p) (upd H p (.tup (lZ xs lo hi))))
theorem EN:AS X (Dd X.K):=by
 intro pins s σ H x v vl vu lo hi sl Q I rx hs pl pu h
 obtain ⟨a,xs,rfl,hx,q1,q2⟩:=h
 by_cases c:HT.aO xs.length 0 lo=0/\HT.aO xs.length xs.length hi=xs.length
 ·cases rx
  obtain ⟨its,r,ht,hz⟩:=I.tuple hx
  have hlen:its.toArray.size=xs.length:=by rw [List.size_toArray];exact r.length.symm
  refine ⟨"tuple",_,PyProof.Rows.slot_tuple_getitem.lookup,ht.typeIs,?_⟩
  exact tS ht hs pl pu (by rw [hlen];exact c.1) (by rw [hlen];exact c.2) ⟨.ref a,H,I,rfl,q1 c⟩
 ·exact G0 pins s σ H (.ref a) v vl vu lo hi sl Q I rx hs pl pu ⟨a,xs,rfl,hx,c,q2 c⟩
end
end L2
namespace Dv
open PySem L2 PySem.W
def dl:Nat->PyData->Bool
 | _,.none=>true
 | _,.int _=>true
 | _,.str x=>PyData.strOk x
 | n + 1,.list ds=>ds.all (dl n)
 | n + 1,.tuple ds=>ds.all (dl n)
 | _,_=>false
theorem lu:∀ {ds:List PyData},(∀ d∈ds,d.canLay0=true)->PyData.canLayAll0 ds=true
 | [],_=>rfl
 | d::ds,h=>by
  rw [PyData.canLayAll0,h d List.mem_cons_self,lu fun e he=>h e (List.mem_cons_of_mem _ he)]
  rfl
theorem mR {n:Nat}:∀ {ds:List PyData},(∀ d∈ds,d.depth<=n)->PyData.depthAll ds<=n
 | [],_=>by rw [PyData.depthAll];exact Nat.zero_le _
 | d::ds,h=>by
  rw [PyData.depthAll]
  exact Nat.max_le.mpr ⟨h d List.mem_cons_self,mR fun e he=>h e (List.mem_cons_of_mem _ he)⟩
theorem iH:∀ {n:Nat}{d:PyData},dl n d=true->d.canLay0=true/\d.depth<=n
 | _,.none,_=>⟨rfl,Nat.zero_le _⟩
 | _,.int _,_=>⟨rfl,Nat.zero_le _⟩
 | n,.str x,h=>⟨by cases n <;> exact h,Nat.zero_le _⟩
 | n + 1,.list ds,h=>by
  have h:ds.all (dl n)=true:=h
  rw [List.all_eq_true] at h
  refine ⟨by rw [PyData.canLay0];exact lu fun d hd=>(iH (h d hd)).1,?_⟩
  rw [PyData.depth]
  have:=mR (n:=n) (ds:=ds) fun d hd=>(iH (h d hd)).2
  omega
 | n + 1,.tuple ds,h=>by
  have h:ds.all (dl n)=true:=h
  rw [List.all_eq_true] at h
  refine ⟨by rw [PyData.canLay0];exact lu fun d hd=>(iH (h d hd)).1,?_⟩
  rw [PyData.depth]
  have:=mR (n:=n) (ds:=ds) fun d hd=>(iH (h d hd)).2
  omega
 | 0,.list _,h=>by cases h
 | 0,.tuple _,h=>by cases h
 | n,.bool _,h=>by cases n <;> cases h
 | n,.dict _,h=>by cases n <;> cases h
theorem nj:∀ {ds:List PyData},(∀ d∈ds,nd d=true)->nd.nds ds=true
 | [],_=>rfl
 | d::ds,h=>by
  rw [nd.nds,h d List.mem_cons_self,nj fun e he=>h e (List.mem_cons_of_mem _ he)]
  rfl
theorem kc:∀ {n:Nat}{d:PyData},dl n d=true->nd d=true
 | _,.none,_=>rfl
 | _,.int _,_=>rfl
 | _,.str _,_=>rfl
 | _,.bool _,_=>rfl
 | n + 1,.list ds,h=>by
  have h:ds.all (dl n)=true:=h
  rw [List.all_eq_true] at h
  rw [nd]
  exact nj fun d hd=>kc (h d hd)
 | n + 1,.tuple ds,h=>by
  have h:ds.all (dl n)=true:=h
  rw [List.all_eq_true] at h
  rw [nd]
  exact nj fun d hd=>kc (h d hd)
 | 0,.list _,h=>by cases h
 | 0,.tuple _,h=>by cases h
 | n,.dict _,h=>by cases n <;> cases h
theorem mY {f:PyData->Bool}(hf:∀ a b,f a=true->f b=true->SeqAt.noMix a b=true):∀ {xs ys:List PyData},xs.all f=true->ys.all f=true->SeqAt.noMixAll xs ys=true
 | [],[],_,_=>rfl
 | [],_::_,_,_=>rfl
 | _::_,[],_,_=>rfl
 | x::xs,y::ys,h1,h2=>by
  rw [List.all_cons,Bool.and_eq_true] at h1 h2
  rw [SeqAt.noMixAll,hf x y h1.1 h2.1,mY hf h1.2 h2.2]
  rfl
theorem zG:∀ (n:Nat)(a b:PyData),dl n a=true->dl n b=true->SeqAt.noMix a b=true:=by
 intro n
 induction n with
 | zero =>
  intro a b ha hb
  cases a <;> first | (cases ha;done) | (cases b <;> first | (cases hb;done) | rfl)
 | succ n ih =>
  intro a b ha hb
  cases a with
  | list xs =>
   cases b with
   | list ys=>rw [SeqAt.noMix];exact mY ih ha hb
   | dict _=>cases hb
   | bool _=>cases hb
   | _=>rfl
  | tuple xs =>
   cases b with
   | tuple ys=>rw [SeqAt.noMix];exact mY ih ha hb
   | dict _=>cases hb
   | bool _=>cases hb
   | _=>rfl
  | dict _=>cases ha
  | bool _=>cases ha
  | _=>cases b <;> first | (cases hb;done) | rfl
theorem Aw {n:Nat}{a b:PyData}(ha:dl n a=true)(hb:dl n b=true):PyData.eqv a b=decide (a=b):=by
 rw [<- SeqAt.same_eq_eqv a b (zG n a b ha hb),Bool.eq_iff_iff,PyProof.Rows.same_iff,decide_eq_true_eq]
theorem sI {n:Nat}{d:PyData}(h:dl n d=true)(l:n<=60):SeqAt.shaped d=true:=by
 obtain ⟨h1,h2⟩:=iH h
 unfold SeqAt.shaped
 rw [h1,decide_eq_true (Nat.le_trans h2 (by omega))]
 rfl
/-! ### == and != -/
def Dk (a b:PyData)(P:Bool->Prop):Prop:=match a,b with
 | .int a,.int b=>P (decide (a=b))
 | .str a,.str b=>P (decide (a=b))
 | .bool a,.bool b=>P (decide (a=b))
 | .none,.none=>P true
 | a,b=>(dl 8 a=true/\dl 8 b=true)/\P (decide (a=b))
def jU:DR:=fun ds P=>match ds with
 | [a,b]=>Dk a b fun c=>P .sh (.bool c)
 | _=>False
def mz:DR:=fun ds P=>match ds with
 | [a,b]=>Dk a b fun c=>P .sh (.bool !c)
 | _=>False
def oX (K:Frag)(neg:Bool):R2:=fun x y H Q=>Bu K neg x y H Q\/(if neg then KI x y H Q else KH x y H Q)
section
variable {X:Cx}
theorem Av (hu:X.A.units + 64 < cLine):bL X (compareOp .Eq) (oX X.K false):=(GH hu).or (JW (X:=X))
theorem HK (hu:X.A.units + 64 < cLine):bL X (compareOp .NotEq) (oX X.K true):=(G8 hu).or (JQ (X:=X))
end
theorem AJ {K:Frag}{H Hm:Hp}{x y:V}{a b:PyData}{Pb:Bool->Prop}{Q:VK}(neg:Bool)(s:aj Hm H)(h1:Rp K Hm x a)(h2:Rp K Hm y b)(h:Dk a b Pb)(q:∀ c,Pb c->Q (.bl (if neg then !c else c)) H):oX K neg x y H Q:=by
 have gen:dl 8 a=true/\dl 8 b=true->Pb (decide (a=b))->oX K neg x y H Q:=fun hd p=>by
  refine .inl ⟨a,b,(h1.mono s).m9 (kc hd.1),(h2.mono s).m9 (kc hd.2),sI hd.1 (by decide),sI hd.2 (by decide),zG 8 a b hd.1 hd.2,?_⟩
  have e:Spec.same a b=decide (a=b):=by rw [Bool.eq_iff_iff,PyProof.Rows.same_iff,decide_eq_true_eq]
  rw [e]
  exact q _ p
 have sc:Cy x y=true->Pb (decide (x=y))->oX K neg x y H Q:=fun hs p=>by
  refine .inr ?_
  cases neg with
  | true=>exact ⟨hs,q _ p⟩
  | false=>exact ⟨hs,q _ p⟩
 unfold Dk at h
 split at h
 ·cases h1;cases h2
  refine sc rfl ?_
  simpa using h
 ·cases h1;cases h2
  refine sc rfl ?_
  simpa using h
 ·cases h1;cases h2
  refine sc rfl ?_
  simpa using h
 ·cases h1;cases h2
  exact gen ⟨rfl,rfl⟩ (by simpa using h)
 ·exact gen h.1 h.2
theorem Ai {K:Frag}:cV K jU (r2 (oX K false)):=by
 intro H Hm vs ds P Q s r h q
 unfold jU at h
 split at h
 ·obtain ⟨x,y,rfl,h1,h2⟩:=cW r
  exact AJ false s h1 h2 h fun c p=>bN.sc q s p (.bl _)
 ·exact h.elim
theorem Ih {K:Frag}:cV K mz (r2 (oX K true)):=by
 intro H Hm vs ds P Q s r h q
 unfold mz at h
 split at h
 ·obtain ⟨x,y,rfl,h1,h2⟩:=cW r
  exact AJ true s h1 h2 h fun c p=>bN.sc q s p (.bl _)
 ·exact h.elim
/-! ### is None -/
def eu (neg:Bool):DR:=fun ds P=>match ds with
 | [a,.none]=>P .sh (.bool (if neg then !decide (a=.none) else decide (a=.none)))
 | _=>False
theorem wW {K:Frag}{H:Hp}{x:V}{d:PyData}(h:Rp K H x d):decide (x=.br)=decide (d=.none):=by
 cases h <;> simp
theorem EH {K:Frag}:cV K (eu false) (r2 fun x y H Q=>y=.br/\Q (.bl (decide (x=.br))) H):=by
 intro H Hm vs ds P Q s r h q
 unfold eu at h
 split at h
 ·obtain ⟨x,y,rfl,h1,h2⟩:=cW r
  cases h2
  refine ⟨rfl,?_⟩
  rw [wW h1]
  exact bN.sc q s h (.bl _)
 ·exact h.elim
theorem Cq {K:Frag}:cV K (eu true) (r2 fun x y H Q=>y=.br/\Q (.bl (!decide (x=.br))) H):=by
 intro H Hm vs ds P Q s r h q
 unfold eu at h
 split at h
 ·obtain ⟨x,y,rfl,h1,h2⟩:=cW r
  cases h2
  refine ⟨rfl,?_⟩
  rw [wW h1]
  exact bN.sc q s h (.bl _)
 ·exact h.elim
/-! ### in,not in -/
def ze (neg:Bool):DR:=fun ds P=>match ds with
 | [d,.list xs]=>(xs.all (dl 8)=true/\dl 8 d=true)/\P .sh (.bool (if neg then !decide (d∈xs) else decide (d∈xs)))
 | [d,.tuple xs]=>(xs.all (dl 8)=true/\dl 8 d=true)/\P .sh (.bool (if neg then !decide (d∈xs) else decide (d∈xs)))
 | _=>False
inductive DL (K:Frag)(neg:Bool) (x:V) (y:V)(H:Hp)(Q:VK):Prop
 | mk:∀ (d:PyData)(xs:List PyData),(kq K H x d)->((kq K H y (.list xs)\/kq K H y (.tuple xs)))->(PyData.canLayAll0 xs=true)->(d.canLay0=true)->(d.depth<=60)->(Q (.bl (if neg then !xs.any fun y=>PyData.eqv y d else xs.any fun y=>PyData.eqv y d)) H)->DL K neg x y H Q
def yd (K:Frag)(neg:Bool):R2:=fun x y H Q=>DL K neg x y H Q
section
variable {X:Cx}
theorem IE (hu:X.A.units + 64 < cLine):bL X (compareOp .In) (yd X.K false):=by
 intro pins s σ H x y v u Q I rx ry h
 obtain ⟨d,xs,hx,hy,l1,l2,dp,q⟩:=h
 obtain ⟨bs,rb⟩:=I.reads hx rx
 rcases hy with hy | hy
 ·obtain ⟨as,ra⟩:=I.reads hy ry
  exact SeqAt.in_list_reads ra rb l1 l2 (by omega) ⟨.bl _,H,I,rfl,q⟩
 ·obtain ⟨as,ra⟩:=I.reads hy ry
  exact SeqAt.in_tuple_reads ra rb l1 l2 (by omega) ⟨.bl _,H,I,rfl,q⟩
theorem A0 (hu:X.A.units + 64 < cLine):bL X (compareOp .NotIn) (yd X.K true):=by
 intro pins s σ H x y v u Q I rx ry h
 obtain ⟨d,xs,hx,hy,l1,l2,dp,q⟩:=h
 obtain ⟨bs,rb⟩:=I.reads hx rx
 rcases hy with hy | hy
 ·obtain ⟨as,ra⟩:=I.reads hy ry
  exact SeqAt.notIn_list_reads ra rb l1 l2 (by omega) ⟨.bl _,H,I,rfl,q⟩
 ·obtain ⟨as,ra⟩:=I.reads hy ry
  exact SeqAt.notIn_tuple_reads ra rb l1 l2 (by omega) ⟨.bl _,H,I,rfl,q⟩
end
theorem xu {n:Nat}{d:PyData}{xs:List PyData}(h:xs.all (dl n)=true)(hd:dl n d=true):(xs.any fun y=>PyData.eqv y d)=decide (d∈xs):=by
 rw [Bool.eq_iff_iff,List.any_eq_true,decide_eq_true_eq]
 rw [List.all_eq_true] at h
 constructor
 ·rintro ⟨y,hy,e⟩
  rw [Aw (h y hy) hd,decide_eq_true_eq] at e
  exact e ▸ hy
 ·intro m
  exact ⟨d,m,by rw [Aw hd hd];simp⟩
theorem GJ {K:Frag}(neg:Bool):cV K (ze neg) (r2 (yd K neg)):=by
 intro H Hm vs ds P Q s r h q
 unfold ze at h
 split at h
 ·rename_i d xs
  obtain ⟨x,y,rfl,h1,h2⟩:=cW r
  obtain ⟨⟨ha,hd⟩,p⟩:=h
  refine ⟨d,xs,(h1.mono s).m9 (kc hd),.inl ((h2.mono s).m9 (by rw [nd];exact nj fun d hd=>kc (List.all_eq_true.mp ha d hd))),lu fun e he=>(iH (List.all_eq_true.mp ha e he)).1,(iH hd).1,Nat.le_trans (iH hd).2 (by decide),?_⟩
  rw [xu ha hd]
  exact bN.sc q s p (.bl _)
 ·rename_i d xs
  obtain ⟨x,y,rfl,h1,h2⟩:=cW r
  obtain ⟨⟨ha,hd⟩,p⟩:=h
  refine ⟨d,xs,(h1.mono s).m9 (kc hd),.inr ((h2.mono s).m9 (by rw [nd];exact nj fun d hd=>kc (List.all_eq_true.mp ha d hd))),lu fun e he=>(iH (List.all_eq_true.mp ha e he)).1,(iH hd).1,Nat.le_trans (iH hd).2 (by decide),?_⟩
  rw [xu ha hd]
  exact bN.sc q s p (.bl _)
 ·exact h.elim
/-! ### an item -/
def Al:DR:=fun ds P=>match ds with
 | [.list xs,.int i]=>∃ d,dQ xs i=some d/\P .sh d
 | [.tuple xs,.int i]=>∃ d,dQ xs i=some d/\P .sh d
 | _=>False
theorem aA.dQ {K:Frag}{H:Hp}{vs:List V}{ds:List PyData}(r:aA K H vs ds){i:Int}{d:PyData}(h:L2.dQ ds i=some d):∃ v,L2.dQ vs i=some v/\Rp K H v d:=by
 unfold L2.dQ at h ⊢
 rw [r.len]
 cases e:nh ds.length i with
 | none=>rw [e] at h;cases h
 | some j =>
  rw [e] at h
  exact r.get h
theorem GL {K:Frag}:cV K Al (r2 (GN K)):=by
 intro H Hm vs ds P Q s r h q
 unfold Al at h
 split at h
 ·obtain ⟨x,y,rfl,h1,h2⟩:=cW r
  obtain ⟨d,e,p⟩:=h
  cases h2
  cases h1 with
  | lst a1 r1 =>
   obtain ⟨v,e2,rv⟩:=r1.dQ e
   exact .inl ⟨_,_,_,v,rfl,rfl,(cQ.mono s a1).sq,e2,bN.sc q s p rv⟩
 ·obtain ⟨x,y,rfl,h1,h2⟩:=cW r
  obtain ⟨d,e,p⟩:=h
  cases h2
  cases h1 with
  | tup a1 r1 =>
   obtain ⟨v,e2,rv⟩:=r1.dQ e
   exact .inr (.inl ⟨_,_,_,v,rfl,rfl,cB.of (s _ _ a1),e2,bN.sc q s p rv⟩)
 ·exact h.elim
/-! ### a part of a list,of a tuple -/
def cutD (xs:List PyData)(lo hi:Option Int):List PyData:=(xs.drop (HT.aO xs.length 0 lo)).take (HT.aO xs.length xs.length hi - HT.aO xs.length 0 lo)
theorem aA.cut {K:Frag}{H:Hp}{vs:List V}{ds:List PyData}(r:aA K H vs ds)(lo hi:Option Int):aA K H (lZ vs lo hi) (cutD ds lo hi):=by
 unfold lZ cutD
 rw [r.len]
 exact (r.drop _).take _
def zS (d:PyData)(lo hi:Option Int)(P:Kd->PyData->Prop):Prop:=match d with
 | .list xs=>P (.ow false) (.list (cutD xs lo hi))
 | .tuple xs=>P .sh (.tuple (cutD xs lo hi))
 | _=>False
def kQ (bl bh:Bool):DR:=fun ds P=>match bl,bh,ds with
 | false,false,[d]=>zS d none none P
 | true,false,[d,.int a]=>zS d (some a) none P
 | false,true,[d,.int b]=>zS d none (some b) P
 | true,true,[d,.int a,.int b]=>zS d (some a) (some b) P
 | _,_,_=>False
def qY (K:Frag):V->Option Int->Option Int->Hp->VK->Prop:=fun x lo hi H Q=>Iw K x lo hi H Q\/Dd K x lo hi H Q
theorem Jg {X:Cx}:AS X (qY X.K):=fun pins s σ H x v vl vu lo hi sl Q I rx hs pl pu h=>h.elim (Eg pins s σ H x v vl vu lo hi sl Q I rx hs pl pu) (EN pins s σ H x v vl vu lo hi sl Q I rx hs pl pu)
def Dw (bl bh:Bool)(K:Frag):List V->Hp->VK->Prop:=fun vs H Q=>match bl,bh,vs with
 | false,false,[x]=>qY K x none none H Q
 | true,false,[x,a]=>∃ i,a=.int i/\qY K x (some i) none H Q
 | false,true,[x,b]=>∃ i,b=.int i/\qY K x none (some i) H Q
 | true,true,[x,a,b]=>∃ i,a=.int i/\∃ j,b=.int j/\qY K x (some i) (some j) H Q
 | _,_,_=>False
theorem y9 {xs:List PyData}{lo hi:Option Int}(h:HT.aO xs.length 0 lo=0/\HT.aO xs.length xs.length hi=xs.length):cutD xs lo hi=xs:=by
 unfold cutD
 rw [h.1,h.2,List.drop_zero,Nat.sub_zero,List.take_length]
theorem qi {K:Frag}{H Hm:Hp}{P:Kd->PyData->Prop}{Q:VK}(q:bN K H Hm P Q)(s:aj Hm H){x:V}{d:PyData}(h1:Rp K Hm x d){lo hi:Option Int}(h:zS d lo hi P):qY K x lo hi H Q:=by
 cases h1 with
 | lst a1 r1=>exact .inl ⟨_,_,rfl,(cQ.mono s a1).sq,fun p hp=>bN.nl q s h hp (r1.cut lo hi)⟩
 | tup a1 r1 =>
  refine .inr ⟨_,_,rfl,cB.of (s _ _ a1),fun w=>?_,fun _ p hp=>bN.nt q s h hp (r1.cut lo hi)⟩
  rw [r1.len] at w
  have h:P .sh (.tuple (cutD _ lo hi)):=h
  rw [y9 w] at h
  exact bN.sc q s h (.tup a1 r1)
 | _=>exact h.elim
theorem zN {K:Frag}(bl bh:Bool):cV K (kQ bl bh) (Dw bl bh K):=by
 intro H Hm vs ds P Q s r h q
 unfold kQ at h
 split at h
 ·obtain ⟨x,rfl,h1⟩:=dR r
  exact qi q s h1 h
 ·obtain ⟨x,y,rfl,h1,h2⟩:=cW r
  cases h2
  exact ⟨_,rfl,qi q s h1 h⟩
 ·obtain ⟨x,y,rfl,h1,h2⟩:=cW r
  cases h2
  exact ⟨_,rfl,qi q s h1 h⟩
 ·obtain ⟨x,y,z,rfl,h1,h2,h3⟩:=KP r
  cases h2;cases h3
  exact ⟨_,rfl,_,rfl,qi q s h1 h⟩
 ·exact h.elim
section
variable {X:Cx}{Ex:XK}{π:List Nat}{a l u:Expr}{pos p2:Pos}{as:List Arg}
theorem vC (S:aU X Ex π [a,u] as):SE X Ex π (.Subscript a (.Slice none (some u) none p2) pos) (ah (kQ false true) as):=gm (r:=Dw false true X.K) S (fun σ H Q h=>WE.of (Bw Jg bx ED (Fd bx)) h) (zN _ _)
open PyProof.Rows in
theorem IZ {σ:L2.St}{H:Hp}{Q:VK}(h:qa X [a,l,u] σ H fun vs H1=>Dw true true X.K vs H1 Q):WE X (.Subscript a (.Slice (some l) (some u) none p2) pos) σ H Q:=by
 intro pins s I
 refine Subscript_ (aG (h pins s I) fun v s1 ⟨x,H1,I1,r1,q1⟩=>?_)
 refine wpAny_Slice ?_
 rw [evalPart_some]
 refine aG (q1 pins s1 I1) fun vl s2 ⟨y,H2,I2,pl,q2⟩=>?_
 rw [evalPart_some]
 refine aG (q2 pins s2 I2) fun vu s3 ⟨z,H3,I3,pu,q3⟩=>?_
 obtain ⟨i,rfl,j,rfl,q3⟩:=q3
 obtain ⟨t1,rfl⟩:=pl
 obtain ⟨t2,rfl⟩:=pu
 rw [evalPart_none]
 refine wpAny_pure ?_
 have I4:Inv X pins σ H3 { s3 with heap:=s3.heap.push { cls:=.type "slice",data:=.fields #[.int i t1,.int j t2,.none] } }:=I3.kept (t':=s3.toks) fun b ob q=>Heap.get?_push_of_some _ q
 obtain ⟨T,id,hT,ht,hg⟩:=Jg pins { s3 with heap:=s3.heap.push { cls:=.type "slice",data:=.fields #[.int i t1,.int j t2,.none] } } σ H3 x v (.int i t1) (.int j t2) (some i) (some j) s3.heap.objs.size Q I4 r1 (Heap.IsSliceOf.new ..) (.int i t1) (.int j t2) q3
 show wpAny (model X.prog X.w) X.A (subscriptTail a (.Slice (some l) (some u) none p2) v (.ref s3.heap.objs.size)) (EP X pins σ Q) X.xe { s3 with heap:=s3.heap.push { cls:=.type "slice",data:=.fields #[.int i t1,.int j t2,.none] } }
 exact tail_any (ops:=[.ref s3.heap.objs.size,v]) ht hT hg (by with_unfolding_all rfl)
theorem Ho (S:aU X Ex π [a,l,u] as):SE X Ex π (.Subscript a (.Slice (some l) (some u) none p2) pos) (ah (kQ true true) as):=gm (r:=Dw true true X.K) S (fun σ H Q h=>IZ h) (zN _ _)
end
end Dv
namespace L2
open PySem PySem.Spec PyProof.Rows
section
variable {X:Cx}
theorem v7:cK X (.type "range") (fun xs H Q=>∃ j:Int,xs=[.int j]/\∀ p,H p=none->Q (.ref p) (upd H p (.oN 0 j))):=by
 intro pins s σ H xs us Q I r h
 obtain ⟨j,rfl,q⟩:=h
 obtain ⟨u,rfl,ru⟩:=vals1 r
 obtain ⟨t,rfl⟩:=ru
 refine call_range_1 (?_:_)
 exact ⟨.ref s.heap.objs.size,_,I.laid (o:=.oN 0 j) (fun b o e=>Heap.get?_push_of_some _ e) (Nat.le_refl _) ⟨_,_,_,Heap.get?_push_size _ rfl⟩,rfl,q _ (I.hok.fresh (Nat.le_refl _))⟩
theorem yf (hc:X.calm=true):cK X (.type "list") (fun xs H Q=>∃ (a:Addr) (j:Int),xs=[.ref a]/\H a=some (.oN 0 j)/\0<=j/\j<=1000/\∀ l,H l=none->Q (.ref l) (upd H l (.lst (((List.range j.toNat).map fun i:Nat=>(i:Int)).map V.int)))):=by
 intro pins s σ H xs us Q I r h
 obtain ⟨a,j,rfl,ha,j0,j1,q⟩:=h
 obtain ⟨u,rfl,ru⟩:=vals1 r
 cases ru
 obtain ⟨t,u,v,e⟩:=I.hok a _ ha
 refine call_list_range (n:=j.toNat) (I.ok.hd hc) e (small_one (by decide) (by decide) (by omega) (by omega)) (by rw [rangeSize_one];split <;> omega) (by omega) fun h' tk acc c kp hS its=>?_
 obtain ⟨z1,z2⟩:=its
 have rv:Vals (((List.range j.toNat).map fun i:Nat=>(i:Int)).map V.int) acc.toList:=by
  have go:∀ (l:List Value) (k:Nat),(∀ (i:Nat)(v:Value),l[i]?=some v->∃ t:Tok,v=Value.int ((k + i:Nat):Int) t)->Vals (((List.range' k l.length).map fun i:Nat=>(i:Int)).map V.int) l:=fun l=>by
   induction l with
   | nil=>exact fun k _=>.nil
   | cons x l ih =>
    intro k h
    obtain ⟨t,e⟩:=h 0 x rfl
    refine .cons ⟨t,by simpa using e⟩ (ih (k + 1) fun i v hv=>?_)
    obtain ⟨t,e⟩:=h (i + 1) v hv
    exact ⟨t,by rw [e,Nat.add_assoc,Nat.add_comm 1 i]⟩
  have:=go acc.toList 0 fun i v hv=>by
   obtain ⟨t,e⟩:=z2 i v (by simpa using hv)
   exact ⟨t,by rw [e];simp⟩
  rw [List.range_eq_range']
  simpa [z1] using this
 exact ⟨.ref s.heap.objs.size,_,I.laid (t':=tk) kp (Nat.le_refl _) (o:=.lst _) ⟨by rw [List.length_map,List.length_map,List.length_range];exact Nat.le_trans (show j.toNat<=1000 by omega) (by decide),acc.toList,c,rv,by simpa using hS⟩,rfl,q _ (I.hok.fresh (Nat.le_refl _))⟩
end
end L2
namespace L2
open PySem PySem.Spec PyProof.Rows PySem.W
section
variable {X:Cx}{a:Expr}{ta:TE}{pos:Pos}
theorem Fv (ha:PE X a ta):PE X (.UnaryOp .Not a pos) (fun σ H Q=>ta σ H fun x H1=>∃ k,oV X.K x H1 k/\Q (.bl (!k)) H1):=by
 intro pins s σ H Q I h
 refine UnaryOp_ (aG (ha pins s σ H _ I h) fun v s1 ⟨x,H1,I1,r1,k,tk,q1⟩=>?_)
 refine not_of (aG (vd pins s1 σ H1 x v (fun b H2=>Q (.bl (!b)) H2) I1 r1 ⟨k,tk,q1⟩) fun b s2 ⟨H2,I2,q2⟩=>?_)
 exact ⟨.bl (!b),H2,I2,rfl,q2⟩
end
end L2
namespace Dv
open PySem L2 PySem.W
section
variable {X:Cx}{Ex:XK}{π:List Nat}
theorem ye {e:Expr}{u:V}{v:PyData}(h:PE X e (tC u))(r:∀ Hm,Rp X.K Hm u v):SE X Ex π e (dC v):=fun g x E σ H Hm F P Q hx R p q=>WE.of h (q _ _ _ _ _ _ _ [] p R (aj.refl _) (Tm.sh (r Hm)))
theorem Jf {e:Expr}{i j:Nat}(h:PE X e (l0 j))(hj:π[j]?=some i):SE X Ex π e (bE i):=by
 intro g x E σ H Hm F P Q hx R p q
 obtain ⟨k,d,E',e1,e2,p⟩:=p
 obtain ⟨v,Hm',F',h1,s,R',r⟩:=R.cT e1 e2
 exact WE.of h ⟨v,fS hj h1,q _ _ _ _ _ _ _ [] p R' s (Tm.sh r)⟩
/-! ### what a test asks -/
def bS (X:Cx)(Ex:XK)(π:List Nat)(e:Expr)(d:DE):Prop :=
 ∀ (g:Gh)(x:XC)(E:En)(σ:St)(H Hm:Hp)(F:Nat->List Addr)(P:En->Kd->PyData->Prop)(Q:Bool->Hp->Prop),XL X Ex x g->Rl X.K g E σ H Hm F->d x E P ->
  (∀ E' k v H' Hm' F',P E' k v->Rl X.K g E' σ H' Hm' F'->aj Hm Hm'->∃ b,jC v=some b/\Q b H')->WT X e (sel π σ) H Q
theorem bS.st {e:Expr}{d:DE}(h:bS X Ex π e d):ST X Ex π e (cA d):=fun g x E σ H Hm F P Q hx R p q=>h g x E σ H Hm F _ Q hx R p fun E' k v H' Hm' F' ⟨b,e1,p⟩ R' s=>⟨b,e1,q _ _ _ _ _ p R' s⟩
theorem Rp.jC {K:Frag}{H:Hp}{u:V}{v:PyData}{b:Bool}(r:Rp K H u v)(h:Dv.jC v=some b):oV K u H b:=by
 cases r with
 | br=>cases h;rfl
 | bl c=>cases h;rfl
 | int i =>
  cases h
  show (!decide (i=0))=(i != 0)
  rw [bne,Bool.beq_eq_decide_eq]
 | str _=>cases h
 | lst a r1 =>
  cases h
  refine .inl ⟨_,a.sq,?_⟩
  cases r1 <;> rfl
 | tup a r1 =>
  cases h
  refine .inr (.inl ⟨_,cB.of a,?_⟩)
  cases r1 <;> rfl
 | dk _ _=>cases h
 | dt _ _=>cases h
theorem Own.jC {K:Frag}{H Hm:Hp}{k:Kd}{u:V}{v:PyData}{fp:List Addr}{b:Bool}(o:Own K H Hm k u v fp)(s:aj Hm H)(h:Dv.jC v=some b):oV K u H b:=by
 by_cases hk:k.rd=true
 ·exact (o.rp (Hm':=H) hk s fun _ _=>rfl).jC h
 ·cases o <;> first | exact absurd rfl hk | cases h
theorem SE.uR {e:Expr}{d:DE}(h:SE X Ex π e d)(he:∀ whole,isTrue e X.env whole=(do let v <- whole;standAt e.pos;holding [v] (truthy v))):bS X Ex π e d:=by
 intro g x E σ H Hm F P Q hx R p q
 refine WT.of (vL bx he) (h g x E σ H Hm F P _ hx R p fun E' k v u H' Hm' F' fp p' R' s T=>?_)
 obtain ⟨b,e1,q'⟩:=q _ _ _ _ _ _ p' R' s
 exact ⟨b,T.own.jC R'.sub e1,q'⟩
theorem Hz {a b:Expr}{op:CmpOp}{pos:Pos}{r:R2}(ho:bL X (compareOp op) r)(hm:behindInMarks op b=false){σ:St}{H:Hp}{Q:Bool->Hp->Prop}(h:qa X [a,b] σ H fun vs H1=>r2 r vs H1 fun x H'=>∃ k,oV X.K x H' k/\Q k H'):WT X (.Compare a [op] [b] pos) σ H Q:=by
 intro pins s I
 refine wpAny_isTrue_Compare1 (aG (h pins s I) fun v s1 ⟨x,H1,I1,r1,q1⟩=>aG (q1 pins s1 I1) fun u s2 ⟨y,H2,I2,r2,q2⟩=>aG (ho pins s2 σ H2 x y v u _ I2 r1 r2 q2) fun c s3 ⟨z,H3,I3,r3,q3⟩=>?_) hm
 exact vd pins s3 σ H3 z c Q I3 r3 q3
theorem GY {e:Expr}{es:List Expr}{as:List Arg}{f:DR}{r:List V->Hp->VK->Prop}(S:aU X Ex π es as)(hr:∀ σ H (Q:Bool->Hp->Prop),qa X es σ H (fun vs H1=>r vs H1 fun x H'=>∃ k,oV X.K x H' k/\Q k H')->WT X e σ H Q)(D:cV X.K f r):bS X Ex π e (ah f as):=by
 intro g x E σ H Hm F P Q hx R h q
 refine hr _ _ _ (jW hx S R h fun E1 os vs H1 Hm1 F1 p R1 s1 G=>?_)
 obtain ⟨ds,hf,hg⟩:=p
 have off:∀ a∈(gI as).flatMap F1,Hm1 a=none:=fun a ha=>by
  obtain ⟨i,_,h⟩:=List.mem_flatMap.mp ha
  exact R1.off i a h
 have up:=i9 (Hm:=Hm1) (H:=H1) off
 refine D H1 (lend Hm1 H1 ((gI as).flatMap F1)) vs ds _ _ (j6 R1.sub) (jK R1 up G hf fun i hi a ha=>fR (List.mem_flatMap.mpr ⟨i,hi,ha⟩)) hg fun k v u H' Hm2 fp p sH sM sS old o fr=>?_
 obtain ⟨E2,ha,p⟩:=p
 obtain ⟨Hm',F',R',s',T⟩:=uA R1 (is:=gI as) (vf ha) sH sM sS old o fr
 obtain ⟨b,e1,q'⟩:=q _ _ _ _ _ _ p R' (s1.trans s')
 exact ⟨b,o.jC sS e1,q'⟩
theorem gh {a b:Expr}{op:CmpOp}{pos:Pos}{r:R2}{f:DR}{as:List Arg}(ho:bL X (compareOp op) r)(hm:behindInMarks op b=false)(D:cV X.K f (r2 r))(S:aU X Ex π [a,b] as):bS X Ex π (.Compare a [op] [b] pos) (ah f as):=GY S (fun σ H Q h=>Hz ho hm h) D
/-! ### and,or,not -/
theorem Own.bool {K:Frag}{H Hm:Hp}{k:Kd}{u:V}{c:Bool}{fp:List Addr}(o:Own K H Hm k u (.bool c) fp):u=.bl c:=by
 cases o with
 | sh r=>cases r;rfl
theorem Own.int {K:Frag}{H Hm:Hp}{k:Kd}{u:V}{i:Int}{fp:List Addr}(o:Own K H Hm k u (.int i) fp):u=.int i:=by
 cases o with
 | sh r=>cases r;rfl
theorem HU {op:BoolOp}{a:Expr}{pos:Pos}{d:DE}(h:SE X Ex π a d):SE X Ex π (.BoolOp op [a] pos) d:=fun g x E σ H Hm F P Q hx R p q=>WE.of (Gb bx) (h g x E σ H Hm F P Q hx R p q)
theorem I0 {a b:Expr}{rest:List Expr}{pos:Pos}{d e:DE}(ha:SE X Ex π a d)(hb:SE X Ex π (.BoolOp .And (b::rest) pos) e):SE X Ex π (.BoolOp .And (a::b::rest) pos) (pC d e):=by
 intro g x E σ H Hm F P Q hx R p q
 refine WE.of (GA bx bx) (ha g x E σ H Hm F _ _ hx R p fun E1 k v u H1 Hm1 F1 fp p1 R1 s1 T=>?_)
 obtain ⟨c,rfl,p1⟩:=p1
 refine ⟨c,T.own.bool,?_⟩
 cases c with
 | true=>exact ni (hb g x E1 σ H1 Hm1 F1 P Q hx R1 p1 fun E' k v u H' Hm' F' fp p' R' s' T'=>q _ _ _ _ _ _ _ _ p' R' (s1.trans s') T')
 | false=>exact mQ (q _ _ _ _ _ _ _ [] p1 R1 s1 (Tm.sh (.bl false)))
theorem Hu {a:Expr}{pos:Pos}{d:DE}(ha:SE X Ex π a d):SE X Ex π (.UnaryOp .Not a pos) (sr d):=by
 intro g x E σ H Hm F P Q hx R p q
 refine WE.of (Fv bx) (ha g x E σ H Hm F _ _ hx R p fun E1 k v u H1 Hm1 F1 fp p1 R1 s1 T=>?_)
 obtain ⟨c,hc,p1⟩:=p1
 exact ⟨c,T.own.jC R1.sub hc,q _ _ _ _ _ _ _ [] p1 R1 s1 (Tm.sh (.bl _))⟩
theorem EY {a:Expr}{pos:Pos}{d:DE}(ha:bS X Ex π a d):bS X Ex π (.UnaryOp .Not a pos) (sr d):=by
 intro g x E σ H Hm F P Q hx R p q
 refine WT.of (zV jh) (ha g x E σ H Hm F _ _ hx R p fun E1 k v H1 Hm1 F1 p1 R1 s1=>?_)
 obtain ⟨c,hc,p1⟩:=p1
 obtain ⟨b,e1,q'⟩:=q _ _ _ _ _ _ p1 R1 s1
 refine ⟨c,hc,?_⟩
 cases e1
 exact q'
def WW (X:Cx)(e:Expr):TT:=fun σ H Q=>∀ (whole:Sem Value)(pins:List (Addr×Obj))(s:Shared),Inv X pins σ H s->wpAny (model X.prog X.w) X.A (isTrue e X.env whole) (TP X pins σ Q) X.xe s
theorem pw_ww {e:Expr}:PW X e (WW X e):=fun wh pins s _ _ _ I h=>h wh pins s I
theorem WW.of {e:Expr}{t:TT}{σ:St}{H:Hp}{Q:Bool->Hp->Prop}(h:PW X e t)(q:t σ H Q):WW X e σ H Q:=fun wh pins s I=>h wh pins s σ H Q I q
def mq (X:Cx)(Ex:XK)(π:List Nat)(e:Expr)(d:DE):Prop :=
 ∀ (g:Gh)(x:XC)(E:En)(σ:St)(H Hm:Hp)(F:Nat->List Addr)(P:En->Kd->PyData->Prop)(Q:Bool->Hp->Prop),XL X Ex x g->Rl X.K g E σ H Hm F->d x E P ->
  (∀ E' k v H' Hm' F',P E' k v->Rl X.K g E' σ H' Hm' F'->aj Hm Hm'->∃ b,jC v=some b/\Q b H')->WW X e (sel π σ) H Q
theorem mq.uR {e:Expr}{d:DE}(h:mq X Ex π e d):bS X Ex π e d:=fun g x E σ H Hm F P Q hx R p q=>WT.of (PW.pt pw_ww) (h g x E σ H Hm F P Q hx R p q)
theorem kR {op:BoolOp}{a:Expr}{pos:Pos}{d:DE}(h:bS X Ex π a d):mq X Ex π (.BoolOp op [a] pos) d:=fun g x E σ H Hm F P Q hx R p q=>by
 cases op with
 | And=>exact WW.of (pw_and1 jh) (h g x E σ H Hm F P Q hx R p q)
 | Or=>exact WW.of (pw_or1 jh) (h g x E σ H Hm F P Q hx R p q)
theorem xg {a b:Expr}{rest:List Expr}{pos:Pos}{d e:DE}(ha:bS X Ex π a d)(hb:mq X Ex π (.BoolOp .And (b::rest) pos) e):mq X Ex π (.BoolOp .And (a::b::rest) pos) (pC d e):=by
 intro g x E σ H Hm F P Q hx R p q
 refine WW.of (pw_and jh pw_ww) (ha g x E σ H Hm F _ _ hx R p fun E1 k v H1 Hm1 F1 p1 R1 s1=>?_)
 obtain ⟨c,rfl,p1⟩:=p1
 refine ⟨c,rfl,?_⟩
 cases c with
 | true=>exact ni (hb g x E1 σ H1 Hm1 F1 P Q hx R1 p1 fun E' k v H' Hm' F' p' R' s'=>q _ _ _ _ _ _ p' R' (s1.trans s'))
 | false =>
  obtain ⟨b,e1,q'⟩:=q _ _ _ _ _ _ p1 R1 s1
  cases e1
  exact mQ q'
theorem qc {a b:Expr}{rest:List Expr}{pos:Pos}{d e:DE}(ha:bS X Ex π a d)(hb:mq X Ex π (.BoolOp .Or (b::rest) pos) e):mq X Ex π (.BoolOp .Or (a::b::rest) pos) (uC d e):=by
 intro g x E σ H Hm F P Q hx R p q
 refine WW.of (pw_or jh pw_ww) (ha g x E σ H Hm F _ _ hx R p fun E1 k v H1 Hm1 F1 p1 R1 s1=>?_)
 obtain ⟨c,rfl,p1⟩:=p1
 refine ⟨c,rfl,?_⟩
 cases c with
 | true =>
  obtain ⟨b,e1,q'⟩:=q _ _ _ _ _ _ p1 R1 s1
  cases e1
  exact ni q'
 | false=>exact mQ (hb g x E1 σ H1 Hm1 F1 P Q hx R1 p1 fun E' k v H' Hm' F' p' R' s'=>q _ _ _ _ _ _ p' R' (s1.trans s'))
/-! ### a op b op' c -/
theorem tw {a b c:Expr}{op op':CmpOp}{pos:Pos}{f f':Int->Int->Bool}{da db dc:DE}(ho:bL X (compareOp op) (mw fun i j=>.bl (f i j)))(ho':bL X (compareOp op') (mw fun i j=>.bl (f' i j)))(hm:lastMarks [op,op'] [b,c]=false)
  (ha:SE X Ex π a da)(hb:SE X Ex π b db)(hc:SE X Ex π c dc):bS X Ex π (.Compare a [op,op'] [b,c] pos) (kT f f' da db dc):=by
 intro g x E σ H Hm F P Q hx R p q
 refine WT.of (Ct ho ho' bx bx bx hm) (ha g x E σ H Hm F _ _ hx R p fun E1 k1 v1 u1 H1 Hm1 F1 fp1 p1 R1 s1 T1=>?_)
 obtain ⟨i,rfl,p1⟩:=p1
 cases T1.own.int
 refine hb g x E1 σ H1 Hm1 F1 _ _ hx R1 p1 fun E2 k2 v2 u2 H2 Hm2 F2 fp2 p2 R2 s2 T2=>?_
 obtain ⟨j,rfl,p2⟩:=p2
 cases T2.own.int
 refine ⟨i,j,rfl,rfl,f i j,rfl,?_⟩
 by_cases z:f i j=true
 ·rw [if_pos z] at p2 ⊢
  refine hc g x E2 σ H2 Hm2 F2 _ _ hx R2 p2 fun E3 k3 v3 u3 H3 Hm3 F3 fp3 p3 R3 s3 T3=>?_
  obtain ⟨k,rfl,p3⟩:=p3
  cases T3.own.int
  obtain ⟨b',e1,q'⟩:=q _ _ _ _ _ _ p3 R3 (s1.trans (s2.trans s3))
  cases e1
  exact ⟨j,k,rfl,rfl,_,rfl,q'⟩
 ·rw [if_neg z] at p2 ⊢
  obtain ⟨b',e1,q'⟩:=q _ _ _ _ _ _ p2 R2 (s1.trans s2)
  cases e1
  exact ⟨_,rfl,q'⟩
/-! ### a if t else b -/
theorem yP {c a b:Expr}{pos:Pos}{t:DT}{d e:DE}(hc:ST X Ex π c t)(ha:SE X Ex π a d)(hb:SE X Ex π b e):SE X Ex π (.IfExp c a b pos) (zZ t d e):=by
 intro g x E σ H Hm F P Q hx R p q
 refine WE.of (BH jh bx bx) (hc g x E σ H Hm F _ _ hx R p fun E1 b H1 Hm1 F1 p1 R1 s1=>?_)
 cases b with
 | true=>exact ni (ha g x E1 σ H1 Hm1 F1 P Q hx R1 (by simpa using p1) fun E' k v u H' Hm' F' fp p' R' s' T'=>q _ _ _ _ _ _ _ _ p' R' (s1.trans s') T')
 | false=>exact mQ (hb g x E1 σ H1 Hm1 F1 P Q hx R1 (by simpa using p1) fun E' k v u H' Hm' F' fp p' R' s' T'=>q _ _ _ _ _ _ _ _ p' R' (s1.trans s') T')
/-! ### a name as a test -/
theorem Li {e:Expr}{i j:Nat}(h:PE X e (l0 j))(hj:π[j]?=some i)(he:∀ whole,isTrue e X.env whole=(do let v <- whole;standAt e.pos;holding [v] (truthy v))):ST X Ex π e (xH i):=by
 intro g x E σ H Hm F P Q hx R p q
 obtain ⟨k,d,b,e1,hk,ht,p⟩:=p
 obtain ⟨v,h1,h2⟩:=R.slot i k d e1
 exact WT.of (vL h he) ⟨v,fS hj h1,b,h2.jC R.sub ht,q _ _ _ _ _ p R (aj.refl _)⟩
theorem yI {a:Expr}{pos:Pos}{t:DT}(ha:ST X Ex π a t):ST X Ex π (.UnaryOp .Not a pos) (wB t):=by
 intro g x E σ H Hm F P Q hx R p q
 exact WT.of (zV jh) (ha g x E σ H Hm F _ _ hx R p fun E1 b H1 Hm1 F1 p1 R1 s1=>q _ _ _ _ _ p1 R1 s1)
end
end Dv
namespace Dv
open PySem L2 PySem.W
def noStar:Expr->Bool
 | .Starred ..=>false
 | _=>true
theorem b5 {e:Expr}{es:List Expr}{env:Env}(h:noStar e=true):starEach (e::es) env=(false,eval e env)::starEach es env:=by
 cases e <;> first | rfl | cases h
theorem iW {pos:Pos}{env:Env}:∀ {es:List Expr},es.all noStar=true->(backTo pos (starEach es env)).any (·.1)=false
 | [],_=>rfl
 | e::es,h=>by
  rw [List.all_cons,Bool.and_eq_true] at h
  rw [b5 h.1]
  show (false || (backTo pos (starEach es env)).any (·.1))=false
  rw [iW h.2]
  rfl
section
variable {X:Cx}{Ex:XK}{π:List Nat}
theorem fK:∀ {es:List Expr},es.all noStar=true->PA X es (qa X es)
 | [],_=>mX
 | e::es,h=>by
  rw [List.all_cons,Bool.and_eq_true] at h
  exact jF bx (fK h.2) (b5 h.1)
theorem f6 {x:Str}{id:String}{p pos:Pos}{e:Expr}{es:List Expr}{as:List Arg}{f:DR}{r:List V->Hp->VK->Prop}(hc:cK X (.builtin id) r)(D:cV X.K f r)(hg:Gl X x)(hm:X.mg x=none)(hv:bootBuiltins x=some (.builtin id))(hn:x≠"__name__")(hd:(x == ("__debug__":Str))=false)
  (ns:(e::es).all noStar=true)(S:aU X Ex π (e::es) as):SE X Ex π (.Call (.Name x p) (e::es) [] pos) (ah f as) :=
 gm S (fun σ H Q h=>WE.of (vg hc hg hm hv (fK ns) hn hd (b5 (by rw [List.all_cons,Bool.and_eq_true] at ns;exact ns.1)) (iW (by rw [List.all_cons,Bool.and_eq_true] at ns;exact ns.2))) h) D
theorem nH {x:Str}{T:String}{p pos:Pos}{e:Expr}{es:List Expr}{as:List Arg}{f:DR}{r:List V->Hp->VK->Prop}(hc:cK X (.type T) r)(D:cV X.K f r)(hg:Gl X x)(hm:X.mg x=none)(hv:bootBuiltins x=some (.type T))(hn:x≠"__name__")(hd:(x == ("__debug__":Str))=false)
  (ns:(e::es).all noStar=true)(S:aU X Ex π (e::es) as):SE X Ex π (.Call (.Name x p) (e::es) [] pos) (ah f as) :=
 gm S (fun σ H Q h=>WE.of (m8 hc hg hm hv (fK ns) hn hd (b5 (by rw [List.all_cons,Bool.and_eq_true] at ns;exact ns.1)) (iW (by rw [List.all_cons,Bool.and_eq_true] at ns;exact ns.2))) h) D
/-! ### written lists,tuples -/
def eT:DR:=fun ds P=>ds.length<=sizeLine/\P (.ow false) (.list ds)
def iZ:DR:=fun ds P=>ds.length<=sizeLine/\P .sh (.tuple ds)
theorem Ek {K:Frag}:cV K eT fun xs H Q=>xs.length<=sizeLine/\∀ p,H p=none->Q (.ref p) (upd H p (.lst xs)):=fun H Hm vs ds P Q s r h q=>⟨by rw [r.len];exact h.1,fun p hp=>bN.nl q s h.2 hp r⟩
theorem Ei {K:Frag}:cV K iZ fun xs H Q=>xs.length<=sizeLine/\∀ p,H p=none->Q (.ref p) (upd H p (.tup xs)):=fun H Hm vs ds P Q s r h q=>⟨by rw [r.len];exact h.1,fun p hp=>bN.nt q s h.2 hp r⟩
theorem HC {es:List Expr}{as:List Arg}{pos:Pos}(ns:es.all noStar=true)(S:aU X Ex π es as):SE X Ex π (.List es pos) (ah eT as):=gm S (fun σ H Q h=>WE.of (Ji (fK ns)) h) Ek
theorem Ie {es:List Expr}{as:List Arg}{pos:Pos}{k:Nat}(ns:es.all noStar=true)(S:aU X Ex π es as):SE X Ex π (.Tuple es k pos) (ah iZ as):=gm S (fun σ H Q h=>WE.of (Gz (fK ns)) h) Ei
/-! ### built-ins -/
def Br:DR:=fun ds P=>match ds with
 | [.list xs]=>P .sh (.int xs.length)
 | [.tuple xs]=>P .sh (.int xs.length)
 | _=>False
theorem ES {K:Frag}:cV K Br fun xs H Q=>∃ p ys,xs=[.ref p]/\(cu K H p ys\/cB K H p ys)/\Q (.int ys.length) H:=by
 intro H Hm vs ds P Q s r h q
 unfold Br at h
 split at h
 ·obtain ⟨x,rfl,h1⟩:=dR r
  cases h1 with
  | lst a r1=>exact ⟨_,_,rfl,.inl (cQ.mono s a).sq,by rw [r1.len];exact bN.sc q s h (.int _)⟩
 ·obtain ⟨x,rfl,h1⟩:=dR r
  cases h1 with
  | tup a r1=>exact ⟨_,_,rfl,.inr (cB.of (s _ _ a)),by rw [r1.len];exact bN.sc q s h (.int _)⟩
 ·exact h.elim
def iM:DR:=fun ds P=>match ds with
 | [.list xs]=>P (.ow false) (.list xs)
 | [.tuple xs]=>P (.ow false) (.list xs)
 | _=>False
theorem Cv {K:Frag}:cV K iM fun xs H Q=>∃ p ys,xs=[.ref p]/\(cu K H p ys\/cB K H p ys)/\∀ l,H l=none->Q (.ref l) (upd H l (.lst ys)):=by
 intro H Hm vs ds P Q s r h q
 unfold iM at h
 split at h
 ·obtain ⟨x,rfl,h1⟩:=dR r
  cases h1 with
  | lst a r1=>exact ⟨_,_,rfl,.inl (cQ.mono s a).sq,fun p hp=>bN.nl q s h hp r1⟩
 ·obtain ⟨x,rfl,h1⟩:=dR r
  cases h1 with
  | tup a r1=>exact ⟨_,_,rfl,.inr (cB.of (s _ _ a)),fun p hp=>bN.nl q s h hp r1⟩
 ·exact h.elim
def jl:DR:=fun ds P=>match ds with
 | [.list xs]=>P .sh (.tuple xs)
 | [.tuple xs]=>P .sh (.tuple xs)
 | _=>False
theorem zq {K:Frag}:cV K jl fun xs H Q=>∃ p ys,xs=[.ref p]/\((cu K H p ys/\∀ l,H l=none->Q (.ref l) (upd H l (.tup ys)))\/(cB K H p ys/\Q (.ref p) H)):=by
 intro H Hm vs ds P Q s r h q
 unfold jl at h
 split at h
 ·obtain ⟨x,rfl,h1⟩:=dR r
  cases h1 with
  | lst a r1=>exact ⟨_,_,rfl,.inl ⟨(cQ.mono s a).sq,fun p hp=>bN.nt q s h hp r1⟩⟩
 ·obtain ⟨x,rfl,h1⟩:=dR r
  cases h1 with
  | tup a r1=>exact ⟨_,_,rfl,.inr ⟨cB.of (s _ _ a),bN.sc q s h (.tup a r1)⟩⟩
 ·exact h.elim
def p9:DR:=lY fun i j=>.int (if j < i then j else i)
def pY:DR:=lY fun i j=>.int (if j > i then j else i)
theorem D0 {K:Frag}{f:Int->Int->Int}:cV K (lY fun i j=>.int (f i j)) fun xs H Q=>∃ i j,xs=[.int i,.int j]/\Q (.int (f i j)) H:=by
 intro H Hm vs ds P Q s r h q
 refine rA h fun a b e p=>?_
 subst e
 obtain ⟨x,y,rfl,h1,h2⟩:=cW r
 cases h1;cases h2
 exact ⟨a,b,rfl,bN.sc q s p (.int _)⟩
def vB:DR:=fun ds P=>match ds with
 | [.int i]=>P .sh (.int (if i < 0 then -i else i))
 | _=>False
theorem EF {K:Frag}:cV K vB fun xs H Q=>∃ i,xs=[.int i]/\Q (.int (if i < 0 then -i else i)) H:=by
 intro H Hm vs ds P Q s r h q
 unfold vB at h
 split at h
 ·obtain ⟨x,rfl,h1⟩:=dR r
  cases h1
  exact ⟨_,rfl,bN.sc q s h (.int _)⟩
 ·exact h.elim
def kX:DR:=fun ds P=>match ds with
 | [.int i]=>P .sh (.int i)
 | [.bool k]=>P .sh (.int (if k then 1 else 0))
 | _=>False
theorem zk {K:Frag}:cV K kX fun xs H Q=>(∃ i,xs=[.int i]/\Q (.int i) H)\/∃ k,xs=[.bl k]/\Q (.int (if k then 1 else 0)) H:=by
 intro H Hm vs ds P Q s r h q
 unfold kX at h
 split at h
 ·obtain ⟨x,rfl,h1⟩:=dR r
  cases h1
  exact .inl ⟨_,rfl,bN.sc q s h (.int _)⟩
 ·obtain ⟨x,rfl,h1⟩:=dR r
  cases h1
  exact .inr ⟨_,rfl,bN.sc q s h (.int _)⟩
 ·exact h.elim
theorem j8 {K:Frag}{H:Hp}:∀ {vs:List V}{ns:List Int},aA K H vs (ns.map PyData.int)->vs=ns.map V.int
 | _,[],h=>by cases h;rfl
 | _,n::ns,h=>by
  cases h with
  | cons h t=>cases h;rw [j8 t];rfl
theorem lT {K:Frag}{H:Hp}:∀ (ns:List Int),aA K H (ns.map V.int) (ns.map PyData.int)
 | []=>.nil
 | n::ns=>.cons (.int n) (lT ns)
theorem i7 {K:Frag}{H:Hp}{x:V}{ds:List PyData}(h:Rp K H x (.list ds)):∃ a xs,x=.ref a/\cQ K H a xs/\aA K H xs ds:=by
 cases h with
 | lst a r=>exact ⟨_,_,rfl,a,r⟩
def yU:DR:=fun ds P=>∃ ns:List Int,ds=[.list (ns.map .int)]/\P .sh (.int ns.sum)
theorem Fe {K:Frag}:cV K yU fun xs H Q=>∃ (a:Addr)(ns:List Int),xs=[.ref a]/\cu K H a (ns.map V.int)/\Q (.int ns.sum) H:=by
 rintro H Hm vs ds P Q s r ⟨ns,rfl,h⟩ q
 obtain ⟨x,rfl,h1⟩:=dR r
 obtain ⟨a,xs,rfl,ha,r1⟩:=i7 h1
 cases j8 r1
 exact ⟨a,ns,rfl,(cQ.mono s ha).sq,bN.sc q s h (.int _)⟩
def qB:DR:=fun ds P=>∃ ns:List Int,ds=[.list (ns.map .int)]/\ns≠[]/\∀ M,M∈ns->(∀ n∈ns,M<=n)->P .sh (.int M)
theorem Cu {K:Frag}:cV K qB fun xs H Q=>∃ (a:Addr)(ns:List Int),xs=[.ref a]/\cu K H a (ns.map V.int)/\ns≠[]/\∀ M,M∈ns->(∀ n∈ns,M<=n)->Q (.int M) H:=by
 rintro H Hm vs ds P Q s r ⟨ns,rfl,hn,h⟩ q
 obtain ⟨x,rfl,h1⟩:=dR r
 obtain ⟨a,xs,rfl,ha,r1⟩:=i7 h1
 cases j8 r1
 exact ⟨a,ns,rfl,(cQ.mono s ha).sq,hn,fun M m1 m2=>bN.sc q s (h M m1 m2) (.int _)⟩
def jr:DR:=fun ds P=>∃ ns:List Int,ds=[.list (ns.map .int)]/\ns.length < 64/\∀ ms:List Int,ms.Perm ns->ms.Pairwise (·<=·)->P (.ow false) (.list (ms.map .int))
theorem Be {K:Frag}:cV K jr fun xs H Q=>∃ (a:Addr)(ns:List Int),xs=[.ref a]/\cu K H a (ns.map V.int)/\ns.length < 64/\∀ (ms:List Int)(p:Addr),ms.Perm ns->ms.Pairwise (·<=·)->H p=none->Q (.ref p) (upd H p (.lst (ms.map V.int))):=by
 rintro H Hm vs ds P Q s r ⟨ns,rfl,hn,h⟩ q
 obtain ⟨x,rfl,h1⟩:=dR r
 obtain ⟨a,xs,rfl,ha,r1⟩:=i7 h1
 cases j8 r1
 exact ⟨a,ns,rfl,(cQ.mono s ha).sq,hn,fun ms p m1 m2 hp=>bN.nl q s (h ms m1 m2) hp (lT ms)⟩
def pD (p:Int×Int):PyData:=.tuple [.int p.1,.int p.2]
/-! ### list(range(n)) -/
inductive w4 (vs:List V)(H:Hp)(Q:VK):Prop
 | mk:∀ j:Int,(vs=[.int j])->(∀ p,H p=none->0<=j/\j<=1000/\∀ l,upd H p (.oN 0 j) l=none->Q (.ref l) (upd (upd H p (.oN 0 j)) l (.lst (((List.range j.toNat).map fun i:Nat=>(i:Int)).map V.int))))->w4 vs H Q
def AW:List V->Hp->VK->Prop:=fun vs H Q=>w4 vs H Q
def iu:DR:=fun ds P=>match ds with
 | [.int j]=>(0<=j/\j<=1000)/\P (.ow false) (.list (jD 0 j.toNat))
 | _=>False
theorem FT {K:Frag}{H:Hp} (n:Nat):aA K H (((List.range n).map fun i:Nat=>(i:Int)).map V.int) (jD 0 n):=by
 have:=lT (K:=K) (H:=H) ((List.range n).map fun i:Nat=>(i:Int))
 rw [List.map_map (l:=List.range n) (g:=PyData.int)] at this
 unfold jD
 rw [show (fun i:Nat=>PyData.int (0 + i))=PyData.int ∘ fun i:Nat=>(i:Int) from funext fun i=>by simp]
 exact this
theorem A1 {K:Frag}:cV K iu AW:=by
 intro H Hm vs ds P Q s r h q
 unfold iu at h
 split at h
 ·obtain ⟨x,rfl,h1⟩:=dR r
  cases h1
  rename_i j
  refine ⟨j,rfl,fun p hp=>⟨h.1.1,h.1.2,fun l hl=>?_⟩⟩
  have s1:=cX (o:=.oN 0 j) hp
  have s2:=cX (o:=.lst (((List.range j.toNat).map fun i:Nat=>(i:Int)).map V.int)) hl
  refine q _ _ _ _ Hm [l] h.2 (s1.trans s2) (aj.refl _) (s.trans (s1.trans s2)) (fun _ _=>.inl rfl) (.ow aL (FT _)) fun a ha=>?_
  rw [List.mem_singleton.mp ha]
  have:H l=none:=s1.free hl
  exact ⟨this,jk s this⟩
 ·exact h.elim
theorem B9 {p1 p2 pos pos2:Pos}{a:Expr}{as:List Arg}(hc:X.calm=true)(g1:Gl X "list")(m1:X.mg "list"=none)(g2:Gl X "range")(m2:X.mg "range"=none)(ns:noStar a=true)(S:aU X Ex π [a] as) :
  SE X Ex π (.Call (.Name "list" p1) [.Call (.Name "range" p2) [a] [] pos2] [] pos) (ah iu as) :=
 gm (r:=AW) S (fun σ H Q h=>WE.of (m8 (yf hc) g1 m1 PyProof.Rows.boot_list (jF (m8 v7 g2 m2 PyProof.Rows.boot_range (fK (es:=[a]) (by rw [List.all_cons,ns];rfl)) (by decide) (by decide) (b5 ns) (by rfl)) mX)) (by
  refine fun pins s I=>aG (h pins s I) fun v s1 ⟨x,H1,I1,r1,j,e,q⟩=>⟨x,H1,I1,r1,?_⟩
  cases e
  refine ⟨j,rfl,fun p hp=>?_⟩
  obtain ⟨q1,q2,q3⟩:=q p hp
  exact ⟨p,j,rfl,aL,q1,q2,q3⟩)) A1
end
end Dv
namespace Dv
open PySem L2 PySem.W
inductive Ag (K:Frag)(H Hm:Hp):List Bool->List V->List PyData->List Addr->Prop
 | nil:Ag K H Hm [] [] [] []
 | sh {ms:List Bool}{vs:List V}{ds:List PyData}{as:List Addr}{v:V}{d:PyData}:Rp K Hm v d->Ag K H Hm ms vs ds as->Ag K H Hm (false::ms) (v::vs) (d::ds) as
 | mu {ms:List Bool}{vs:List V}{ds:List PyData}{as:List Addr}{a:Addr}{xs:List V}{es:List PyData}:H a=some (.lst xs)->aA K Hm xs es->Hm a=none->a∉as->Ag K H Hm ms vs ds as->Ag K H Hm (true::ms) (.ref a::vs) (.list es::ds) (a::as)
inductive Bk (K:Frag)(H Hm:Hp):List Addr->List PyData->Prop
 | nil:Bk K H Hm [] []
 | cons {a:Addr}{xs:List V}{es:List PyData}{as:List Addr}{us:List PyData}:H a=some (.lst xs)->aA K Hm xs es->Hm a=none->Bk K H Hm as us->Bk K H Hm (a::as) (.list es::us)
def aD (mg:Str->Option Value)(K:Frag)(ms:List Bool)(sp:bW):Sp:=fun vs H Q Ex=>∃ (ds:List PyData)(as:List Addr)(Hm:Hp)(P:List PyData->Kd->PyData->Prop)(x:XC),aj Hm H/\Ag K H Hm ms vs ds as/\sp ds P x /\
 (∀ us k r u H' Hm' fp,P us k r->aj Hm Hm'->aj Hm' H'->(∀ p o,p∉as->H p=some o->H' p=some o)->(∀ a,a∉as->H a≠none->OE (Hm' a) (Hm a))->Bk K H' Hm' as us->Own K H' Hm' k u r fp->(∀ a∈fp,H a=none/\Hm' a=none)->Q u H') /\
 (∀ c d C a H',mg c=some (.ref C)->x c d->(∀ p o,p∉as->H p=some o->H' p=some o)->H' a=some (.ext (mj a C none))->H a=none->Ex (.ref C) (some a) H')
section
variable {K:Frag}{g:Gh}{σ:St}
theorem ua {E:En}{H Hm Hm1:Hp}{F:Nat->List Addr}(R:Rl K g E σ H Hm F)(s:aj Hm Hm1):∀ {ms:List Bool}{as:List Arg}{os:List (Option PyData)}{vs:List V}{ds:List PyData},Got K σ Hm as os vs->fill as E os=some ds->shape ms as=true->(lent ms as).Nodup ->
  (∀ i∈lent ms as,∃ p es,E[i]?=some (some (.ow p,.list es)))->(∀ i∈kept ms as,∀ a∈F i,Hm1 a=H a)->(∀ i∈lent ms as,∀ a∈F i,Hm1 a=none) ->
  ∃ ix:List (Nat×Addr),ix.map (·.1)=lent ms as/\Ag K H Hm1 ms vs ds (ix.map (·.2))/\∀ q∈ix,σ[q.1]?=some (some (.ref q.2))/\F q.1=[q.2]
 | [],_,_,_,_,.nil,h,_,_,_,_,_=>by cases h;exact ⟨[],rfl,.nil,fun _ z=>by cases z⟩
 | false::ms,_,_,_,_,.pk (i:=i) (as:=as) (os:=os) hv G,h,sh,nd,hl,hk,hn=>by
  rw [fill] at h
  split at h
  ·rename_i k d e
   by_cases hr:k.rd=true
   ·rw [if_pos hr] at h
    cases hf:fill as E os with
    | none=>rw [hf] at h;cases h
    | some es =>
     rw [hf] at h
     cases h
     obtain ⟨v',h1,h2⟩:=R.slot i k d e
     rw [hv] at h1
     cases h1
     obtain ⟨ix,e1,e2,e3⟩:=ua R s (ms:=ms) G hf sh nd hl (fun j hj=>hk j (List.mem_cons_of_mem _ hj)) hn
     exact ⟨ix,e1,.sh (h2.rp hr s (hk i List.mem_cons_self)) e2,e3⟩
   ·rw [if_neg hr] at h;cases h
  ·cases h
 | true::ms,_,_,_,_,.pk (i:=i) (as:=as) (os:=os) hv G,h,sh,nd,hl,hk,hn=>by
  rw [fill] at h
  obtain ⟨p,es0,e0⟩:=hl i List.mem_cons_self
  rw [e0] at h
  have h:(if (Kd.ow p).rd=true then (fill as E os).map (PyData.list es0::·) else none)=some _:=h
  rw [if_pos (show (Kd.ow p).rd=true from rfl)] at h
  cases hf:fill as E os with
  | none=>rw [hf] at h;cases h
  | some es =>
   rw [hf] at h
   cases h
   obtain ⟨v',h1,h2⟩:=R.slot i _ _ e0
   rw [hv] at h1
   cases h1
   have nd':=List.nodup_cons.mp (show (i::lent ms as).Nodup from nd)
   obtain ⟨ix,e1,e2,e3⟩:=ua R s (ms:=ms) G hf sh nd'.2 (fun j hj=>hl j (List.mem_cons_of_mem _ hj)) hk (fun j hj=>hn j (List.mem_cons_of_mem _ hj))
   have hFi:=hn i List.mem_cons_self
   generalize hF:F i=fi at h2 hFi
   cases h2 with
   | @ow _ a xs _ ha hr =>
    refine ⟨(i,a)::ix,?_,.mu ha (hr.mono s) (hFi a List.mem_cons_self) ?_ e2,?_⟩
    ·show i::ix.map (·.1)=i::lent ms as
     rw [e1]
    ·intro m
     obtain ⟨q,hq,rfl⟩:=List.mem_map.mp m
     have:=R.aR i q.1 q.2 (by rw [hF];exact List.mem_cons_self) (by rw [(e3 q hq).2];exact List.mem_cons_self)
     exact nd'.1 (e1 ▸ (this ▸ List.mem_map.mpr ⟨q,hq,rfl⟩))
    ·intro q hq
     rcases List.mem_cons.mp hq with rfl | hq
     ·exact ⟨hv,hF⟩
     ·exact e3 q hq
 | false::ms,_,_,_,_,.ev (as:=as) (os:=os) r G,h,sh,nd,hl,hk,hn=>by
  rw [fill] at h
  cases hf:fill as E os with
  | none=>rw [hf] at h;cases h
  | some es =>
   rw [hf] at h
   cases h
   obtain ⟨ix,e1,e2,e3⟩:=ua R s (ms:=ms) G hf sh nd hl hk hn
   exact ⟨ix,e1,.sh (r.mono s) e2,e3⟩
 | true::ms,_,_,_,_,.ev _ _,_,sh,_,_,_,_=>by cases sh
 | true::_,[],[],[],_,.nil,_,sh,_,_,_,_=>by cases sh
 | false::_,[],[],[],_,.nil,_,sh,_,_,_,_=>by cases sh
 | [],_,_,_,_,.pk _ _,_,sh,_,_,_,_=>by cases sh
 | [],_,_,_,_,.ev _ _,_,sh,_,_,_,_=>by cases sh
theorem lR:∀ {ms:List Bool}{as:List Arg}{us:List PyData}{E E2:En},gZ ms as us E=some E2->(lent ms as).Nodup->E2.length=E.length/\(∀ j,j∉lent ms as->E2[j]?=E[j]?)/\(lent ms as).length=us.length /\
  ∀ (n i:Nat)(u:PyData),(lent ms as)[n]?=some i->us[n]?=some u->∃ p es es',u=.list es'/\E[i]?=some (some (.ow p,.list es))/\E2[i]?=some (some (.ow p,.list es'))
 | [],[],[],E,E2,h,_=>by cases h;exact ⟨rfl,fun _ _=>rfl,rfl,fun _ _ _ z=>by cases z⟩
 | [],[],_::_,E,E2,h,_=>by cases h
 | [],_::_,_,E,E2,h,_=>by cases h
 | false::ms,.pk j::r,us,E,E2,h,nd=>lR (ms:=ms) (as:=r) (us:=us) h nd
 | false::ms,.ev _::r,us,E,E2,h,nd=>lR (ms:=ms) (as:=r) (us:=us) h nd
 | false::ms,[],us,E,E2,h,_=>by cases h
 | true::ms,[],us,E,E2,h,_=>by cases h
 | true::ms,.ev _::r,us,E,E2,h,_=>by cases h
 | true::ms,.pk i::r,[],E,E2,h,_=>by cases h
 | true::ms,.pk i::r,u::us,E,E2,h,nd=>by
  rw [gZ] at h
  obtain ⟨n1,n2⟩:=List.nodup_cons.mp (show (i::lent ms r).Nodup from nd)
  split at h
  ·rename_i p es e
   by_cases hu:zf u=true
   ·rw [if_pos hu] at h
    cases u with
    | list es' =>
     have li:i < E.length:=by
      rcases Nat.lt_or_ge i E.length with h | h
      ·exact h
      ·rw [List.getElem?_eq_none h] at e;cases e
     obtain ⟨l1,g1,l2,g2⟩:=lR (ms:=ms) (as:=r) (us:=us) h n2
     rw [List.length_set] at l1
     refine ⟨l1,fun j hj=>?_,congrArg (· + 1) l2,fun n j v h1 h2=>?_⟩
     ·have hj':j∉lent ms r:=fun z=>hj (List.mem_cons_of_mem _ z)
      have hne:i≠j:=fun z=>hj (z ▸ List.mem_cons_self)
      rw [g1 j hj',ao hne]
     ·cases n with
      | zero =>
       cases h1
       cases h2
       exact ⟨p,es,es',rfl,e,by rw [g1 i n1,aF li]⟩
      | succ n =>
       have h1:(lent ms r)[n]?=some j:=h1
       have h2:us[n]?=some v:=h2
       obtain ⟨p',fs,fs',e1,e2,e3⟩:=g2 n j v h1 h2
       have hne:i≠j:=fun z=>n1 (z ▸ List.mem_of_getElem? h1)
       rw [ao hne] at e2
       exact ⟨p',fs,fs',e1,e2,e3⟩
    | _=>cases hu
   ·rw [if_neg hu] at h;cases h
  ·cases h
theorem Bk.get {H Hm:Hp}:∀ {as:List Addr}{us:List PyData}{n:Nat}{a:Addr},Bk K H Hm as us->as[n]?=some a->∃ xs es,us[n]?=some (.list es)/\H a=some (.lst xs)/\aA K Hm xs es/\Hm a=none
 | _,_,_,_,.nil,h=>by simp at h
 | _,_,0,_,.cons h1 h2 h3 _,h=>by simp at h;subst h;exact ⟨_,_,rfl,h1,h2,h3⟩
 | _,_,n + 1,_,.cons _ _ _ t,h=>t.get (n:=n) (by simpa using h)
theorem yF {E E2 E3:En}{H H' Hm Hm2:Hp}{F:Nat->List Addr}{is:List Nat}{ix:List (Nat×Addr)}{us:List PyData}{k:Kd}{u:V}{v:PyData}{fp:List Addr}(R:Rl K g E σ H Hm F)
  (hix:∀ q∈ix,σ[q.1]?=some (some (.ref q.2))/\F q.1=[q.2])(hik:∀ q∈ix,q.1∉is)(l2:E2.length=E.length)(hs:∀ j,j∉ix.map (·.1)->E2[j]?=E[j]?)
  (hu:∀ q∈ix,∃ p es xs' es',PyData.list es'∈us/\E[q.1]?=some (some (.ow p,.list es))/\E2[q.1]?=some (some (.ow p,.list es'))/\H' q.2=some (.lst xs')/\aA K Hm2 xs' es'/\Hm2 q.2=none)
  (hE:(if (flat k v && us.all (flat (.ow false)))=true then some E2 else cU is E2)=some E3)(s1:aj (lend Hm H (is.flatMap F)) Hm2)(s2:aj Hm2 H')(sH:∀ p o,p∉ix.map (·.2)->H p=some o->H' p=some o)
  (old:∀ a,a∉ix.map (·.2)->H a≠none->OE (Hm2 a) (lend Hm H (is.flatMap F) a))(o:Own K H' Hm2 k u v fp)(fr:∀ a∈fp,H a=none/\Hm2 a=none) :
  ∃ Hm' F',Rl K g E3 σ H' Hm' F'/\aj Hm Hm'/\Tm K g F' H' Hm' k u v fp:=by
 have mem:∀ {a i},a∈F i->i∈is->a∈is.flatMap F:=fun ha hi=>List.mem_flatMap.mpr ⟨_,hi,ha⟩
 have off:∀ a∈is.flatMap F,Hm a=none:=fun a ha=>by
  obtain ⟨i,_,h⟩:=List.mem_flatMap.mp ha
  exact R.off i a h
 have up:aj Hm (lend Hm H (is.flatMap F)):=i9 off
 have bI:∀ {i a},a∈F i->H a≠none:=fun ha z=>by
  obtain ⟨u,hu,_⟩:=R.bI _ _ ha
  rw [z] at hu
  cases hu
 have own:∀ q∈ix,q.2∈F q.1:=fun q hq=>by rw [(hix q hq).2];exact List.mem_cons_self
 have lentF:∀ {i a},a∈F i->a∈ix.map (·.2)->i∈ix.map (·.1):=fun {i a} ha m=>by
  obtain ⟨q,hq,rfl⟩:=List.mem_map.mp m
  exact List.mem_map.mpr ⟨q,hq,(R.aR i q.1 q.2 ha (own q hq)).symm⟩
 have lis:∀ a,a∈ix.map (·.2)->a∉is.flatMap F:=fun a m z=>by
  obtain ⟨q,hq,rfl⟩:=List.mem_map.mp m
  obtain ⟨i,hi,h⟩:=List.mem_flatMap.mp z
  exact hik q hq (R.aR i q.1 q.2 h (own q hq) ▸ hi)
 have nfp:∀ a∈fp,∀ i,a∉F i:=fun a ha i=>R.fresh (fr a ha).1
 have m2:∀ {a},H a≠none->a∉is.flatMap F->(a∉ix.map (·.2)/\OE (Hm2 a) (Hm a))\/(a∈ix.map (·.2)/\Hm2 a=none):=fun {a} h c=>by
  by_cases z:a∈ix.map (·.2)
  ·obtain ⟨q,hq,rfl⟩:=List.mem_map.mp z
   obtain ⟨_,_,_,_,_,_,_,_,_,e⟩:=hu q hq
   exact .inr ⟨z,e⟩
  ·refine .inl ⟨z,?_⟩
   have h':=old a z h
   rw [dG c] at h'
   exact h'
 have offI:∀ {i a},a∈F i->a∉is.flatMap F->Hm2 a=none:=fun {i a} ha c=>by
  rcases m2 (bI ha) c with ⟨z,e⟩ | ⟨_,e⟩
  ·obtain ⟨w,hw,nt⟩:=R.bI i a ha
   exact e.off (R.off i a ha) s2 (sH a w z hw) nt
  ·exact e
 have od:∀ {a},g.H0 a≠none->a∉is.flatMap F->OE (Hm2 a) (g.gn a):=fun {a} h c=>by
  rcases m2 (R.qD h) c with ⟨_,e⟩ | ⟨z,e⟩
  ·exact e.trans (R.old a h)
  ·obtain ⟨q,hq,rfl⟩:=List.mem_map.mp z
   have h':=R.old _ h
   rw [R.off q.1 q.2 (own q hq)] at h'
   rw [e]
   exact h'
 have hliv:∀ {i a},a∈F i->∃ w,H' a=some w/\oQ w:=fun {i a} ha=>by
  by_cases z:a∈ix.map (·.2)
  ·obtain ⟨q,hq,rfl⟩:=List.mem_map.mp z
   obtain ⟨_,_,_,_,_,_,_,e,_,_⟩:=hu q hq
   exact ⟨_,e,kZ⟩
  ·obtain ⟨w,hw,nt⟩:=R.bI i a ha
   exact ⟨w,sH a w z hw,nt⟩
 have keepH:∀ {j a},j∉ix.map (·.1)->a∈F j->H' a=H a:=fun {j a} hj ha=>by
  obtain ⟨w,hw,_⟩:=R.bI j a ha
  rw [hw]
  exact sH a w (fun z=>hj (lentF ha z)) hw
 have frm:∀ p o,p∉g.M->g.H0 p=some o->H' p=some o:=fun p o hp ho=>by
  refine sH p o (fun z=>?_) (R.fr p o hp ho)
  obtain ⟨q,hq,rfl⟩:=List.mem_map.mp z
  rcases R.new q.1 q.2 (own q hq) with y | y
  ·exact hp y
  ·rw [y] at ho;cases ho
 have pinn:∀ {E4:En},(∀ j,j∉is->E4[j]?=E2[j]?)->(∀ j∈is,E4[j]?=E2[j]?\/∃ k d,E2[j]?=some (some (k,d))/\k.fz=true)->∀ q∈g.pins,σ[q.1]?=some (some (.ref q.2))/\∃ ds,E4[q.1]?=some (some (.ow true,.list ds)):=fun {E4} h4 h5 q hq=>by
  obtain ⟨h1,ds',h2⟩:=R.pin q hq
  refine ⟨h1,?_⟩
  have e2:∃ ds,E2[q.1]?=some (some (.ow true,.list ds)):=by
   by_cases z:q.1∈ix.map (·.1)
   ·obtain ⟨q',hq',e⟩:=List.mem_map.mp z
    obtain ⟨p,es,xs',es',_,g1,g2,_⟩:=hu q' hq'
    rw [e,h2] at g1
    cases g1
    exact ⟨es',e ▸ g2⟩
   ·exact ⟨ds',by rw [hs _ z];exact h2⟩
  obtain ⟨ds,e2⟩:=e2
  by_cases z:q.1∈is
  ·rcases h5 _ z with y | ⟨k0,d0,y,yk⟩
   ·exact ⟨ds,y.trans e2⟩
   ·rw [e2] at y
    cases y
    cases yk
  ·exact ⟨ds,(h4 _ z).trans e2⟩
 by_cases hf:(flat k v && us.all (flat (.ow false)))=true
 ·rw [if_pos hf] at hE
  cases hE
  rw [Bool.and_eq_true,List.all_eq_true] at hf
  have st:kC Hm2 (back Hm2 (is.flatMap F)):=fun a xs h=>by
   have c:a∉is.flatMap F:=fun z=>by
    obtain ⟨i,_,hi⟩:=List.mem_flatMap.mp z
    obtain ⟨w,hw,nt⟩:=R.bI i a hi
    have e2:Hm2 a=some w:=s1 _ _ (by rw [fR z];exact hw)
    rw [e2] at h
    cases h
    exact nt xs rfl
   rw [dF c]
   exact h
  have upB:aj Hm (back Hm2 (is.flatMap F)):=fun b o e=>by
   rw [dF fun z=>by rw [off b z] at e;cases e]
   exact s1 _ _ (up _ _ e)
  have R':Rl K g E2 σ H' (back Hm2 (is.flatMap F)) F:={
   len:=l2.trans R.len
   sub:=vt s2
   slot:=fun j k' d' e'=>by
    by_cases z:j∈ix.map (·.1)
    ·obtain ⟨q,hq,rfl⟩:=List.mem_map.mp z
     obtain ⟨p,es,xs',es',mu,g1,g2,g3,g4,_⟩:=hu q hq
     rw [g2] at e'
     cases e'
     obtain ⟨h1,h2⟩:=hix q hq
     exact ⟨_,h1,by rw [h2];exact .ow g3 (g4.uX st (hf.2 _ mu))⟩
    ·rw [hs j z] at e'
     obtain ⟨v',h1,h2⟩:=R.slot j k' d' e'
     exact ⟨v',h1,h2.step upB fun a ha=>keepH z ha⟩
   off:=fun i a ha=>by
    by_cases c:a∈is.flatMap F
    ·exact iV c
    ·rw [dF c];exact offI ha c
   bI:=fun i a ha=>hliv ha
   aR:=R.aR
   fr:=frm
   new:=R.new
   pin:=pinn (fun j _=>rfl) fun j _=>.inl rfl
   old:=fun a ha=>by
    by_cases c:a∈is.flatMap F
    ·have h':=R.old a ha
     rw [off a c] at h'
     rw [iV c]
     exact h'
    ·rw [dF c];exact od ha c }
  refine ⟨_,F,R',upB,⟨o.flat st hf.1,fun a ha=>?_,nfp,fun a ha=>R.gF (fr a ha).1⟩⟩
  by_cases c:a∈is.flatMap F
  ·exact iV c
  ·rw [dF c];exact (fr a ha).2
 ·rw [if_neg hf] at hE
  obtain ⟨l3,g3⟩:=lW hE
  have R':Rl K g E3 σ H' Hm2 (fun j=>if j∈is then [] else F j):={
   len:=l3.trans (l2.trans R.len)
   sub:=s2
   slot:=fun j k' d' e'=>by
    by_cases c:j∈is
    ·obtain ⟨k0,d0,e0,hk0,e1⟩:=(g3 j).2 c
     rw [e1] at e'
     cases e'
     have z:j∉ix.map (·.1):=fun z=>by
      obtain ⟨q,hq,rfl⟩:=List.mem_map.mp z
      exact hik q hq c
     rw [hs j z] at e0
     obtain ⟨v',h1,h2⟩:=R.slot j k0 _ e0
     refine ⟨v',h1,?_⟩
     rw [if_pos c]
     exact .sh ((h2.rp (by cases k0 <;> first | rfl | cases hk0) up fun a ha=>fR (mem ha c)).mono s1)
    ·rw [(g3 j).1 c] at e'
     rw [if_neg c]
     by_cases z:j∈ix.map (·.1)
     ·obtain ⟨q,hq,rfl⟩:=List.mem_map.mp z
      obtain ⟨p,es,xs',es',mu,g1,g2,g4,g5,_⟩:=hu q hq
      rw [g2] at e'
      cases e'
      obtain ⟨h1,h2⟩:=hix q hq
      exact ⟨_,h1,by rw [h2];exact .ow g4 g5⟩
     ·rw [hs j z] at e'
      obtain ⟨v',h1,h2⟩:=R.slot j k' d' e'
      exact ⟨v',h1,h2.step (up.trans s1) fun a ha=>keepH z ha⟩
   off:=fun j a ha=>by
    by_cases c:j∈is
    ·rw [if_pos c] at ha;cases ha
    ·rw [if_neg c] at ha
     exact offI ha fun z=>by
      obtain ⟨i,hi,h⟩:=List.mem_flatMap.mp z
      exact c (R.aR i j a h ha ▸ hi)
   bI:=fun j a ha=>by
    by_cases c:j∈is
    ·rw [if_pos c] at ha;cases ha
    ·rw [if_neg c] at ha;exact hliv ha
   aR:=fun j l a h1 h2=>by
    by_cases c:j∈is
    ·rw [if_pos c] at h1;cases h1
    ·rw [if_neg c] at h1
     by_cases c':l∈is
     ·rw [if_pos c'] at h2;cases h2
     ·rw [if_neg c'] at h2;exact R.aR j l a h1 h2
   fr:=frm
   new:=fun j a ha=>by
    by_cases c:j∈is
    ·rw [if_pos c] at ha;cases ha
    ·rw [if_neg c] at ha;exact R.new j a ha
   pin:=pinn (fun j hj=>(g3 j).1 hj) fun j hj=>by
    obtain ⟨k0,d0,e0,hk0,_⟩:=(g3 j).2 hj
    exact .inr ⟨k0,d0,e0,hk0⟩
   old:=fun a ha=>by
    refine od ha fun z=>?_
    obtain ⟨i,hi,h⟩:=List.mem_flatMap.mp z
    obtain ⟨k0,d0,e0,hk0,_⟩:=(g3 i).2 hi
    have zi:i∉ix.map (·.1):=fun z=>by
     obtain ⟨q,hq,rfl⟩:=List.mem_map.mp z
     exact hik q hq hi
    rw [hs i zi] at e0
    exact ha (R.notM e0 (by cases k0 <;> first | rfl | (rename_i p;cases p <;> first | rfl | cases hk0) | cases hk0) h) }
  refine ⟨Hm2,_,R',up.trans s1,⟨o,fun a ha=>(fr a ha).2,fun a ha i=>?_,fun a ha=>R.gF (fr a ha).1⟩⟩
  by_cases c:i∈is
  ·rw [if_pos c];simp
  ·rw [if_neg c];exact nfp a ha i
end
section
variable {X:Cx}{Ex:XK}{π:List Nat}
theorem EG {x:Str}{k:Nat}{ps:List Str}{ms:List Bool}{sp:bW}{p pos:Pos}{e:Expr}{es:List Expr}{as:List Arg}(F:aJ X.prog X.w X.K X.mg X.base k x ps (aD X.mg X.K ms sp))(hp:Passes (bT X.prog X.w) X Ex)(hr:d9 k X.A)(hg:Gl X x)(hd:(x == ("__debug__":Str))=false)
  (ns:(e::es).all noStar=true)(S:aU X Ex π (e::es) as):SE X Ex π (.Call (.Name x p) (e::es) [] pos) (aX sp ms as):=by
 intro g xc E σ H Hm Fo P Q hx R h q
 obtain ⟨f,fd,h1,h2,h3,h4⟩:=F
 refine WE.of (EU (E:=Ex) h4 hr hg h1 h2 h3 .nil hp (fK ns) hd (b5 (by rw [List.all_cons,Bool.and_eq_true] at ns;exact ns.1)) (iW (by rw [List.all_cons,Bool.and_eq_true] at ns;exact ns.2))) ?_
 refine jW hx S R h fun E1 os vs H1 Hm1 F1 p R1 s1 G=>?_
 obtain ⟨ds,hf,hl,hsp⟩:=p
 unfold nF at hl
 rw [Bool.and_eq_true,Bool.and_eq_true,decide_eq_true_eq,List.all_eq_true] at hl
 obtain ⟨⟨l1,l2⟩,l3⟩:=hl
 have hlent:∀ i∈lent ms as,i∉kept ms as/\∃ p es,E1[i]?=some (some (.ow p,.list es)):=fun i hi=>by
  have:=l3 i hi
  rw [Bool.and_eq_true] at this
  refine ⟨fun z=>?_,?_⟩
  ·have y:=this.1
   rw [Bool.not_eq_true',List.contains_eq_mem] at y
   simp [z] at y
  ·have y:=this.2
   split at y
   ·rename_i p es e
    exact ⟨p,es,e⟩
   ·cases y
 have off:∀ a∈(kept ms as).flatMap F1,Hm1 a=none:=fun a ha=>by
  obtain ⟨i,_,h⟩:=List.mem_flatMap.mp ha
  exact R1.off i a h
 have up:=i9 (Hm:=Hm1) (H:=H1) off
 obtain ⟨ix,e1,e2,e3⟩:=ua R1 up (ms:=ms) G hf l1 l2 (fun i hi=>(hlent i hi).2) (fun i hi a ha=>fR (List.mem_flatMap.mpr ⟨i,hi,ha⟩)) fun i hi a ha=>by
  rw [dG fun z=>by
   obtain ⟨j,hj,h⟩:=List.mem_flatMap.mp z
   exact (hlent i hi).1 (R1.aR j i a h ha ▸ hj)]
  exact R1.off i a ha
 show aD X.mg X.K ms sp (vs++[]) H1 Q Ex
 rw [List.append_nil]
 refine ⟨ds,ix.map (·.2),lend Hm1 H1 ((kept ms as).flatMap F1),_,xc,j6 R1.sub,e2,hsp,fun us k r u H' Hm' fp p sM sS fr old bk o new=>?_,fun c d C a H' hC hxc fr ha hn=>?_⟩
 ·obtain ⟨E2,E3,hu,ha,p⟩:=p
  obtain ⟨u1,u2,u3,u4⟩:=lR hu l2
  have hu':∀ q∈ix,∃ p es xs' es',PyData.list es'∈us/\E1[q.1]?=some (some (.ow p,.list es))/\E2[q.1]?=some (some (.ow p,.list es'))/\H' q.2=some (.lst xs')/\aA X.K Hm' xs' es'/\Hm' q.2=none:=fun q hq=>by
   obtain ⟨n,hn⟩:=List.getElem?_of_mem hq
   have hn1:(lent ms as)[n]?=some q.1:=by rw [<- e1,List.getElem?_map,hn];rfl
   have hn2:(ix.map (·.2))[n]?=some q.2:=by rw [List.getElem?_map,hn];rfl
   obtain ⟨xs',es',g1,g2,g3,g4⟩:=bk.get hn2
   obtain ⟨p',es,es'',g5,g6,g7⟩:=u4 n q.1 _ hn1 g1
   cases g5
   exact ⟨p',es,xs',es',List.mem_of_getElem? g1,g6,g7,g2,g3,g4⟩
  obtain ⟨Hm'',F'',R'',s'',T⟩:=yF R1 (is:=kept ms as) (ix:=ix) (us:=us) e3 (fun q hq=>(hlent q.1 (e1 ▸ List.mem_map.mpr ⟨q,hq,rfl⟩)).1) u1 (fun j hj=>u2 j (e1 ▸ hj)) hu' (vf ha) sM sS fr old o new
  exact q _ _ _ _ _ _ _ _ p R'' (s1.trans s'') T
 ·refine hx c d C a H' hC hxc (fun p o hp ho=>?_) ha (R1.gF hn)
  refine fr p o (fun z=>?_) (R1.fr p o hp ho)
  obtain ⟨q,hq,rfl⟩:=List.mem_map.mp z
  rcases R1.new q.1 q.2 (by rw [(e3 q hq).2];exact List.mem_cons_self) with y | y
  ·exact hp y
  ·rw [y] at ho;cases ho
end
end Dv
namespace Dv
open PySem L2 PySem.W
def WS (X:Cx)(st:Stmt):TS:=fun D σ H=>∀ (pins:List (Addr×Obj))(s:Shared),Inv X pins σ H s->wpAny (model X.prog X.w) X.A (exec st X.env) (SP X pins D) X.xe s
def oJ (X:Cx)(st:List Stmt):TS:=fun D σ H=>∀ (pins:List (Addr×Obj))(s:Shared),Inv X pins σ H s->wpAny (model X.prog X.w) X.A (execs st X.env) (SP X pins D) X.xe s
theorem yW {X:Cx}{st:Stmt}:PS X st (WS X st):=fun pins s _ _ _ I h=>h pins s I
theorem i8 {X:Cx}{st:List Stmt}:mE X st (oJ X st):=fun pins s _ _ _ I h=>h pins s I
theorem WS.of {X:Cx}{st:Stmt}{t:TS}{D:Ends}{σ:St}{H:Hp}(h:PS X st t)(q:t D σ H):WS X st D σ H:=fun pins s I=>h pins s σ H D I q
theorem oJ.of {X:Cx}{st:List Stmt}{t:TS}{D:Ends}{σ:St}{H:Hp}(h:mE X st t)(q:t D σ H):oJ X st D σ H:=fun pins s I=>h pins s σ H D I q
theorem bR {α:Type}{l:List α}{i:Nat}{a:α}(h:l[i]?=some a):i < l.length:=by
 rcases Nat.lt_or_ge i l.length with z | z
 ·exact z
 ·rw [List.getElem?_eq_none z] at h;cases h
theorem lH {π:List Nat}{σ:St}{j i:Nat}{v:Option V}(nd:π.Nodup)(h:π[j]?=some i)(hi:i < σ.length):(sel π σ).set j v=sel π (σ.set i v):=by
 have lj:j < π.length:=bR h
 refine List.ext_getElem? fun k=>?_
 by_cases c:k=j
 ·subst c
  rw [aF (by unfold sel;rw [List.length_map];exact lj)]
  unfold sel
  rw [List.getElem?_map,h]
  show some v=some ((σ.set i v)[i]?).join
  rw [aF hi]
  rfl
 ·rw [ao (Ne.symm c)]
  unfold sel
  rw [List.getElem?_map,List.getElem?_map]
  cases e:π[k]? with
  | none=>rfl
  | some m =>
   have ne:i≠m:=fun z=>c (by
    have h1:=List.getElem?_eq_some_iff.mp e
    have h2:=List.getElem?_eq_some_iff.mp h
    obtain ⟨l1,e1⟩:=h1
    obtain ⟨l2,e2⟩:=h2
    exact (List.getElem_inj nd).mp (e1.trans (z.symm.trans e2.symm)))
   show some (σ[m]?).join=some ((σ.set i v)[m]?).join
   rw [ao ne]
abbrev aT (X:Cx):List Nat:=List.range X.N.length
def KC (X:Cx)(Ex:XK)(w:TS)(d:DS):Prop :=
 ∀ (g:Gh)(D':bY)(E:En)(σ:St)(H Hm:Hp)(F:Nat->List Addr)(D:Ends),XL X Ex D'.xc g->Rl X.K g E σ H Hm F->d D' E ->
  (∀ E' σ' H' Hm' F',D'.nx E'->Rl X.K g E' σ' H' Hm' F'->aj Hm Hm'->D.nx (sel (aT X) σ') H') ->
  (∀ E' k v u σ' H' Hm' F' fp,D'.rt E' k v->Rl X.K g E' σ' H' Hm' F'->Tm X.K g F' H' Hm' k u v fp->D.rt u H')->w D (sel (aT X) σ) H
abbrev S1 (X:Cx)(Ex:XK)(st:Stmt)(d:DS):Prop:=KC X Ex (WS X st) d
abbrev SS (X:Cx)(Ex:XK)(st:List Stmt)(d:DS):Prop:=KC X Ex (oJ X st) d
section
variable {X:Cx}{Ex:XK}
theorem dO:SS X Ex [] f7:=fun g D' E σ H Hm F D hx R h nx rt=>oJ.of FO (nx _ _ _ _ _ h R (aj.refl _))
theorem ak {st:Stmt}{rest:List Stmt}{a b:DS}(h1:S1 X Ex st a)(h2:SS X Ex rest b):SS X Ex (st::rest) (aC a b):=by
 intro g D' E σ H Hm F D hx R h nx rt
 refine oJ.of (vM yW i8) (h1 g { D' with nx:=b D' } E σ H Hm F _ hx R h (fun E1 σ1 H1 Hm1 F1 p1 R1 s1=>?_) rt)
 exact h2 g D' E1 σ1 H1 Hm1 F1 D hx R1 p1 (fun E2 σ2 H2 Hm2 F2 p2 R2 s2=>nx _ _ _ _ _ p2 R2 (s1.trans s2)) rt
theorem uu {st:Stmt}{rest:List Stmt}{a b:DS}(h1:S1 X Ex st a)(h2:SS X Ex rest b):SS X Ex (st::rest) (qT a b):=by
 intro g D' E σ H Hm F D hx R h nx rt
 obtain ⟨J,h,hJ⟩:=h
 refine oJ.of (vM yW i8) (h1 g { D' with nx:=J } E σ H Hm F _ hx R h (fun E1 σ1 H1 Hm1 F1 p1 R1 s1=>?_) rt)
 exact h2 g D' E1 σ1 H1 Hm1 F1 D hx R1 (hJ E1 p1) (fun E2 σ2 H2 Hm2 F2 p2 R2 s2=>nx _ _ _ _ _ p2 R2 (s1.trans s2)) rt
theorem aq {st:Stmt}{a:DS}(h1:S1 X Ex st a):SS X Ex [st] a:=fun g D' E σ H Hm F D hx R h nx rt=>oJ.of (D6 yW) (h1 g D' E σ H Hm F D hx R h nx rt)
theorem Lg {c:Expr}{a b2:List Stmt}{pos:Pos}{t:DT}{d e:DS}(hc:ST X Ex (aT X) c t)(ha:SS X Ex a d)(hb:SS X Ex b2 e):S1 X Ex (.If c a b2 pos) (eU t d e):=by
 intro g D' E σ H Hm F D hx R h nx rt
 refine WS.of (JM jh i8 i8) (hc g D'.xc E σ H Hm F _ (fun b H1=>if b=true then oJ X a D _ H1 else oJ X b2 D _ H1) hx R h fun E1 b H1 Hm1 F1 p1 R1 s1=>?_)
 cases b with
 | true=>exact ni (ha g D' E1 σ H1 Hm1 F1 D hx R1 (by simpa using p1) (fun E2 σ2 H2 Hm2 F2 p2 R2 s2=>nx _ _ _ _ _ p2 R2 (s1.trans s2)) rt)
 | false=>exact mQ (hb g D' E1 σ H1 Hm1 F1 D hx R1 (by simpa using p1) (fun E2 σ2 H2 Hm2 F2 p2 R2 s2=>nx _ _ _ _ _ p2 R2 (s1.trans s2)) rt)
theorem JU {e:Expr}{pos:Pos}{d:DE}(h:SE X Ex (aT X) e d):S1 X Ex (.Return (some e) pos) (cJ d):=fun g D' E σ H Hm F D hx R p nx rt=>WS.of (z4 bx) (h g D'.xc E σ H Hm F _ _ hx R p fun E' k v u H' Hm' F' fp p' R' s' T=>rt _ _ _ _ _ _ _ _ _ p' R' T)
theorem G5 {e:Expr}{pos:Pos}{d:DE}(h:SE X Ex (aT X) e d)(hs:swapsWith e none pos.line X.env=pure false):S1 X Ex (.Expr e pos) (fH d):=fun g D' E σ H Hm F D hx R p nx rt=>WS.of (Fp bx hs) (h g D'.xc E σ H Hm F _ _ hx R p fun E' k v u H' Hm' F' fp p' R' s' T=>nx _ _ _ _ _ p' R' s')
theorem Rl.move {K:Frag}{g:Gh}{E:En}{σ:St}{H Hm:Hp}{F:Nat->List Addr}(R:Rl K g E σ H Hm F){i:Nat}{k:Kd}{d:PyData}(e:E[i]?=some (some (k,d)))(hk:k.pin=false):∃ v F',σ[i]?=some (some v)/\Rl K g (E.set i none) σ H Hm F'/\Tm K g F' H Hm k v d (F i):=by
 obtain ⟨v,h1,h2⟩:=R.slot i k d e
 have li:=bR e
 refine ⟨v,fun j=>if j=i then [] else F j,h1,?_,⟨h2,R.off i,fun a ha j=>?_,fun a ha=>R.notM e hk ha⟩⟩
 ·exact {
   len:=by rw [List.length_set];exact R.len
   sub:=R.sub
   slot:=fun j k' d' e'=>by
    by_cases c:j=i
    ·subst c
     rw [aF li] at e'
     cases e'
    ·rw [ao (Ne.symm c)] at e'
     obtain ⟨u,g1,g2⟩:=R.slot j k' d' e'
     exact ⟨u,g1,by rw [if_neg c];exact g2⟩
   off:=fun j a ha=>by
    by_cases c:j=i
    ·rw [if_pos c] at ha;cases ha
    ·rw [if_neg c] at ha;exact R.off j a ha
   bI:=fun j a ha=>by
    by_cases c:j=i
    ·rw [if_pos c] at ha;cases ha
    ·rw [if_neg c] at ha;exact R.bI j a ha
   aR:=fun j l a g1 g2=>by
    by_cases c:j=i
    ·rw [if_pos c] at g1;cases g1
    ·rw [if_neg c] at g1
     by_cases c':l=i
     ·rw [if_pos c'] at g2;cases g2
     ·rw [if_neg c'] at g2;exact R.aR j l a g1 g2
   fr:=R.fr
   new:=fun j a ha=>by
    by_cases c:j=i
    ·rw [if_pos c] at ha;cases ha
    ·rw [if_neg c] at ha;exact R.new j a ha
   pin:=fun q hq=>by
    obtain ⟨g1,ds',g2⟩:=R.pin q hq
    have c:i≠q.1:=fun z=>by
     rw [<- z,e] at g2
     cases g2
     cases hk
    exact ⟨g1,ds',by rw [ao c];exact g2⟩
   old:=R.old }
 ·by_cases c:j=i
  ·rw [if_pos c];simp
  ·rw [if_neg c];exact fun z=>c (R.aR j i a z ha)
theorem jb {n i:Nat}(h:i < n):(List.range n)[i]?=some i:=List.getElem?_range h
theorem HS {e:Expr}{pos:Pos}{i:Nat}(h:PE X e (l0 i))(hi:i < X.N.length):S1 X Ex (.Return (some e) pos) (ji i):=by
 intro g D' E σ H Hm F D hx R p nx rt
 obtain ⟨k,d,e1,hk,p⟩:=p
 obtain ⟨v,F',h1,R',T⟩:=R.move e1 hk
 exact WS.of (z4 h) ⟨v,fS (jb hi) h1,rt _ _ _ _ _ _ _ _ _ p R' T⟩
/-! ### names are set -/
theorem jd {E:En}{i:Nat}(h:cy E i=true):i < E.length:=by
 rcases Nat.lt_or_ge i E.length with z | z
 ·exact z
 ·unfold cy at h
  rw [List.getElem?_eq_none z] at h
  cases h
theorem Js {i:Nat}{x:Str}{e:Expr}{pos pos':Pos}{d:DE}(hN:X.N.Nodup)(hi:X.N[i]?=some x)(hl:Loc X.env.scope x)(hs:swapsWith e (some (.Name x pos')) pos.line X.env=pure false)(hf:X.fn x=true\/X.env.scope.names.lookup x=some .local)(h:SE X Ex (aT X) e d):S1 X Ex (.Assign [.Name x pos'] e pos) (aV i d):=by
 intro g D' E σ H Hm F D hx R p nx rt
 refine WS.of (F8 hN hi hl bx hs hf) (h g D'.xc E σ H Hm F _ _ hx R p fun E' k v u H' Hm' F' fp p' R' s' T=>?_)
 show D.nx ((sel (aT X) σ).set i (some u)) H'
 rw [lH List.nodup_range (jb (bR hi)) (R'.len ▸ jd p'.1)]
 exact nx _ _ _ _ _ p'.2 (R'.put T p'.1) s'
inductive jZ (X:Cx)(π:List Nat):List Expr->List Nat->Prop
 | nil:jZ X π [] []
 | cons {x:Str}{p:Pos}{j i:Nat}{ts:List Expr}{is:List Nat}:X.N[j]?=some x->π[j]?=some i->Loc X.env.scope x->(X.fn x=true\/X.env.scope.names.lookup x=some .local)->jZ X π ts is->jZ X π (.Name x p::ts) (i::is)
inductive fW (X:Cx)(π:List Nat):Expr->Tg->Prop
 | nm {x:Str}{p:Pos}{j i:Nat}:X.N[j]?=some x->π[j]?=some i->Loc X.env.scope x->(X.fn x=true\/X.env.scope.names.lookup x=some .local)->fW X π (.Name x p) (.nm i)
 | tp {ts:List Expr}{k:Nat}{p:Pos}{is:List Nat}:jZ X π ts is->fW X π (.Tuple ts k p) (.tp is)
def LJ (X:Cx)(π:List Nat)(tg:Tg)(G:TG):Prop:=∀ {g:Gh}{d:PyData}{v:V}{E E2:En}{σ:St}{H Hm:Hp}{F:Nat->List Addr}{Q:St->Hp->Prop},cH tg d E=some E2->Rp X.K Hm v d->Rl X.K g E σ H Hm F->(∀ σ' F',Rl X.K g E2 σ' H Hm F'->(∀ j,j∉tg.slots->σ'[j]?=σ[j]?)->Q (sel π σ') H)->G v (sel π σ) H Q
theorem BX {π:List Nat}(hN:X.N.Nodup)(nd:π.Nodup){ts:List Expr}{is:List Nat}(h:jZ X π ts is):∃ G:oG,zD X ts G/\(assignEach ts X.env).length=is.length/\(assignEach ts X.env).findIdx? (·.1)=none /\
  ∀ {g:Gh}{ds:List PyData}{vs:List V}{E E2:En}{σ:St}{H Hm:Hp}{F:Nat->List Addr}{Q:St->Hp->Prop},b8 is ds E=some E2->aA X.K Hm vs ds->Rl X.K g E σ H Hm F->(∀ σ' F',Rl X.K g E2 σ' H Hm F'->(∀ j,j∉is->σ'[j]?=σ[j]?)->Q (sel π σ') H)->vs.length=is.length/\G vs (sel π σ) H Q:=by
 induction h with
 | nil =>
  refine ⟨Je,D7,rfl,rfl,fun {g ds vs E E2 σ H Hm F Q} h r R q=>?_⟩
  cases ds with
  | nil =>
   cases h
   cases r
   exact ⟨rfl,rfl,q _ _ R fun _ _=>rfl⟩
  | cons _ _=>cases h
 | @cons x p j i ts is h1 h2 h3 h4 _ ih =>
  obtain ⟨G,g1,g2,g3,g4⟩:=ih
  refine ⟨C7 (n9 j) G,BU (wQ hN h1 h3 h4) g1,?_,?_,fun {g ds vs E E2 σ H Hm F Q} h r R q=>?_⟩
  ·show (assignEach ts X.env).length + 1=_
   rw [g2]
   rfl
  ·show List.findIdx? (·.1) ((false,assign (.Name x p) X.env)::assignEach ts X.env)=none
   rw [List.findIdx?_cons,g3]
   rfl
  ·cases ds with
   | nil=>cases h
   | cons d ds =>
    rw [b8] at h
    by_cases o:cy E i=true
    ·rw [if_pos o] at h
     cases r with
     | cons r1 r2 =>
      obtain ⟨l,k⟩:=g4 h r2 (R.put (Tm.sh r1) o) fun σ' F' R' a=>q σ' F' R' fun j' hj=>by
       have ne:i≠j':=fun z=>hj (z ▸ List.mem_cons_self)
       exact (a j' fun z=>hj (List.mem_cons_of_mem _ z)).trans (ao ne)
      refine ⟨congrArg (· + 1) l,_,_,rfl,?_⟩
      show G _ ((sel π σ).set j (some _)) H Q
      rw [lH nd h2 (R.len ▸ jd o)]
      exact k
    ·rw [if_neg o] at h;cases h
theorem p8 {π:List Nat}{e:Expr}{tg:Tg}(hc:X.calm=true)(hN:X.N.Nodup)(nd:π.Nodup)(h:fW X π e tg):∃ G,PG X e G/\LJ X π tg G:=by
 cases h with
 | @nm x p j i h1 h2 h3 h4 =>
  refine ⟨n9 j,wQ hN h1 h3 h4,fun {g d v E E2 σ H Hm F Q} h r R q=>?_⟩
  have h:b8 [i] [d] E=some E2:=h
  rw [b8] at h
  by_cases o:cy E i=true
  ·rw [if_pos o] at h
   cases h
   show Q ((sel π σ).set j (some v)) H
   rw [lH nd h2 (R.len ▸ jd o)]
   exact q _ _ (R.put (Tm.sh r) o) fun j' hj=>ao (show i≠j' from fun z=>hj (z ▸ List.mem_cons_self))
  ·rw [if_neg o] at h;cases h
 | @tp ts k p is h =>
  obtain ⟨G,g1,g2,g3,g4⟩:=BX hN nd h
  refine ⟨_,Gg hc g1 g2 g3,fun {g d v E E2 σ H Hm F Q} h r R q=>?_⟩
  cases d with
  | tuple ds =>
   have h:b8 is ds E=some E2:=h
   cases r with
   | tup a r =>
    obtain ⟨l,k⟩:=g4 h r R q
    exact ⟨_,_,rfl,cB.of (R.sub _ _ a),l,k⟩
  | _=>cases h
theorem Jt {ts:List Expr}{is:List Nat}{k:Nat}{p pos:Pos}{e:Expr}{d:DE}(hc:X.calm=true)(hN:X.N.Nodup)(ht:jZ X (aT X) ts is)(hs:swapsWithSole [.Tuple ts k p] e pos.line X.env=pure false)(hw:swappedStores [.Tuple ts k p] e X.env=pure none)(h:SE X Ex (aT X) e d):S1 X Ex (.Assign [.Tuple ts k p] e pos) (lP is d):=by
 intro g D' E σ H Hm F D hx R pp nx rt
 obtain ⟨G,g1,g2⟩:=p8 hc hN List.nodup_range (fW.tp (k:=k) (p:=p) ht)
 refine WS.of (zg bx g1 hs hw) (h g D'.xc E σ H Hm F _ _ hx R pp fun E' k v u H' Hm' F' fp p' R' s' T=>?_)
 obtain ⟨E2,hk,e2,p'⟩:=p'
 obtain ⟨Hm2,s2,R2,r2⟩:=T.fM R' hk
 exact g2 e2 r2 R2 fun σ' F' R3 _=>nx _ _ _ _ _ p' R3 (s'.trans s2)
/-! ### while,for -/
theorem EX {c:Expr}{b:List Stmt}{pos:Pos}{t:DT}{d:DS}(hp:PassesOwn (model X.prog X.w) X.A X.env X.xe)(hc:ST X Ex (aT X) c t)(hb:SS X Ex b d):S1 X Ex (.While c b [] pos) (mL t d):=by
 intro g D' E σ H Hm F D hx R h nx rt
 obtain ⟨W,⟨m0,w0⟩,step⟩:=h
 refine WS.of (Cw hp jh i8) ⟨fun m τ H'=>∃ E' σ' Hm' F',W m E'/\Rl X.K g E' σ' H' Hm' F'/\aj Hm Hm'/\τ=sel (aT X) σ',⟨m0,E,σ,Hm,F,w0,R,aj.refl _,rfl⟩,?_⟩
 rintro m τ H1 ⟨E1,σ1,Hm1,F1,w1,R1,s1,rfl⟩
 refine hc g D'.xc E1 σ1 H1 Hm1 F1 _ _ hx R1 (step m E1 w1) fun E2 b2 H2 Hm2 F2 p2 R2 s2=>?_
 cases b2 with
 | true =>
  refine ni ⟨fun τ H'=>∃ m',m' < m/\∃ E' σ' Hm' F',W m' E'/\Rl X.K g E' σ' H' Hm' F'/\aj Hm Hm'/\τ=sel (aT X) σ',fun _ _ z=>z,?_⟩
  exact hb g { D' with nx:=fun E'=>∃ m',m' < m/\W m' E' } E2 σ1 H2 Hm2 F2 _ hx R2 (by simpa using p2) (fun E3 σ3 H3 Hm3 F3 p3 R3 s3=>by
   obtain ⟨m',hm,w3⟩:=p3
   exact ⟨m',hm,E3,σ3,Hm3,F3,w3,R3,s1.trans (s2.trans s3),rfl⟩) rt
 | false=>exact mQ (nx _ _ _ _ _ (by simpa using p2) R2 (s1.trans s2))
def xo (K:Frag)(J:It)(xs:List PyData)(gn:Hp):Prop:=∀ (i:Nat)(H Hm:Hp),aj gn Hm->aj Hm H ->
 (∀ d,xs[i]?=some d->J.go i H/\∀ x H',J.oH i H x H'->∃ Hm',aj Hm Hm'/\aj Hm' H'/\aj H H'/\(∀ a,H a≠none->OE (Hm' a) (Hm a))/\Rp K Hm' x d)/\(xs.length<=i->J.stop i H)
def SI (X:Cx)(Ex:XK)(π:List Nat)(tg e:Expr)(d:DI):Prop:=∃ wi:TI,PI X tg e wi /\
 ∀ (g:Gh)(x:XC)(E:En)(σ:St)(H Hm:Hp)(F:Nat->List Addr)(P:En->List PyData->Prop)(R:It->Hp->Prop),XL X Ex x g->Rl X.K g E σ H Hm F->d x E P ->
  (∀ E' xs J H' Hm' F',P E' xs->Rl X.K g E' σ H' Hm' F'->aj Hm Hm'->xo X.K J xs Hm'->R J H')->wi (sel π σ) H R
theorem Rl.turn {K:Frag}{g:Gh}{E:En}{σ:St}{H H' Hm Hm':Hp}{F:Nat->List Addr}(R:Rl K g E σ H Hm F)(s1:aj Hm Hm')(s2:aj Hm' H')(s3:aj H H')(old:∀ a,H a≠none->OE (Hm' a) (Hm a)):Rl K g E σ H' Hm' F :=
 R.grow s3 s1 s2 (fun i a ha=>by
  obtain ⟨u,hu,nt⟩:=R.bI i a ha
  exact (old a (by rw [hu];simp)).off (R.off i a ha) s2 (s3 _ _ hu) nt) fun a ha=>old a (R.qD ha)
theorem JS {tg it:Expr}{b:List Stmt}{pos:Pos}{di:DI}{t:Tg}{d:DS}(hp:PassesOwn (model X.prog X.w) X.A X.env X.xe)(hc:X.calm=true)(hN:X.N.Nodup)(hi:SI X Ex (aT X) tg it di)(ht:fW X (aT X) tg t)(hb:SS X Ex b d)
  (hs:∀ x,foldedSetIterable it X.env x=pure x):S1 X Ex (.For tg it b [] pos) (f9 di t d):=by
 intro g D' E σ H Hm F D hx R h nx rt
 obtain ⟨wi,hpi,hw⟩:=hi
 obtain ⟨G,g1,g2⟩:=p8 hc hN List.nodup_range ht
 refine WS.of (HG hp hc hpi g1 i8 hs) (hw g D'.xc E σ H Hm F _ _ hx R h fun E1 xs J H1 Hm1 F1 p1 R1 s1 it1=>?_)
 obtain ⟨I,i0,step,fin⟩:=p1
 refine ⟨fun i m τ H'=>m=xs.length - i/\i<=xs.length/\∃ E' σ' Hm' F',I i E'/\Rl X.K g E' σ' H' Hm' F'/\aj Hm1 Hm'/\τ=sel (aT X) σ',⟨xs.length,by simp,Nat.zero_le _,E1,σ,Hm1,F1,i0,R1,aj.refl _,rfl⟩,?_⟩
 rintro i m τ H2 ⟨rfl,hi,E2,σ2,Hm2,F2,i2,R2,s2,rfl⟩
 obtain ⟨go,stop⟩:=it1 i H2 Hm2 s2 R2.sub
 by_cases c:i < xs.length
 ·obtain ⟨go,oH⟩:=go xs[i] (List.getElem?_eq_getElem c)
  refine .inr ⟨go,fun τ H'=>i + 1<=xs.length/\∃ E' σ' Hm' F',I (i + 1) E'/\Rl X.K g E' σ' H' Hm' F'/\aj Hm1 Hm'/\τ=sel (aT X) σ',fun τ H' z=>⟨xs.length - (i + 1),by omega,rfl,z⟩,fun x H3 y=>?_⟩
  obtain ⟨Hm3,t1,t2,t3,old,r⟩:=oH x H3 y
  have R3:=R2.turn t1 t2 t3 old
  obtain ⟨E4,e4,p4⟩:=step i xs[i] E2 (List.getElem?_eq_getElem c) i2
  refine g2 e4 r R3 fun σ4 F4 R4 _=>?_
  exact hb g { D' with nx:=I (i + 1) } E4 σ4 H3 Hm3 F4 _ hx R4 p4 (fun E5 σ5 H5 Hm5 F5 p5 R5 s5=>⟨c,E5,σ5,Hm5,F5,p5,R5,s2.trans (t1.trans s5),rfl⟩) rt
 ·have e:i=xs.length:=by omega
  subst e
  exact .inl ⟨stop (Nat.le_refl _),nx _ _ _ _ _ (fin E2 i2) R2 (s1.trans s2)⟩
end
end Dv
namespace L2
open PySem PySem.Spec PyProof.Rows
/-! ### a comprehension of several clauses -/
def iX (elt:Expr)(gens:List Comprehension)(scope:Scope)(pos:Pos) (k:Nat)(acc:Value)(env:Env)(fin:Sem Fin):Sem Fin:=match gens[k]? with
 | some g'=>do
  let x <- eval g'.iter env
  standAt g'.iter.pos
  let x <- foldedSetIterable g'.iter env x
  let y <- holding [x] (pyIter x)
  let _ <- runOwn (.compStart (.ListComp elt gens scope pos) k y acc env) env
  fin
 | none=>do
  (do let _ <- call (.builtin "list.append") [acc,<- eval elt env])
  fin
theorem compTurn_gen {elt:Expr}{gens:List Comprehension}{scope:Scope}{pos:Pos}{k:Nat}{tg iter:Expr}{ifs:List Expr}(hk:gens[k]?=some ⟨tg,iter,ifs,0⟩)(ha:∀ g∈gens,g.is_async=0)(it acc:Value)(env:Env) :
  compTurn (.ListComp elt gens scope pos) k it acc env=(do
   standAt iter.pos
   match <- pyNext it with
   | none=>pure (.done .next)
   | some v =>
    letOwnedTupleGo tg it v
    assign tg env v
    let mut ok:=true
    for c in ifs do
     if ok then ok <- isTrue c env (eval c env)
    if ok then iX elt gens scope pos (k + 1) acc env (again (.compLoop (.ListComp elt gens scope pos) k it acc env))
    else again (.compLoop (.ListComp elt gens scope pos) k it acc env)):=by
 unfold compTurn iX
 simp only [hk]
 cases h:gens[k + 1]? with
 | none=>rfl
 | some g' =>
  have e:=ha g' (List.mem_of_getElem? h)
  obtain ⟨t,i,f,a⟩:=g'
  dsimp only at e
  subst e
  rfl
section
variable {prog:Program}{w:World}{A:Around}{R:Result->Shared->Prop}{s:Shared}{elt tg iter:Expr}{gens:List Comprehension}{ifs:List Expr}{scope:Scope}{pos:Pos}{k:Nat}
theorem qb (hk:gens[k]?=some ⟨tg,iter,ifs,0⟩)(ha:∀ g∈gens,g.is_async=0){it acc:Value}{env:Env}(I:Nat->Shared->Prop)
  (turn:∀ n s,I n s->wpAny (model prog w) A (pyNext it) (fun r s1=>match r with
   | none=>R (.ok .next) s1
   | some v=>wpAny (model prog w) A (letOwnedTupleGo tg it v) (fun _ s0=>wpAny (model prog w) A (assign tg env v) (fun _ s2=>wpAny (model prog w) A (forIn ifs true fun c r=>if r=true then do let ok <- isTrue c env (eval c env);pure (ForInStep.yield ok) else pure (ForInStep.yield r)) (fun ok s3 =>
      if ok=true then ∀ (fin:Sem Fin)(Qf:Fin->Shared->Prop),(∀ s5,(∃ m,m < n/\I m s5)->wpAny (model prog w) A fin Qf (mG prog w A env R) s5)->wpAny (model prog w) A (iX elt gens scope pos (k + 1) acc env fin) Qf (mG prog w A env R) s3
      else ∃ m,m < n/\I m s3) (mG prog w A env R) s2) (mG prog w A env R) s0) (mG prog w A env R) s1) (mG prog w A env R) s)
  (n:Nat)(h:I n s):codeAny (model prog w) A (.compLoop (.ListComp elt gens scope pos) k it acc env) R s:=by
 refine codeAny_loop rfl I (fun n s hI=>?_) n h
 refine (wpAny_noted (?_:_):wpAny _ A ((compTurn (.ListComp elt gens scope pos) k it acc env).onRaise (fun x=>do noteFrame x env;theTreesLotGoes x)) _ _ s)
 rw [compTurn_gen hk ha]
 refine wpAny_bind (wpAny_standAt (wpAny_bind (wpAny_mono (turn n s hI) (fun r s1 h1=>?_) fun _ _ z=>z)))
 cases r with
 | none=>exact wpAny_pure h1
 | some v =>
  refine wpAny_bind (wpAny_mono h1 (fun _ s0 h0=>wpAny_bind (wpAny_mono h0 (fun _ s2 h2=>wpAny_bind (wpAny_mono h2 (fun ok s3 h3=>?_) fun _ _ z=>z)) fun _ _ z=>z)) fun _ _ z=>z)
  cases ok with
  | false=>exact wpAny_pure ⟨rfl,h3⟩
  | true=>exact h3 _ _ fun s5 h5=>wpAny_pure ⟨rfl,h5⟩
end
end L2
namespace L2
open PySem PySem.Spec PyProof.Rows
def lA (N:List Str)(fs scope:Scope)(vs NB:List Str)(ix:List Nat):Bool :=
 decide (scope.kind=.function) && scope.names.all (fun y=>decide (y.2≠.cell)) && scope.names.all (fun y=>decide (y.2≠.local) || decide (scope.names.lookup y.1=some .local)) &&
 scope.names.all (fun y=>decide (y.2≠.free) || (decide (fs.names.lookup y.1=some .cell) || decide (fs.names.lookup y.1=some .free))) &&
 decide (NB=vs++ix.map fun i=>N.getD i "") && decide NB.Nodup && ix.all fun i=>match N[i]? with | some y=>decide (scope.names.lookup y=some .free) | none=>false
structure cI (X:Cx)(scope:Scope)(vs NB:List Str)(ix:List Nat):Prop where
 kind:scope.kind=.function
 cell:∀ y∈scope.names,y.2≠.cell
 names:∀ y∈scope.names,y.2=.local->scope.names.lookup y.1=some .local
 free:∀ y,(y,NameKind.free)∈scope.names->(X.env.kindOf y=some .cell\/X.env.kindOf y=some .free)
 nb:NB=vs++ix.map fun i=>X.N.getD i ""
 nd:NB.Nodup
 cap:∀ i∈ix,∃ y,X.N[i]?=some y/\scope.names.lookup y=some .free
theorem cI.of {X:Cx}{N:List Str}{fs scope:Scope}{vs NB:List Str}{ix:List Nat}(h:lA N fs scope vs NB ix=true)(hN:X.N=N:=by rfl)(hf:X.env.scope=fs:=by rfl):cI X scope vs NB ix:=by
 subst hN hf
 unfold lA at h
 simp only [Bool.and_eq_true] at h
 obtain ⟨⟨⟨⟨⟨⟨h1,h2⟩,h3⟩,h4⟩,h6⟩,h7⟩,h8⟩:=h
 refine ⟨of_decide_eq_true h1,fun y hy=>of_decide_eq_true (List.all_eq_true.mp h2 y hy),fun y hy e=>?_,fun y hy=>?_,of_decide_eq_true h6,of_decide_eq_true h7,fun i hi=>?_⟩
 ·have z:=List.all_eq_true.mp h3 y hy
  rw [Bool.or_eq_true] at z
  rcases z with z | z
  ·exact absurd e (of_decide_eq_true z)
  ·exact of_decide_eq_true z
 ·have z:=List.all_eq_true.mp h4 _ hy
  rw [Bool.or_eq_true,Bool.or_eq_true] at z
  rcases z with z | z | z
  ·exact absurd rfl (of_decide_eq_true z)
  ·exact .inl (of_decide_eq_true z)
  ·exact .inr (of_decide_eq_true z)
 ·have z:=List.all_eq_true.mp h8 i hi
  cases e:X.N[i]? with
  | none=>rw [e] at z;cases z
  | some y=>rw [e] at z;exact ⟨y,rfl,of_decide_eq_true z⟩
section
variable {X:Cx}{scope:Scope}{vs:List Str}{NB:List Str}{ix:List Nat}{pins:List (Addr×Obj)}{σ:St}{H2:Hp}{s2:Shared}{fp:List Addr}
theorem cI.clos (B:cI X scope vs NB ix)(I2:Inv X pins σ H2 s2):closureFor scope X.env=pure (b6 X.env.cells scope.names []) :=
 ko fun n hn=>I2.ok.has n (B.free n hn)
theorem cI.look (B:cI X scope vs NB ix)(I2:Inv X pins σ H2 s2){y:Str}{c:Addr}(h:(b6 X.env.cells scope.names []).lookup y=some c):X.env.cells.lookup y=some c:=by
 rcases kH _ _ h with ⟨m,e⟩ | e
 ·obtain ⟨c',hc⟩:=I2.ok.has y (B.free y m)
  rw [hc] at e ⊢
  exact congrArg some e
 ·cases e
theorem zC (B:cI X scope vs NB ix)(I2:Inv X pins σ H2 s2){C:Addr}(hC:s2.heap.objs.size<=C)(f2:∀ b∈fp,eV X pins H2 b)(ft:∀ b∈fp,b < s2.heap.objs.size):(X.block scope C NB s2 H2 fp).Ok where
 mod:=I2.ok.mod
 kind:=B.kind
 glob:=I2.ok.glob
 blt:=I2.ok.blt
 above:=hC
 inj:=fun a b c h1 h2=>I2.ok.inj a b c (B.look I2 h1) (B.look I2 h2)
 has:=fun y hy=>by
  have key:∀ k,(relabel scope X.env).names.lookup y=some k->(k=.cell\/k=.free)->∃ c,(b6 X.env.cells scope.names []).lookup y=some c:=fun k hk kk=>by
   rcases pV (names:=scope.names) hk with e | ⟨e,_⟩
   ·rcases kk with rfl | rfl
    ·exact absurd rfl (B.cell _ (dB e))
    ·exact fm _ _ (.inl (dB e))
   ·exact fm _ _ (.inl (dB e))
  rcases hy with e | e
  ·exact key _ e (.inl rfl)
  ·exact key _ e (.inr rfl)
 zY:=fun _ _ z=>by cases z
 hd:=I2.ok.hd
 frames:=I2.ok.frames
 stk:=.inl rfl
 KJ:=fun b hb=>⟨Nat.ne_of_lt (Nat.lt_of_lt_of_le (ft b hb) hC),fun y c e=>(f2 b hb).2.2.2.2.1 y c (B.look I2 e)⟩
 bs:=I2.bs
 sW:=Nat.le_trans I2.ok.sW I2.sz
 rS:=fun b o e hb=>by
  rcases (f2 b hb).2.2.2.1 with z | z
  ·exact I2.ok.rS b o e z
  ·exact absurd (Nat.lt_of_lt_of_le (Heap.lt_size (I2.ok.bs b o e).1) z) (Nat.lt_irrefl _)
 yw:=fun b hb z=>by
  rcases List.mem_cons.mp (I2.jo b z) with e | e
  ·exact (f2 b hb).2.1 e
  ·exact (f2 b hb).2.2.1 e
 jQ:=I2.stack
 wz:=I2.nO
theorem yQ (B:cI X scope vs NB ix)(I2:Inv X pins σ H2 s2){C D:Addr}{h1:Heap}{tk:Nat}{m:Str->Option Value}{oD:Obj}(hC:s2.heap.objs.size<=C)(hD:s2.heap.objs.size<=D)(hDC:D≠C)(f2:∀ b∈fp,eV X pins H2 b)(ft:∀ b∈fp,b < s2.heap.objs.size)
  (old:∀ b o,s2.heap.get? b=some o->h1.get? b=some o)(hn:h1.Ns C m)(ho:h1.get? D=some oD)(hcl:∀ v,oD.data≠.cell v) :
  Inv (X.block scope C NB s2 H2 fp) [(D,oD)] (List.replicate vs.length none++caps ix σ) H2 { s2 with heap:=h1,toks:=tk } where
 ok:=zC B I2 hC f2 ft
 os:=rfl
 bare:=I2.bare
 base:=Un.kept old
 loc:=by
  refine ⟨m,hn,fun i y v e1 e2 _=>?_⟩
  have e1:NB[i]?=some y:=e1
  by_cases li:i < vs.length
  ·rw [List.getElem?_append_left (by rw [List.length_replicate];exact li),List.getElem?_replicate,if_pos li] at e2
   cases e2
  ·obtain ⟨j,rfl⟩:∃ j,i=vs.length + j:=⟨i - vs.length,by omega⟩
   have e2:(caps ix σ)[j]?=some (some v):=by
    rw [List.getElem?_append_right (by rw [List.length_replicate];omega),List.length_replicate,Nat.add_sub_cancel_left] at e2
    exact e2
   rw [B.nb] at e1
   have e1:(ix.map fun i=>X.N.getD i "")[j]?=some y:=by
    rw [List.getElem?_append_right (by omega),Nat.add_sub_cancel_left] at e1
    exact e1
   rw [List.getElem?_map] at e1
   unfold caps at e2
   rw [List.getElem?_map] at e2
   cases q:ix[j]? with
   | none=>rw [q] at e1;cases e1
   | some i =>
    rw [q] at e1 e2
    obtain ⟨z,hz,fz⟩:=B.cap i (List.mem_of_getElem? q)
    have ey:y=z:=by
     have w:X.N.getD i ""=y:=Option.some.inj e1
     rw [<- w,List.getD_eq_getElem?_getD,hz]
     rfl
    subst ey
    have e2:(σ[i]?).join=some v:=Option.some.inj e2
    have es:σ[i]?=some (some v):=by
     cases w:σ[i]? with
     | none=>rw [w] at e2;cases e2
     | some o=>rw [w] at e2;exact congrArg some e2
    have fk:=B.free y (dB fz)
    have vis:kY X.env.scope y:=.inr fk
    obtain ⟨mm,_,hl⟩:=I2.loc
    obtain ⟨u,ru,lk⟩:=hl i y v hz es vis
    refine ⟨u,ru,.inr ⟨?_,?_⟩⟩
    ·rcases l6 (env:=X.env) (names:=scope.names) fz with e | ⟨_,e⟩
     ·exact .inr e
     ·exact .inl e
    ·rcases lk with ⟨lk,_⟩ | ⟨_,c,hc,hcell⟩
     ·rcases fk with fk | fk
      ·rw [lk] at fk;cases fk
      ·rw [lk] at fk;cases fk
     ·obtain ⟨c',hc'⟩:=fm (cells:=X.env.cells) scope.names [] (.inl (dB fz))
      have e3:=B.look I2 hc'
      rw [hc] at e3
      cases e3
      obtain ⟨oc,g1,g2⟩:=hcell
      exact ⟨c,hc',oc,old _ _ g1,g2⟩
 cell:=fun y c e=>by
  obtain ⟨v,o,g1,g2⟩:=I2.cell y c (B.look I2 e)
  exact ⟨v,o,old _ _ g1,g2⟩
 free:=I2.hok.fresh hC
 iw:=fun y c e=>I2.iw y c (B.look I2 e)
 pin:=fun p hp=>by
  have e:p=(D,oD):=by simpa [Cx.block] using hp
  subst e
  refine ⟨ho,I2.hok.fresh hD,hDC,fun z=>?_,hcl⟩
  rcases List.mem_cons.mp (I2.jo D z) with e | e
  ·have e:D=X.env.locals:=e
   exact absurd (Nat.lt_of_lt_of_le I2.lt (e ▸ hD)) (Nat.lt_irrefl _)
  ·exact I2.BJ hD e
 hok:=I2.hok.kept old
 len:=by
  show (List.replicate vs.length none++caps ix σ).length=NB.length
  rw [B.nb,List.length_append,List.length_append,vc,List.length_map,List.length_replicate]
end
end L2
namespace L2
open PySem PySem.Spec PyProof.Rows
abbrev TL:=List V->St->Hp->(List V->St->Hp->Prop)->Prop
def PL (X:Cx)(D:Addr)(elt:Expr)(gens:List Comprehension)(scope:Scope)(pos:Pos) (k:Nat)(t:TL):Prop :=
 X.s₀.heap.objs.size<=D->(∀ y c,X.env.cells.lookup y=some c->c≠D)->(∀ e s',X.xe e s'->False) ->
 ∀ (pins:List (Addr×Obj))(s:Shared)(σ:St)(H:Hp)(ys:List V)(its:List Value) (nn:Nat)(Q:List V->St->Hp->Prop)(fin:Sem Fin)(Qf:Fin->Shared->Prop)(E:Value->Shared->Prop),
  (∀ p∈X.pn++pins,p.1≠D)->Inv X ((D,d8 its nn)::pins) σ H s->Vals ys its->ys.length<=sizeLine->t ys σ H Q ->
  (∀ s' ys' its' nn' σ' H',Inv X ((D,d8 its' nn')::pins) σ' H' s'->Vals ys' its'->ys'.length<=sizeLine->Q ys' σ' H'->wpAny (model X.prog X.w) X.A fin Qf E s') ->
  wpAny (model X.prog X.w) X.A (iX elt gens scope pos k (.ref D) X.env fin) Qf E s
def CZ (te:TE):TL:=fun ys σ H Q=>te σ H fun v H1=>ys.length < sizeLine/\Q (ys++[v]) σ H1
def yo (J:It)(g:TG)(tt:TT)(tr:TL)(ys0:List V)(σ0:St)(H1:Hp)(Q:List V->St->Hp->Prop):Prop :=
 ∃ W:Nat->Nat->List V->St->Hp->Prop,(∃ m,W 0 m ys0 σ0 H1)/\∀ i m ys σ H,W i m ys σ H ->
  (J.stop i H/\Q ys σ H)\/(J.go i H/\∃ N:List V->St->Hp->Prop,(∀ ys' σ' H',N ys' σ' H'->∃ m',m' < m/\W (i + 1) m' ys' σ' H') /\
   ∀ x H',J.oH i H x H'->g x σ H' fun σ2 H2=>tt σ2 H2 fun b H3=>if b=true then tr ys σ2 H3 N else N ys σ2 H3)
section
variable {X:Cx}{D:Addr}{elt tg iter:Expr}{gens:List Comprehension}{ifs:List Expr}{scope:Scope}{pos:Pos}{k:Nat}
theorem wK {te:TE}(he:PE X elt te)(hk:gens[k]?=none:=by rfl):PL X D elt gens scope pos k (CZ te):=by
 intro hD hc hx pins s σ H ys its nn Q fin Qf E hp I rv hz h hf
 unfold iX
 rw [hk]
 refine wpAny_bind (wpAny_bind (wpAny_mono (he _ s σ H _ I h) (fun y s8 ⟨yv,H8,I8,r8,hlt,n8⟩=>wpAny_bind ?_) fun e s' z=>(hx e s' z).elim))
 have pD:=I8.pin (D,d8 its nn) (List.mem_append_right _ List.mem_cons_self)
 refine append_at (hsz:=by rw [List.size_toArray,<- rv.length];exact hz) pD.1 fun h9 hs9 hD9=>wpAny_pure ?_
 have I8n:Inv X pins σ H8 s8:=I8.jG fun p hp'=>I8.pin p (List.mem_append_right _ (List.mem_cons_of_mem _ hp'))
 have I9:=I8n.turned (h':=h9) (t':=s8.toks) (it:=D) (fun b o hb e=>hs9.extBut b o hb e) pD.2.1 pD.2.2.1 (.inr hD) hc hp
 have e9:d8 (its++[y]) (nn + 1)={ cls:=.type "list",data:=.seq (its.toArray.push y) (nn + 1) }:=by
  show ({ cls:=.type "list",data:=.seq (its++[y]).toArray (nn + 1) }:Obj)=_
  rw [List.push_toArray]
 have I10:Inv X ((D,d8 (its++[y]) (nn + 1))::pins) σ H8 { s8 with heap:=h9 }:=by
  refine I9.jG fun p hp'=>?_
  rcases List.mem_cons.mp hp' with rfl | hp'
  ·exact ⟨hD9.trans (congrArg some e9.symm),pD.2.1,pD.2.2.1,pD.2.2.2.1,fun v q=>by cases q⟩
  ·exact I9.pin p (List.mem_append_right _ hp')
 exact hf _ (ys++[yv]) (its++[y]) (nn + 1) σ H8 I10 (Vals.append rv (.cons r8 .nil)) (by rw [List.length_append];exact hlt) n8
end
section
variable {X:Cx}{scope:Scope}{vs:List Str}{NB:List Str}{ix:List Nat}
def k7 (wi:TI) (n:Nat)(ix:List Nat)(g:TG)(tt:TT)(tr:TL):TE:=fun σ H Q=>wi σ H fun J H1=>yo J g tt tr [] (List.replicate n none++caps ix σ) H1 fun ys _ H'=>∀ p,H' p=none->Q (.ref p) (upd H' p (.lst ys))
theorem qv {elt tg iter:Expr}{ifs:List Expr}{rest:List Comprehension}{pos:Pos}{g:TG}{tt:TT}{tr:TL}{J:It}{it:Addr}{tn:Nat->Heap->Prop}{fp:List Addr}{pins:List (Addr×Obj)}{σ:St}{H2:Hp}{s2:Shared}{E:Value->Shared->Prop}{RR:Value->Addr->Result->Shared->Prop}{Qr:VK}(B:cI X scope vs NB ix)(hc:X.calm=true)
  (hg:∀ (C:Addr)(s:Shared)(H:Hp)(fp:List Addr),PG (X.block scope C NB s H fp) tg g)(ht:∀ (C:Addr)(s:Shared)(H:Hp)(fp:List Addr),mV (X.block scope C NB s H fp) ifs tt)
  (hr:∀ (C:Addr)(s:Shared)(H:Hp)(fp:List Addr)(D:Addr),PL (X.block scope C NB s H fp) D elt (⟨tg,iter,ifs,0⟩:: rest) scope pos 1 tr)
  (ha:∀ g∈rest,g.is_async=0)(I2:Inv X pins σ H2 s2)(T:Turn X.prog X.w X.K tg J fp it tn)(st2:tn 0 s2.heap)(f2:∀ b∈fp,eV X pins H2 b)(h:yo J g tt tr [] (List.replicate vs.length none++caps ix σ) H2 fun ys _ H'=>∀ p,H' p=none->Qr (.ref p) (upd H' p (.lst ys)))
  (hRR:∀ (D C:Addr)(Hf:Hp)(s':Shared)(m':Str->Option Value),Inv X pins σ Hf s'->s'.heap.Ns C m'->eV X pins Hf C->Qr (.ref D) Hf->RR (.ref D) C (.ok .next) s') :
  wpAny (model X.prog X.w) X.A (newList []) (fun acc s3=>wpAny (model X.prog X.w) X.A (newFunctionEnv scope X.env.globals (b6 X.env.cells scope.names []) [] X.env.qual none .none (some X.env)) (fun cenv s4 =>
   codeAny (model X.prog X.w) X.A (.compStart (.ListComp elt (⟨tg,iter,ifs,0⟩:: rest) scope pos) 0 (.ref it) acc { cenv with scope:=relabel scope X.env }) (RR acc cenv.locals) s4) E s3) E s2:=by
 obtain ⟨W,⟨m0,w0⟩,turn⟩:=h
 have ha':∀ g∈(⟨tg,iter,ifs,0⟩:Comprehension)::rest,g.is_async=0:=fun g hg=>by
  rcases List.mem_cons.mp hg with rfl | hg
  ·rfl
  ·exact ha g hg
 refine wpAny_newObj_type (wpAny_newFunctionEnv B.cell (by intro y hy;simp at hy) (fun h1 hns hsb=>?_) B.kind)
 dsimp only at hns hsb ⊢
 generalize eG:s2.heap.push { cls:=.type "list",dict:=none,data:=.seq ([]:List Value).toArray }=G at hns hsb ⊢
 have hC:G.objs.size=s2.heap.objs.size + 1:=by rw [<- eG,Heap.size_push]
 have hDC:s2.heap.objs.size≠G.objs.size:=by rw [hC];exact Nat.ne_of_lt (Nat.lt_succ_self _)
 have hCle:s2.heap.objs.size<=G.objs.size:=by rw [hC];exact Nat.le_succ _
 have old:∀ b o,s2.heap.get? b=some o->h1.get? b=some o:=fun b o e=>by
  have lt:=Heap.lt_size e
  exact hsb.extBut b o (Nat.ne_of_lt (Nat.lt_of_lt_of_le lt hCle)) (Heap.get?_push_of_some _ (eG ▸ Heap.get?_push_of_some _ e))
 have hacc:h1.get? s2.heap.objs.size=some (d8 [] 0):=hsb.extBut _ _ hDC (Heap.get?_push_of_some _ (eG ▸ Heap.get?_push_size _ rfl))
 have ft:∀ b∈fp,b < s2.heap.objs.size:=fun b hb=>by
  obtain ⟨o,e,_⟩:=T.obj _ _ st2 b hb
  exact Heap.lt_size e
 have cD:∀ y c,(X.block scope G.objs.size NB s2 H2 fp).env.cells.lookup y=some c->c≠s2.heap.objs.size:=fun y c e z=>by
  obtain ⟨w,q⟩:=I2.cell y c (B.look I2 e)
  exact Nat.lt_irrefl _ (z ▸ q.lt)
 have loop:∀ s3:Shared,s3={ s2 with heap:=h1,toks:=s2.toks + ([]:List (Str×Value)).length } ->
   codeAny (model X.prog X.w) X.A (.compLoop (.ListComp elt (⟨tg,iter,ifs,0⟩:: rest) scope pos) 0 (.ref it) (.ref s2.heap.objs.size) (compEnvC scope (b6 X.env.cells scope.names []) G.objs.size X.env))
    (RR (.ref s2.heap.objs.size) G.objs.size) s3:=by
  rintro s3 rfl
  have I3:=yQ (tk:=s2.toks + ([]:List (Str×Value)).length) B I2 hCle (Nat.le_refl _) hDC f2 ft old hns hacc (fun v q=>by cases q)
  have st3:tn 0 h1:=T.keep _ _ _ st2 fun b _ o e=>old b o e
  have fy:∀ {H':Hp}{oD:Obj},(∀ b∈fp,H' b=none)->∀ b∈fp,eV (X.block scope G.objs.size NB s2 H2 fp) [(s2.heap.objs.size,oD)] H' b:=fun {H' oD} hn b hb=>by
   refine ⟨hn b hb,Nat.ne_of_lt (Nat.lt_of_lt_of_le (ft b hb) hCle),fun z=>?_,.inl hb,fun y c e=>(f2 b hb).2.2.2.2.1 y c (B.look I2 e),fun p hp=>?_⟩
   ·rcases List.mem_cons.mp (I2.jo b z) with e | e
    ·exact (f2 b hb).2.1 e
    ·exact (f2 b hb).2.2.1 e
   ·have e:p=(s2.heap.objs.size,oD):=by simpa [Cx.block] using hp
    subst e
    exact Ne.symm (Nat.ne_of_lt (ft b hb))
  refine qb (k:=0) rfl ha' (fun n s'=>∃ i ys its nn σ' H',W i n ys σ' H'/\Inv (X.block scope G.objs.size NB s2 H2 fp) [(s2.heap.objs.size,d8 its nn)] σ' H' s'/\tn i s'.heap/\(∀ b∈fp,H' b=none)/\Vals ys its/\ys.length<=sizeLine)
   ?_ m0 ⟨0,[],[],0,_,H2,w0,I3,st3,fun b hb=>(f2 b hb).1,.nil,Nat.zero_le _⟩
  rintro n s' ⟨i,ys,its,nn,σ',H',w',I',st',fr',rv,hz⟩
  rcases turn i n ys σ' H' w' with ⟨stop,q⟩ | ⟨go,Nx,hNx,step⟩
  ·refine wpAny_mono (T.done (X.block scope G.objs.size NB s2 H2 fp) rfl rfl rfl hc i _ s' _ H' (fun _ _=>False) I' (fy fr') st' stop) (fun r s4 ⟨hr',I4⟩=>?_) fun _ _ z=>z.elim
   subst hr'
   have I5:=zc I2 f2 (Nat.le_refl _) I4 rv hz
   obtain ⟨m4,hn4,_⟩:=I4.loc
   have hfree:H' s2.heap.objs.size=none:=(I4.pin (s2.heap.objs.size,d8 its nn) (by show _∈[]++[(s2.heap.objs.size,d8 its nn)];simp)).2.1
   have fC:eV X pins (upd H' s2.heap.objs.size (.lst ys)) G.objs.size:=I2.rO hCle (by
    rw [au (Ne.symm hDC)]
    exact I4.free)
   exact hRR _ _ _ s4 m4 I5 hn4 fC (q _ hfree)
  ·refine wpAny_mono (T.item (X.block scope G.objs.size NB s2 H2 fp) rfl rfl rfl hc i _ s' _ H' (fun _ _=>False) I' (fy fr') st' go) (fun r s4 ⟨u,hr',h4⟩=>?_) fun _ _ z=>z.elim
   subst hr'
   refine wpAny_mono h4 (fun _ s4 ⟨v,H5,I5,r5,y5,st5,fr5⟩=>?_) fun _ _ z=>z.elim
   have pIt:∀ b∈fp,∃ o,s4.heap.get? b=some o/\∀ v,o.data≠.cell v:=T.obj _ _ st5
   have I5':=I5.pinned (fy fr5) pIt
   refine wpAny_mono (hg _ _ _ _ _ s4 σ' H5 v u _ I5' r5 (step v H5 y5)) (fun _ s6 ⟨σ6,H6,I6,q6⟩=>?_) fun _ _ z=>z.elim
   refine wpAny_mono (ht _ _ _ _ _ s6 σ6 H6 _ I6 q6) (fun b s7 ⟨H7,I7,q7⟩=>?_) fun _ _ z=>z.elim
   have stays:∀ {s9:Shared}{H9:Hp}{σ9:St}{oD:Obj},Inv (X.block scope G.objs.size NB s2 H2 fp) ((s2.heap.objs.size,oD)::gE fp s4.heap) σ9 H9 s9->tn (i + 1) s9.heap/\(∀ b∈fp,H9 b=none)/\Inv (X.block scope G.objs.size NB s2 H2 fp) [(s2.heap.objs.size,oD)] σ9 H9 s9:=fun {s9 H9 σ9 oD} I9=>by
    refine ⟨T.keep _ _ _ st5 fun b hb o e=>(I9.pin (b,o) (List.mem_append_right _ (List.mem_cons_of_mem _ (gg hb e)))).1,fun b hb=>?_,I9.jG fun p hp'=>I9.pin p (List.mem_append_right _ ?_)⟩
    ·obtain ⟨o,e,d⟩:=pIt b hb
     exact (I9.pin (b,o) (List.mem_append_right _ (List.mem_cons_of_mem _ (gg hb e)))).2.1
    ·rw [List.mem_singleton.mp hp']
     exact List.mem_cons_self
   cases b with
   | false =>
    rw [if_neg Bool.false_ne_true] at q7 ⊢
    obtain ⟨m',hm,w7⟩:=hNx _ _ _ q7
    obtain ⟨g1,g2,g3⟩:=stays I7
    exact ⟨m',hm,i + 1,ys,its,nn,σ6,H7,w7,g3,g1,g2,rv,hz⟩
   | true =>
    rw [if_pos rfl] at q7 ⊢
    intro fin' Qf' hf'
    refine hr _ _ _ _ s2.heap.objs.size (Nat.le_refl _) cD (fun _ _ z=>z) (gE fp s4.heap) s7 σ6 H7 ys its nn Nx fin' Qf' _ (fun p hp'=>?_) I7 rv hz q7 fun s8 ys8 its8 nn8 σ8 H8 I8 rv8 hz8 n8=>?_
    ·have hp'':p∈gE fp s4.heap:=hp'
     exact Nat.ne_of_lt (ft _ (nJ hp'').1)
    ·obtain ⟨m',hm,w8⟩:=hNx _ _ _ n8
     obtain ⟨g1,g2,g3⟩:=stays I8
     exact hf' s8 ⟨m',hm,i + 1,ys8,its8,nn8,σ8,H8,w8,g3,g1,g2,rv8,hz8⟩
 exact codeAny_compStart_list (loop _ rfl) (T.self _ 0 _ _ _ (T.keep _ _ _ st2 fun b _ o e=>old b o e) (loop _ rfl))
theorem BZ {elt tg iter:Expr}{ifs:List Expr}{rest:List Comprehension}{pos:Pos}{wi:TI}{g:TG}{tt:TT}{tr:TL}(B:cI X scope vs NB ix)(hc:X.calm=true)(hi:PI X tg iter wi)
  (hg:∀ (C:Addr)(s:Shared)(H:Hp)(fp:List Addr),PG (X.block scope C NB s H fp) tg g)(ht:∀ (C:Addr)(s:Shared)(H:Hp)(fp:List Addr),mV (X.block scope C NB s H fp) ifs tt)
  (hr:∀ (C:Addr)(s:Shared)(H:Hp)(fp:List Addr)(D:Addr),PL (X.block scope C NB s H fp) D elt (⟨tg,iter,ifs,0⟩:: rest) scope pos 1 tr)
  (ha:∀ g∈rest,g.is_async=0:=by decide)(hs:∀ v,foldedSetIterable iter X.env v=pure v:=by intro _;rfl):PE X (.ListComp elt (⟨tg,iter,ifs,0⟩:: rest) scope pos) (k7 wi vs.length ix g tt tr):=by
 intro pins s σ H Q I h
 rw [eval_ListComp]
 refine wpAny_comprehension_free (use:=none) rfl hs (B.clos I) B.kind B.names (aG (hi pins s σ H _ I h) fun v s1 h1=>aG h1 fun itv s2 h2=>?_)
 obtain ⟨it,fp,tn,J,H2,e,I2,T,st2,f2,w⟩:=h2
 subst e
 refine qv (Qr:=Q) (RR:=fun acc C=>compPost (model X.prog X.w) X.A X.xe none (EP X pins σ Q) acc C) B hc hg ht hr ha I2 T st2 f2 w fun D C Hf s' m' I' hn' fC q=>?_
 refine ⟨m',hn',fun h'' hs''=>⟨.ref D,Hf,?_,rfl,q⟩⟩
 obtain ⟨c0,c1,c2,c3,c4,c5⟩:=fC
 exact I'.turned (it:=C) (t':=s'.toks) (fun b o hb e=>hs''.extBut b o hb e) c0 c1 c3 c4 c5
theorem vV {elt tg iter:Expr}{ifs:List Expr}{rest:List Comprehension}{pos py spos:Pos}{wi:TI}{g:TG}{tt:TT}{tr:TL}{j:Nat}{y:Str}(hN:X.N.Nodup)(hj:X.N[j]?=some y)(hy:X.env.scope.names.lookup y=some .local)(B:cI X scope vs NB ix)(hc:X.calm=true)(hi:PI X tg iter wi)
  (hg:∀ (C:Addr)(s:Shared)(H:Hp)(fp:List Addr),PG (X.block scope C NB s H fp) tg g)(ht:∀ (C:Addr)(s:Shared)(H:Hp)(fp:List Addr),mV (X.block scope C NB s H fp) ifs tt)
  (hr:∀ (C:Addr)(s:Shared)(H:Hp)(fp:List Addr)(D:Addr),PL (X.block scope C NB s H fp) D elt (⟨tg,iter,ifs,0⟩:: rest) scope pos 1 tr)
  (hsw:swapsWith (.ListComp elt (⟨tg,iter,ifs,0⟩:: rest) scope pos) (some (.Name y py)) spos.line X.env=pure true)
  (ha:∀ g∈rest,g.is_async=0:=by decide)(hs:∀ v,foldedSetIterable iter X.env v=pure v:=by intro _;rfl):PS X (.Assign [.Name y py] (.ListComp elt (⟨tg,iter,ifs,0⟩:: rest) scope pos) spos) (By (k7 wi vs.length ix g tt tr) (n9 j)):=by
 intro pins s σ H Dn I h
 rw [exec_Assign_Name_used _ _ _ _ hsw]
 refine wpAny_bind (wpAny_standAt (wpAny_bind ?_))
 show wpAny (model X.prog X.w) X.A (comprehension (.ListComp elt (⟨tg,iter,ifs,0⟩:: rest) scope pos) scope X.env _ (newList []) false (eval iter X.env) (some (assign (.Name y py) X.env)) >>= fun _=>pure ()) _ _ s
 refine wpAny_bind (aG (wpAny_comprehension_free (use:=some (assign (.Name y py) X.env)) (Q:=fun _ s'=>SP X pins Dn .next s') rfl hs (B.clos I) B.kind B.names (aG (hi pins s σ H _ I h) fun v s1 h1=>aG h1 fun itv s2 h2=>?_)) fun _ s' q=>wpAny_pure (wpAny_pure q))
 obtain ⟨it,fp,tn,J,H2,e,I2,T,st2,f2,w⟩:=h2
 subst e
 refine qv (Qr:=fun x H1=>n9 j x σ H1 Dn.nx) (RR:=fun acc C=>compPost (model X.prog X.w) X.A X.xe (some (assign (.Name y py) X.env)) (fun _ s'=>SP X pins Dn .next s') acc C) B hc hg ht hr ha I2 T st2 f2 w fun D C Hf s' m' I' hn' fC q=>?_
 obtain ⟨c0,c1,c2,c3,c4,c5⟩:=fC
 show wpAny (model X.prog X.w) X.A (assign (.Name y py) X.env (.ref D)) _ _ s'
 refine wpAny_assign_Name (sR I' hN hj (.inl hy) (v:=.ref D) rfl (fun s'' I'' ⟨a,sb,ha⟩=>?_) (.inr hy))
 have hCa:C≠a:=by
  rcases ha with e | e
  ·rw [e];exact c1
  ·exact fun z=>c4 y a e z.symm
 refine ⟨m',hn'.sameBut sb hCa,fun h3 hs3=>⟨_,Hf,?_,q⟩⟩
 exact I''.turned (it:=C) (t':=s''.toks) (fun b o hb e=>hs3.extBut b o hb e) c0 c1 c3 c4 c5
end
/-! ### the forms one uses -/
end L2
namespace Dv
open PySem L2 PySem.W
section
variable {X:Cx}{Ex:XK}{π:List Nat}{tg:Expr}
/-! ### what is gone through -/
theorem Bl {K:Frag}{a:Addr}{xs:List V}{ds:List PyData}{gn:Hp}(h:cQ K gn a xs)(r:aA K gn xs ds):xo K (DY K a) ds gn:=by
 intro i H Hm s1 s2
 have q:cu K H a xs:=(cQ.mono (s1.trans s2) h).sq
 refine ⟨fun d e=>?_,fun l=>⟨xs,q,by rw [r.len];exact l⟩⟩
 obtain ⟨v,e1,r1⟩:=r.get e
 refine ⟨⟨xs,v,q,e1⟩,fun x H' y=>?_⟩
 obtain ⟨rfl,y⟩:=y
 have:=y xs q
 rw [e1] at this
 cases this
 exact ⟨Hm,aj.refl _,s2,aj.refl _,fun _ _=>.inl rfl,r1.mono s1⟩
theorem EC {K:Frag}{a:Addr}{xs:List V}{ds:List PyData}{gn:Hp}(h:gn a=some (.tup xs))(r:aA K gn xs ds):xo K (CC K a) ds gn:=by
 intro i H Hm s1 s2
 have q:cB K H a xs:=cB.of (s2 _ _ (s1 _ _ h))
 refine ⟨fun d e=>?_,fun l=>⟨xs,q,by rw [r.len];exact l⟩⟩
 obtain ⟨v,e1,r1⟩:=r.get e
 refine ⟨⟨xs,v,q,e1⟩,fun x H' y=>?_⟩
 obtain ⟨rfl,y⟩:=y
 have:=y xs q
 rw [e1] at this
 cases this
 exact ⟨Hm,aj.refl _,s2,aj.refl _,fun _ _=>.inl rfl,r1.mono s1⟩
theorem Et {lo:Int}{n i:Nat}{d:PyData}(h:(jD lo n)[i]?=some d):i < n/\d=.int (lo + i):=by
 unfold jD at h
 rw [List.getElem?_map] at h
 by_cases c:i < n
 ·rw [List.getElem?_range c] at h
  cases h
  exact ⟨c,rfl⟩
 ·rw [List.getElem?_eq_none (by rw [List.length_range];omega)] at h
  cases h
theorem xW {K:Frag}{lo:Int}{n:Nat}{gn:Hp}:xo K (AI lo n) (jD lo n) gn:=by
 intro i H Hm s1 s2
 refine ⟨fun d e=>?_,fun l=>?_⟩
 ·obtain ⟨l,rfl⟩:=Et e
  refine ⟨l,fun x H' y=>?_⟩
  obtain ⟨rfl,rfl⟩:=y
  exact ⟨Hm,aj.refl _,s2,aj.refl _,fun _ _=>.inl rfl,.int _⟩
 ·unfold jD at l
  rw [List.length_map,List.length_range] at l
  exact l
theorem Bo {K:Frag}{H Hm:Hp}{T:Addr}{x y:V}{a b:PyData}(s:aj Hm H)(hT:H T=none)(r1:Rp K Hm x a)(r2:Rp K Hm y b):∃ Hm',aj Hm Hm'/\aj Hm' (upd H T (.tup [x,y]))/\aj H (upd H T (.tup [x,y]))/\(∀ a,H a≠none->OE (Hm' a) (Hm a))/\Rp K Hm' (.ref T) (.tuple [a,b]):=by
 have n:=jk s hT
 have s2:=cX (o:=.tup [x,y]) n
 refine ⟨upd Hm T (.tup [x,y]),s2,fun b o e=>?_,cX hT,fun a ha=>.inl (au fun z=>ha (z ▸ hT)),.tup aL (.cons (r1.mono s2) (.cons (r2.mono s2) .nil))⟩
 by_cases c:b=T
 ·rw [c,aL] at e ⊢;exact e
 ·rw [au c] at e ⊢;exact s _ _ e
theorem Aq {ds:List PyData}{i:Nat}{d:PyData}(h:(jj ds)[i]?=some d):∃ e,ds[i]?=some e/\d=.tuple [.int i,e]:=by
 unfold jj at h
 rw [List.getElem?_map,List.getElem?_zipIdx] at h
 cases e:ds[i]? with
 | none=>rw [e] at h;cases h
 | some a =>
  rw [e] at h
  simp at h
  exact ⟨a,rfl,h.symm⟩
theorem z6 (ds:List PyData):(jj ds).length=ds.length:=by unfold jj;rw [List.length_map,List.length_zipIdx]
theorem Cn {K:Frag}{a:Addr}{xs:List V}{ds:List PyData}{gn:Hp}(h:cQ K gn a xs)(r:aA K gn xs ds):xo K (Hg K a) (jj ds) gn:=by
 intro i H Hm s1 s2
 have q:cu K H a xs:=(cQ.mono (s1.trans s2) h).sq
 refine ⟨fun d e=>?_,fun l=>⟨xs,q,by rw [r.len,<- z6];exact l⟩⟩
 obtain ⟨d0,e0,rfl⟩:=Aq e
 obtain ⟨v,e1,r1⟩:=r.get e0
 refine ⟨⟨xs,v,q,e1⟩,fun x H' y=>?_⟩
 obtain ⟨T,hT,rfl,y⟩:=y
 obtain ⟨x',e2,rfl⟩:=y xs q
 rw [e1] at e2
 cases e2
 exact Bo s2 hT (.int _) (r1.mono s1)
open PyProof.Rows in
theorem Fb {pins:List (Addr×Obj)}{σ:L2.St}{H:Hp}{s:Shared}{R:It->Hp->Prop}{E:Value->Shared->Prop}{a:Addr}{xs:List V}(I:Inv X pins σ H s)(hq:cu X.K H a xs)(q:R (DY X.K a) H):wpAny (model X.prog X.w) X.A (pyIter (.ref a)) (CT X pins σ tg R) E s:=by
 obtain ⟨its,rv,p,hz⟩:=I.list hq
 refine wpAny_pyIter_list p.isList ?_
 refine ⟨s.heap.objs.size,[s.heap.objs.size],_,_,H,rfl,I.kept (t':=s.toks) fun b o e=>Heap.get?_push_of_some _ e,AO a _,⟨_,Heap.get?_push_size _ rfl,rfl,rfl⟩,fun b hb=>?_,q⟩
 have e:b=s.heap.objs.size:=by simpa using hb
 subst e
 exact I.rO (Nat.le_refl _) (I.hok.fresh (Nat.le_refl _))
open PyProof.Rows in
theorem Hq {pins:List (Addr×Obj)}{σ:L2.St}{H:Hp}{s:Shared}{R:It->Hp->Prop}{E:Value->Shared->Prop}{a:Addr}{xs:List V}(I:Inv X pins σ H s)(hq:cB X.K H a xs)(q:R (CC X.K a) H):wpAny (model X.prog X.w) X.A (pyIter (.ref a)) (CT X pins σ tg R) E s:=by
 obtain ⟨its,rv,p,hz⟩:=I.tuple hq
 refine wpAny_pyIter_tuple (show s.heap.IsTuple a its.toArray from p) ?_
 refine ⟨s.heap.objs.size,[s.heap.objs.size],_,_,H,rfl,I.kept (t':=s.toks) fun b o e=>Heap.get?_push_of_some _ e,yY a _,⟨_,Heap.get?_push_size _ rfl,rfl,rfl⟩,fun b hb=>?_,q⟩
 have e:b=s.heap.objs.size:=by simpa using hb
 subst e
 exact I.rO (Nat.le_refl _) (I.hok.fresh (Nat.le_refl _))
theorem dM {e:Expr}{d:DE}(h:SE X Ex π e d):SI X Ex π tg e (iE d):=by
 refine ⟨fun σ H R=>WE X e σ H fun x H1=>(∃ a,x=.ref a/\(∃ xs,cu X.K H1 a xs)/\R (DY X.K a) H1)\/∃ a,x=.ref a/\(∃ xs,cB X.K H1 a xs)/\R (CC X.K a) H1,?_,?_⟩
 ·intro pins s σ H R I h
  refine aG (h pins s I) fun v s1 ⟨x,H1,I1,r1,q1⟩=>?_
  rcases q1 with ⟨a,rfl,⟨xs,hq⟩,q⟩ | ⟨a,rfl,⟨xs,hq⟩,q⟩
  ·cases r1
   exact Fb I1 hq q
  ·cases r1
   exact Hq I1 hq q
 ·intro g x E σ H Hm F P R hx Rl p q
  refine h g x E σ H Hm F _ _ hx Rl p fun E' k v u H' Hm' F' fp p' R' s' T=>?_
  obtain ⟨hk,ds,e1,p'⟩:=p'
  obtain ⟨Hm2,s2,R2,r2⟩:=T.fM R' hk
  cases r2 with
  | lst a r =>
   cases e1
   exact .inl ⟨_,rfl,⟨_,(cQ.mono R2.sub a).sq⟩,q _ _ _ _ _ _ p' R2 (s'.trans s2) (Bl a r)⟩
  | tup a r =>
   cases e1
   exact .inr ⟨_,rfl,⟨_,cB.of (R2.sub _ _ a)⟩,q _ _ _ _ _ _ p' R2 (s'.trans s2) (EC a r)⟩
  | _=>cases e1
def kE:List PyData->Option (List PyData)
 | [.int j]=>if -(2 ^ 62)<=j/\j < 2 ^ 62 then some (jD 0 j.toNat) else none
 | _=>none
def AQ:List PyData->Option (List PyData)
 | [.int i,.int j]=>if -(2 ^ 62)<=i/\i < 2 ^ 62/\-(2 ^ 62)<=j/\j < 2 ^ 62 then some (jD i (j - i).toNat) else none
 | _=>none
theorem vp {g:Gh}{σ:St}{E:En}{H Hm:Hp}{F:Nat->List Addr}{as:List Arg}{os:List (Option PyData)}{vs:List V}{ds:List PyData}{K:Frag}(R:Rl K g E σ H Hm F)(G:Got K σ Hm as os vs)(h:fill as E os=some ds):aA K H vs ds:=jK R R.sub G h fun _ _ _ _=>rfl
theorem Ju {a:Expr}{p pos:Pos}{as:List Arg}(hg:Gl X "range")(hm:X.mg "range"=none)(ns:noStar a=true)(S:aU X Ex π [a] as):SI X Ex π tg (.Call (.Name "range" p) [a] [] pos) (iT kE as):=by
 refine ⟨_,AX hg hm (fK (es:=[a]) (by rw [List.all_cons,ns];rfl)) (b5 ns),fun g x E σ H Hm F P R hx Rl p q=>?_⟩
 refine jW hx S Rl p fun E1 os vs H1 Hm1 F1 p1 R1 s1 G=>?_
 obtain ⟨ds,xs,hf,hg',p1⟩:=p1
 have r:=vp R1 G hf
 unfold kE at hg'
 split at hg'
 ·rename_i j
  obtain ⟨v,rfl,r1⟩:=dR r
  cases r1
  split at hg'
  ·rename_i c
   cases hg'
   exact ⟨j,rfl,c.1,c.2,q _ _ _ _ _ _ p1 R1 s1 xW⟩
  ·cases hg'
 ·cases hg'
theorem Jo {a b:Expr}{p pos:Pos}{as:List Arg}(hg:Gl X "range")(hm:X.mg "range"=none)(ns:noStar a=true)(ns2:noStar b=true)(S:aU X Ex π [a,b] as):SI X Ex π tg (.Call (.Name "range" p) [a,b] [] pos) (iT AQ as):=by
 refine ⟨_,zA hg hm (fK (es:=[a,b]) (by rw [List.all_cons,List.all_cons,ns,ns2];rfl)) ((b5 ns).trans (by rw [b5 ns2];rfl)) (b5 ns2),fun g x E σ H Hm F P R hx Rl p q=>?_⟩
 refine jW hx S Rl p fun E1 os vs H1 Hm1 F1 p1 R1 s1 G=>?_
 obtain ⟨ds,xs,hf,hg',p1⟩:=p1
 have r:=vp R1 G hf
 unfold AQ at hg'
 split at hg'
 ·rename_i i j
  obtain ⟨v,w,rfl,r1,r2⟩:=cW r
  cases r1;cases r2
  split at hg'
  ·rename_i c
   cases hg'
   exact ⟨i,j,rfl,c,q _ _ _ _ _ _ p1 R1 s1 xW⟩
  ·cases hg'
 ·cases hg'
theorem JL {elts:List Expr}{x1:Nat}{tp p pos:Pos}{e:Expr}{d:DE}(hg:Gl X "enumerate")(hm:X.mg "enumerate"=none)(ns:noStar e=true)(h:SE X Ex π e d):SI X Ex π (.Tuple elts x1 tp) (.Call (.Name "enumerate" p) [e] [] pos) (xK d):=by
 refine ⟨_,Ez hg hm (fK (es:=[e]) (by rw [List.all_cons,ns];rfl)) (b5 ns),fun g x E σ H Hm F P R hx Rl p q=>?_⟩
 refine h g x E σ H Hm F _ _ hx Rl p fun E' k v u H' Hm' F' fp p' R' s' T=>?_
 obtain ⟨hk,ds,rfl,p'⟩:=p'
 obtain ⟨Hm2,s2,R2,r2⟩:=T.fM R' hk
 obtain ⟨a,xs,rfl,ha,r⟩:=i7 r2
 exact ⟨a,rfl,⟨xs,(cQ.mono R2.sub ha).sq⟩,q _ _ _ _ _ _ p' R2 (s'.trans s2) (Cn ha r)⟩
end
end Dv
namespace Dv
open PySem L2 PySem.W
/-! ### the judgements,as readings -/
def WG (X:Cx)(tg:Expr):TG:=fun v σ H Q=>∀ (pins:List (Addr×Obj))(s:Shared)(u:Value),Inv X pins σ H s->RelV v u->wpAny (model X.prog X.w) X.A (assign tg X.env u) (fun _ s'=>∃ σ' H',Inv X pins σ' H' s'/\Q σ' H') X.xe s
theorem WG.of {X:Cx}{tg:Expr}{t:TG}{v:V}{σ:St}{H:Hp}{Q:St->Hp->Prop}(h:PG X tg t)(q:t v σ H Q):WG X tg v σ H Q:=fun pins s u I r=>h pins s σ H v u Q I r q
def sA (X:Cx)(ifs:List Expr):TT:=fun σ H Q=>∀ (pins:List (Addr×Obj))(s:Shared),Inv X pins σ H s->wpAny (model X.prog X.w) X.A (forIn ifs true fun c r=>if r=true then do let ok <- isTrue c X.env (eval c X.env);pure (ForInStep.yield ok) else pure (ForInStep.yield r)) (TP X pins σ Q) X.xe s
theorem sA.of {X:Cx}{ifs:List Expr}{t:TT}{σ:St}{H:Hp}{Q:Bool->Hp->Prop}(h:mV X ifs t)(q:t σ H Q):sA X ifs σ H Q:=fun pins s I=>h pins s σ H Q I q
def WL (X:Cx)(D:Addr)(elt:Expr)(gens:List Comprehension)(scope:Scope)(pos:Pos) (k:Nat):TL:=fun ys σ H Q =>
 X.s₀.heap.objs.size<=D->(∀ y c,X.env.cells.lookup y=some c->c≠D)->(∀ e s',X.xe e s'->False) ->
 ∀ (pins:List (Addr×Obj))(s:Shared)(its:List Value) (nn:Nat)(fin:Sem Fin)(Qf:Fin->Shared->Prop)(E:Value->Shared->Prop),
  (∀ p∈X.pn++pins,p.1≠D)->Inv X ((D,d8 its nn)::pins) σ H s->Vals ys its->ys.length<=sizeLine ->
  (∀ s' ys' its' nn' σ' H',Inv X ((D,d8 its' nn')::pins) σ' H' s'->Vals ys' its'->ys'.length<=sizeLine->Q ys' σ' H'->wpAny (model X.prog X.w) X.A fin Qf E s') ->
  wpAny (model X.prog X.w) X.A (iX elt gens scope pos k (.ref D) X.env fin) Qf E s
theorem WL.of {X:Cx}{D:Addr}{elt:Expr}{gens:List Comprehension}{scope:Scope}{pos:Pos}{k:Nat}{t:TL}{ys:List V}{σ:St}{H:Hp}{Q:List V->St->Hp->Prop}(h:PL X D elt gens scope pos k t)(q:t ys σ H Q):WL X D elt gens scope pos k ys σ H Q:=fun h1 h2 h3 pins s its nn fin Qf E hp I rv hz hf=>h h1 h2 h3 pins s σ H ys its nn Q fin Qf E hp I rv hz q hf
/-! ### names that a comprehension has for itself -/
def Agree (cs:List Nat)(σ σ':St):Prop:=σ.length=σ'.length/\∀ j,j∉cs->σ'[j]?=σ[j]?
theorem Agree.refl (cs:List Nat)(σ:St):Agree cs σ σ:=⟨rfl,fun _ _=>rfl⟩
theorem Agree.trans {cs:List Nat}{a b c:St}(h:Agree cs a b)(k:Agree cs b c):Agree cs a c:=⟨h.1.trans k.1,fun j hj=>(k.2 j hj).trans (h.2 j hj)⟩
theorem Agree.symm {cs:List Nat}{a b:St}(h:Agree cs a b):Agree cs b a:=⟨h.1.symm,fun j hj=>(h.2 j hj).symm⟩
section
variable {K:Frag}{g:Gh}{E E0:En}{σ σ':St}{H Hm:Hp}{F:Nat->List Addr}
theorem Rl.Kn (R:Rl K g E σ H Hm F){i:Nat}(o:cy E i=true)(v:Option V):Rl K g (E.set i none) (σ.set i v) H Hm (fun j=>if j=i then [] else F j) where
 len:=by rw [List.length_set,List.length_set];exact R.len
 sub:=R.sub
 slot:=fun j k' d' e'=>by
  by_cases c:j=i
  ·subst c
   rw [aF (jd o)] at e'
   cases e'
  ·rw [ao (Ne.symm c)] at e'
   obtain ⟨u,g1,g2⟩:=R.slot j k' d' e'
   exact ⟨u,by rw [ao (Ne.symm c)];exact g1,by rw [if_neg c];exact g2⟩
 off:=fun j a ha=>by
  by_cases c:j=i
  ·rw [if_pos c] at ha;cases ha
  ·rw [if_neg c] at ha;exact R.off j a ha
 bI:=fun j a ha=>by
  by_cases c:j=i
  ·rw [if_pos c] at ha;cases ha
  ·rw [if_neg c] at ha;exact R.bI j a ha
 aR:=fun j l a g1 g2=>by
  by_cases c:j=i
  ·rw [if_pos c] at g1;cases g1
  ·rw [if_neg c] at g1
   by_cases c':l=i
   ·rw [if_pos c'] at g2;cases g2
   ·rw [if_neg c'] at g2;exact R.aR j l a g1 g2
 fr:=R.fr
 new:=fun j a ha=>by
  by_cases c:j=i
  ·rw [if_pos c] at ha;cases ha
  ·rw [if_neg c] at ha;exact R.new j a ha
 pin:=fun q hq=>by
  obtain ⟨g1,ds',g2⟩:=R.pin q hq
  have c:i≠q.1:=fun z=>by
   unfold cy at o
   rw [z,g2] at o
   cases o
  exact ⟨by rw [ao c];exact g1,ds',by rw [ao c];exact g2⟩
 old:=R.old
theorem Rl.bg:∀ {cs:List Nat}{E E0:En}{σ:St}{F:Nat->List Addr},Rl K g E σ H Hm F->Dv.bg cs E=some E0->∃ σ' F',Rl K g E0 σ' H Hm F'/\Agree cs σ σ'/\(∀ c∈cs,σ'[c]?=some none/\E0[c]?=some none)
 | [],E,E0,σ,F,R,h=>by
  cases h
  exact ⟨σ,F,R,Agree.refl _ _,fun _ z=>by cases z⟩
 | c::cs,E,E0,σ,F,R,h=>by
  rw [Dv.bg] at h
  by_cases o:cy E c=true
  ·rw [if_pos o] at h
   have R1:=R.Kn o none
   obtain ⟨σ',F',R',a,n⟩:=Rl.bg (cs:=cs) R1 h
   have lc:=jd o
   have keep:∀ {l:List Nat}{E E0:En},Dv.bg l E=some E0->∀ j,j∉l->E0[j]?=E[j]?:=by
    intro l
    induction l with
    | nil=>intro E E0 h j _;cases h;rfl
    | cons i l ih =>
     intro E E0 h j hj
     rw [Dv.bg] at h
     by_cases o:cy E i=true
     ·rw [if_pos o] at h
      have ne:i≠j:=fun z=>hj (z ▸ List.mem_cons_self)
      exact (ih h j fun z=>hj (List.mem_cons_of_mem _ z)).trans (ao ne)
     ·rw [if_neg o] at h;cases h
   refine ⟨σ',F',R',⟨by rw [<- a.1,List.length_set],fun j hj=>?_⟩,fun d hd=>?_⟩
   ·have ne:c≠j:=fun z=>hj (z ▸ List.mem_cons_self)
    exact (a.2 j fun z=>hj (List.mem_cons_of_mem _ z)).trans (ao ne)
   ·by_cases m:d∈cs
    ·exact n d m
    ·have e:d=c:=(List.mem_cons.mp hd).resolve_right m
     subst e
     exact ⟨(a.2 d m).trans (aF (R.len ▸ lc)),(keep h d m).trans (aF lc)⟩
  ·rw [if_neg o] at h;cases h
theorem Rl.agree (R:Rl K g E σ H Hm F){cs:List Nat}(a:Agree cs σ σ')(n:∀ c∈cs,E[c]?=some none):Rl K g E σ' H Hm F where
 len:=R.len.trans a.1
 sub:=R.sub
 slot:=fun j k d e=>by
  obtain ⟨v,h1,h2⟩:=R.slot j k d e
  refine ⟨v,?_,h2⟩
  rw [a.2 j fun z=>by rw [n j z] at e;cases e]
  exact h1
 off:=R.off
 bI:=R.bI
 aR:=R.aR
 fr:=R.fr
 new:=R.new
 pin:=fun q hq=>by
  obtain ⟨g1,ds',g2⟩:=R.pin q hq
  refine ⟨?_,ds',g2⟩
  rw [a.2 q.1 fun z=>by rw [n q.1 z] at g2;cases g2]
  exact g1
 old:=R.old
end
inductive iP (X:Cx)(Ex:XK)(π:List Nat):List Expr->DT->Prop
 | nil:iP X Ex π [] eo
 | one {e:Expr}{t:DT}:ST X Ex π e t->iP X Ex π [e] t
theorem iP.ok {X:Cx}{Ex:XK}{π:List Nat}{ifs:List Expr}{t:DT}(h:iP X Ex π ifs t){g:Gh}{x:XC}{E:En}{σ:St}{H Hm:Hp}{F:Nat->List Addr}{P:En->Bool->Prop}{Q:Bool->Hp->Prop}(hx:XL X Ex x g)(R:Rl X.K g E σ H Hm F)(p:t x E P)
  (q:∀ E' b H' Hm' F',P E' b->Rl X.K g E' σ H' Hm' F'->aj Hm Hm'->Q b H'):sA X ifs (sel π σ) H Q:=by
 cases h with
 | nil=>exact sA.of Fy (q _ _ _ _ _ p R (aj.refl _))
 | one h=>exact sA.of (FH jh) (h g x E σ H Hm F P Q hx R p q)
def SL (X:Cx)(π cs:List Nat)(D:Addr)(elt:Expr)(gens:List Comprehension)(scope:Scope)(pos:Pos) (k:Nat)(dc:DC):Prop :=
 ∀ (g:Gh)(E:En)(σ:St)(H Hm:Hp)(F:Nat->List Addr)(ys:List V)(dys:List PyData)(P:List PyData->En->Prop)(Q:List V->St->Hp->Prop),Rl X.K g E σ H Hm F->aA X.K Hm ys dys->dc xF dys E P ->
  (∀ E' dys' ys' σ' H' Hm' F',P dys' E'->Rl X.K g E' σ' H' Hm' F'->aj Hm Hm'->aA X.K Hm' ys' dys'->Agree cs σ σ'->Q ys' (sel π σ') H')->WL X D elt gens scope pos k ys (sel π σ) H Q
section
variable {X:Cx}{Ex:XK}{π cs:List Nat}{D:Addr}{elt tg iter:Expr}{ifs:List Expr}{gens:List Comprehension}{scope:Scope}{pos:Pos}{k:Nat}
theorem E7 {d:DE}(h:SE X Ex π elt d)(hk:gens[k]?=none):SL X π cs D elt gens scope pos k (b7 sizeLine d):=by
 intro g E σ H Hm F ys dys P Q R r p q
 refine WL.of (wK bx hk) (h g xF E σ H Hm F _ _ XL.no R p fun E1 k1 v u H1 Hm1 F1 fp p1 R1 s1 T=>?_)
 obtain ⟨hk,hl,p1⟩:=p1
 obtain ⟨Hm2,s2,R2,r2⟩:=T.fM R1 hk
 exact ⟨by rw [r.len];exact hl,q _ _ _ _ _ _ _ p1 R2 (s1.trans s2) ((r.mono (s1.trans s2)).snoc r2) (Agree.refl _ _)⟩
theorem vW {J:It}{xs:List PyData}{g:Gh}{t:Tg}{c:DT}{r:DC}{G:TG}{tt:TT}{tr:TL}{I:Nat->List PyData->En->Prop}{E1:En}{σ:St}{H1 Hm1:Hp}{F1:Nat->List Addr}{ys:List V}{dys:List PyData}{Q:List V->St->Hp->Prop}{K:Frag}
  (hts:∀ i∈t.slots,i∈cs)(it1:xo K J xs Hm1)(R1:Rl K g E1 σ H1 Hm1 F1)(r0:aA K Hm1 ys dys)(i0:I 0 dys E1)
  (hG:∀ {d:PyData}{v:V}{E E2:En}{σ:St}{H Hm:Hp}{F:Nat->List Addr}{Q:St->Hp->Prop},cH t d E=some E2->Rp K Hm v d->Rl K g E σ H Hm F->(∀ σ' F',Rl K g E2 σ' H Hm F'->(∀ j,j∉t.slots->σ'[j]?=σ[j]?)->Q (sel π σ') H)->G v (sel π σ) H Q)
  (hT:∀ {E:En}{σ:St}{H Hm:Hp}{F:Nat->List Addr}{P:En->Bool->Prop}{Q:Bool->Hp->Prop},Rl K g E σ H Hm F->c xF E P->(∀ E' b H' Hm' F',P E' b->Rl K g E' σ H' Hm' F'->aj Hm Hm'->Q b H')->tt (sel π σ) H Q)
  (hR:∀ {E:En}{σ:St}{H Hm:Hp}{F:Nat->List Addr}{ys:List V}{dys:List PyData}{P:List PyData->En->Prop}{Q:List V->St->Hp->Prop},Rl K g E σ H Hm F->aA K Hm ys dys->r xF dys E P->(∀ E' dys' ys' σ' H' Hm' F',P dys' E'->Rl K g E' σ' H' Hm' F'->aj Hm Hm'->aA K Hm' ys' dys'->Agree cs σ σ'->Q ys' (sel π σ') H')->tr ys (sel π σ) H Q)
  (step:∀ i d ys E,xs[i]?=some d->I i ys E->∃ E2,cH t d E=some E2/\c xF E2 fun E3 b=>if b=true then r xF ys E3 (I (i + 1)) else I (i + 1) ys E3)
  (fin:∀ E' dys' ys' σ' H' Hm' F',I xs.length dys' E'->Rl K g E' σ' H' Hm' F'->aj Hm1 Hm'->aA K Hm' ys' dys'->Agree cs σ σ'->Q ys' (sel π σ') H'):yo J G tt tr ys (sel π σ) H1 Q:=by
 refine ⟨fun i m ys τ H'=>m=xs.length - i/\i<=xs.length/\∃ E' dys' σ' Hm' F',I i dys' E'/\Rl K g E' σ' H' Hm' F'/\aj Hm1 Hm'/\aA K Hm' ys dys'/\Agree cs σ σ'/\τ=sel π σ',⟨xs.length,by simp,Nat.zero_le _,E1,dys,σ,Hm1,F1,i0,R1,aj.refl _,r0,Agree.refl _ _,rfl⟩,?_⟩
 rintro i m ys τ H2 ⟨rfl,hi,E2,dys2,σ2,Hm2,F2,i2,R2,s2,r2,a2,rfl⟩
 obtain ⟨go,stop⟩:=it1 i H2 Hm2 s2 R2.sub
 by_cases c':i < xs.length
 ·obtain ⟨go,oH⟩:=go xs[i] (List.getElem?_eq_getElem c')
  refine .inr ⟨go,fun ys τ H'=>i + 1<=xs.length/\∃ E' dys' σ' Hm' F',I (i + 1) dys' E'/\Rl K g E' σ' H' Hm' F'/\aj Hm1 Hm'/\aA K Hm' ys dys'/\Agree cs σ σ'/\τ=sel π σ',fun ys τ H' z=>⟨xs.length - (i + 1),by omega,rfl,z⟩,fun x H3 y=>?_⟩
  obtain ⟨Hm3,t1,t2,t3,old,rx⟩:=oH x H3 y
  have R3:=R2.turn t1 t2 t3 old
  obtain ⟨E4,e4,p4⟩:=step i xs[i] dys2 E2 (List.getElem?_eq_getElem c') i2
  refine hG e4 rx R3 fun σ4 F4 R4 ag=>?_
  have a4:Agree cs σ σ4:=a2.trans ⟨by rw [<- R3.len,<- R4.len];exact (show E2.length=E4.length from R3.len.trans (by
   have h1:=R3.len;have h2:=R4.len
   have:E4.length=E2.length:=by
    have go:∀ {is:List Nat}{ds:List PyData}{E E':En},b8 is ds E=some E'->E'.length=E.length:=by
     intro is
     induction is with
     | nil=>intro ds E E' h;cases ds with | nil=>cases h;rfl | cons _ _=>cases h
     | cons j is ih =>
      intro ds E E' h
      cases ds with
      | nil=>cases h
      | cons d ds =>
       rw [b8] at h
       by_cases o:cy E j=true
       ·rw [if_pos o] at h
        rw [ih h,List.length_set]
       ·rw [if_neg o] at h;cases h
    cases t with
    | nm j=>exact go (is:=[j]) e4
    | tp js =>
     cases hd:xs[i] with
     | tuple ds=>rw [hd] at e4;exact go (is:=js) e4
     | _=>rw [hd] at e4;cases e4
   omega)),fun j hj=>ag j fun z=>hj (hts j z)⟩
  refine hT R4 p4 fun E5 b H5 Hm5 F5 p5 R5 s5=>?_
  cases b with
  | true =>
   refine ni (hR R5 (r2.mono (t1.trans s5)) (by simpa using p5) fun E6 dys6 ys6 σ6 H6 Hm6 F6 p6 R6 s6 r6 a6=>?_)
   exact ⟨c',E6,dys6,σ6,Hm6,F6,p6,R6,s2.trans (t1.trans (s5.trans s6)),r6,a4.trans a6,rfl⟩
  | false=>exact mQ ⟨c',E5,dys2,σ4,Hm5,F5,by simpa using p5,R5,s2.trans (t1.trans s5),r2.mono (t1.trans s5),a4,rfl⟩
 ·have e:i=xs.length:=by omega
  subst e
  exact .inl ⟨stop (Nat.le_refl _),fin _ _ _ _ _ _ _ i2 R2 s2 r2 a2⟩
theorem Cm {ix:List Nat}{σ:St}:caps ix (sel π σ)=ix.map fun i=>(((π[i]?).map fun m=>(σ[m]?).join)).join:=by
 unfold caps sel
 refine List.map_congr_left fun i _=>?_
 rw [List.getElem?_map]
def bD (π cs ix:List Nat):List Nat:=cs++ix.map fun i=>(π[i]?).getD 0
theorem rj {ix:List Nat}{σ σ0:St}(hix:∀ i∈ix,i < π.length)(aR:∀ c∈cs,c∉π)(a:Agree cs σ σ0)(n:∀ c∈cs,σ0[c]?=some none):List.replicate cs.length none++caps ix (sel π σ)=sel (bD π cs ix) σ0:=by
 unfold bD
 rw [Cm]
 unfold sel
 rw [List.map_append,List.map_map]
 congr 1
 ·refine (List.eq_replicate_iff.mpr ⟨List.length_map ..,fun x hx=>?_⟩).symm
  obtain ⟨c,hc,rfl⟩:=List.mem_map.mp hx
  rw [n c hc]
  rfl
 ·refine List.map_congr_left fun i hi=>?_
  have l:=hix i hi
  show ((π[i]?).map fun m=>(σ[m]?).join).join=(σ0[(π[i]?).getD 0]?).join
  rw [List.getElem?_eq_getElem l]
  show (σ[π[i]]?).join=(σ0[π[i]]?).join
  rw [a.2 π[i] fun z=>aR _ z (List.getElem_mem l)]
theorem wu {rest:List Comprehension}{vs NB:List Str}{ix:List Nat}{di:DI}{t:Tg}{c:DT}{r:DC}(B:cI X scope vs NB ix)(hc:X.calm=true)(hcs:cs.length=vs.length)(hix:∀ i∈ix,i < π.length)(aR:∀ c∈cs,c∉π)(nd:(bD π cs ix).Nodup)
  (hi:SI X Ex π tg iter di)(ht:∀ (C:Addr)(s:Shared)(H:Hp)(fp:List Addr),fW (X.block scope C NB s H fp) (bD π cs ix) tg t)(hts:∀ i∈t.slots,i∈cs)(hif:∀ (C:Addr)(s:Shared)(H:Hp)(fp:List Addr),iP (X.block scope C NB s H fp) E0 (bD π cs ix) ifs c)
  (hr:∀ (C:Addr)(s:Shared)(H:Hp)(fp:List Addr)(D:Addr),SL (X.block scope C NB s H fp) (bD π cs ix) cs D elt (⟨tg,iter,ifs,0⟩:: rest) scope pos 1 r)
  (ha:∀ g∈rest,g.is_async=0)(hs:∀ v,foldedSetIterable iter X.env v=pure v){w:(V->Hp->Prop)->St->Hp->Prop}
  (hw:∀ {wi:TI}{G:TG}{tt:TT}{tr:TL}{σ:St}{H:Hp}{Q:VK},PI X tg iter wi->(∀ (C:Addr)(s:Shared)(H:Hp)(fp:List Addr),PG (X.block scope C NB s H fp) tg G)->(∀ (C:Addr)(s:Shared)(H:Hp)(fp:List Addr),mV (X.block scope C NB s H fp) ifs tt) ->
   (∀ (C:Addr)(s:Shared)(H:Hp)(fp:List Addr)(D:Addr),PL (X.block scope C NB s H fp) D elt (⟨tg,iter,ifs,0⟩:: rest) scope pos 1 tr)->k7 wi vs.length ix G tt tr σ H Q->w Q σ H)
  (g:Gh)(x:XC)(E:En)(σ:St)(H Hm:Hp)(F:Nat->List Addr)(P:En->Kd->PyData->Prop)(Q:VK)(hx:XL X Ex x g)(R:Rl X.K g E σ H Hm F)(p:bV cs di t c r x E P)
  (q:∀ E' k v u H' Hm' F' fp,P E' k v->Rl X.K g E' σ H' Hm' F'->aj Hm Hm'->Tm X.K g F' H' Hm' k u v fp->Q u H'):w Q (sel π σ) H:=by
 obtain ⟨wi,hpi,hwi⟩:=hi
 refine hw (wi:=wi) (G:=fun v σ H Q=>∀ (C:Addr)(s:Shared)(H2:Hp)(fp:List Addr),WG (X.block scope C NB s H2 fp) tg v σ H Q) (tt:=fun σ H Q=>∀ (C:Addr)(s:Shared)(H2:Hp)(fp:List Addr),sA (X.block scope C NB s H2 fp) ifs σ H Q)
  (tr:=fun ys σ H Q=>∀ (C:Addr)(s:Shared)(H2:Hp)(fp:List Addr)(D:Addr),WL (X.block scope C NB s H2 fp) D elt (⟨tg,iter,ifs,0⟩:: rest) scope pos 1 ys σ H Q) hpi (fun C s H2 fp pins s' σ H v u Q I r h=>h C s H2 fp pins s' u I r) (fun C s H2 fp pins s' σ H Q I h=>h C s H2 fp pins s' I)
  (fun C s H2 fp D h1 h2 h3 pins s' σ H ys its nn Q fin Qf E hp I rv hz h hf=>h C s H2 fp D h1 h2 h3 pins s' its nn fin Qf E hp I rv hz hf) ?_
 refine hwi g x E σ H Hm F _ _ hx R p fun E1 xs J H1 Hm1 F1 p1 R1 s1 it1=>?_
 obtain ⟨E0',I,hcl,i0,step,fin⟩:=p1
 obtain ⟨σ0,F0,R0,a0,n0⟩:=R1.bg hcl
 rw [<- hcs,rj hix aR a0 fun c hc=>(n0 c hc).1]
 refine vW (cs:=cs) (t:=t) (c:=c) (r:=r) hts it1 R0 .nil i0 (fun h1 h2 h3 h4 C s H2 fp=>?_) (fun h1 h2 h3 C s H2 fp=>(hif C s H2 fp).ok XL.no h1 h2 h3) (fun h1 h2 h3 h4 C s H2 fp D=>hr C s H2 fp D g _ _ _ _ _ _ _ _ _ h1 h2 h3 h4) step fun E' dys' ys' σ' H' Hm' F' i R' s' r' a' p hp=>?_
 ·obtain ⟨G,g1,g2⟩:=p8 (X:=X.block scope C NB s H2 fp) hc B.nd nd (ht C s H2 fp)
  exact WG.of g1 (g2 h1 h2 h3 h4)
 ·obtain ⟨E2,hcl2,p2⟩:=fin _ _ i
  obtain ⟨σ2,F2,R2,a2,n2⟩:=R'.bg hcl2
  have R3:=R2.agree (cs:=cs) ((a0.trans a').trans a2).symm fun c hc=>(n2 c hc).2
  have s2:=cX (o:=.lst ys') hp
  have R4:=R3.grow (H':=upd H' p (.lst ys')) s2 (aj.refl _) (R3.sub.trans s2) (fun i a ha=>R3.off i a ha) fun _ _=>.inl rfl
  refine q _ _ _ _ _ Hm' F2 [p] p2 R4 (s1.trans s') ⟨.ow aL r',fun a ha=>?_,fun a ha i=>?_,fun a ha=>?_⟩
  ·rw [List.mem_singleton.mp ha];exact R3.qe hp
  ·rw [List.mem_singleton.mp ha];exact R3.fresh hp
  ·rw [List.mem_singleton.mp ha];exact R3.gF hp
end
end Dv
namespace L2
open PySem PySem.Spec PyProof.Rows
structure dH (X:Cx)(scope:Scope) (x:Str)(vs NB:List Str)(ix:List Nat):Prop where
 kind:scope.kind=.function
 cell:∀ y∈scope.names,y.2=.cell->y.1=x
 names:∀ y∈scope.names,y.2=.local->scope.names.lookup y.1=some .local
 free:∀ y,(y,NameKind.free)∈scope.names->(X.env.kindOf y=some .cell\/X.env.kindOf y=some .free)
 uy:(x,NameKind.free)∉scope.names
 var:scope.names.lookup x=some .cell
 nb:NB=vs++ix.map fun i=>X.N.getD i ""
 nd:NB.Nodup
 cap:∀ i∈ix,∃ y,X.N[i]?=some y/\scope.names.lookup y=some .free
 cf:∀ (n:Nat)(acc:List (Str×Addr)),cellsFrom n scope.names acc=(x,n)::acc
 pc:∀ h:Heap,pushCells h scope.names=h.push nU
section
variable {M:Model}{A:Around}{E:Value->Shared->Prop}{s:Shared}{X:Cx}{scope:Scope}{x:Str}{vs NB:List Str}{ix:List Nat}
theorem Ll {cl:List (Str×Addr)}{g:Addr}{ql:Str}{env:Env}{Q:Env->Shared->Prop}(B:dH X scope x vs NB ix)
  (q:Q { scope:=scope,locals:=s.heap.objs.size,globals:=g,cells:=(x,s.heap.objs.size + 1)::cl,qual:=ql,func:=none,code:=env.code,frame:=env.frame,builtins:=env.builtins } { s with heap:=(s.heap.push { cls:=.type "dict",data:=.dict #[] }).push nU }) :
  wpAny M A (newFunctionEnv scope g cl [] ql none .none (some env)) Q E s:=by
 simp only [newFunctionEnv,Option.isSome_some,if_true]
 refine wpAny_bind (wpAny_alloc (?_:_))
 refine wpAny_bind (wpAny_layCells _ (fun name kind cells=>by cases hkc:kind == NameKind.cell <;> simp [hkc]) _ _ _ _ (?_:_))
 rw [B.cf,B.pc]
 rw [show ({ s with heap:=s.heap.push { cls:=.type "dict",data:=.dict #[] } }:Shared).heap.objs.size=s.heap.objs.size + 1 from Heap.size_push ..]
 rw [List.forIn_nil]
 exact wpAny_bind (wpAny_pure (wpAny_pure q))
end
section
variable {X:Cx}{scope:Scope}{x:Str}{vs NB:List Str}{ix:List Nat}{pins:List (Addr×Obj)}{σ:St}{H2:Hp}{s2:Shared}{fp:List Addr}
theorem dH.clos (B:dH X scope x vs NB ix)(I2:Inv X pins σ H2 s2):closureFor scope X.env=pure (b6 X.env.cells scope.names []) :=
 ko fun n hn=>I2.ok.has n (B.free n hn)
theorem dH.look (B:dH X scope x vs NB ix)(I2:Inv X pins σ H2 s2){y:Str}{c c':Addr}(h:((x,c)::b6 X.env.cells scope.names []).lookup y=some c'):(y=x/\c'=c)\/X.env.cells.lookup y=some c':=by
 rw [List.lookup_cons] at h
 cases q:(y == x) with
 | true =>
  rw [q] at h
  exact .inl ⟨by simpa using q,(Option.some.inj h).symm⟩
 | false =>
  rw [q] at h
  rcases kH _ _ h with ⟨m,e⟩ | e
  ·obtain ⟨c2,hc⟩:=I2.ok.has y (B.free y m)
   rw [hc] at e ⊢
   exact .inr (congrArg some e)
  ·cases e
theorem dH.apart (B:dH X scope x vs NB ix)(I2:Inv X pins σ H2 s2){y:Str}{c c' b:Addr}(hc:s2.heap.objs.size<=c)(h:((x,c)::b6 X.env.cells scope.names []).lookup y=some c')(hb:b < s2.heap.objs.size)(nb:∀ z d,X.env.cells.lookup z=some d->d≠b):c'≠b:=by
 rcases B.look I2 h with ⟨_,rfl⟩ | e
 ·exact Nat.ne_of_gt (Nat.lt_of_lt_of_le hb hc)
 ·exact nb y c' e
theorem zI (B:dH X scope x vs NB ix)(I2:Inv X pins σ H2 s2){C c:Addr}(hC:s2.heap.objs.size<=C)(hc:s2.heap.objs.size<=c)(f2:∀ b∈fp,eV X pins H2 b)(ft:∀ b∈fp,b < s2.heap.objs.size):(X.aW scope x C c NB s2 H2 fp).Ok where
 mod:=I2.ok.mod
 kind:=B.kind
 glob:=I2.ok.glob
 blt:=I2.ok.blt
 above:=hC
 inj:=fun a b d h1 h2=>by
  rcases B.look I2 h1 with ⟨e1,e2⟩ | e1 <;> rcases B.look I2 h2 with ⟨e3,e4⟩ | e3
  ·rw [e1,e3]
  ·exact absurd (Nat.lt_of_lt_of_le (pN I2 e3) (e2 ▸ hc)) (Nat.lt_irrefl _)
  ·exact absurd (Nat.lt_of_lt_of_le (pN I2 e1) (e4 ▸ hc)) (Nat.lt_irrefl _)
  ·exact I2.ok.inj a b d e1 e3
 has:=fun y hy=>by
  show ∃ d,((x,c)::b6 X.env.cells scope.names []).lookup y=some d
  rw [List.lookup_cons]
  cases q:(y == x) with
  | true=>exact ⟨c,rfl⟩
  | false =>
   have nx:y≠x:=fun z=>by rw [z,beq_self_eq_true] at q;cases q
   have key:∀ k,(relabel scope X.env).names.lookup y=some k->(k=.cell\/k=.free)->∃ d,(b6 X.env.cells scope.names []).lookup y=some d:=fun k hk kk=>by
    rcases pV (names:=scope.names) hk with e | ⟨e,_⟩
    ·rcases kk with rfl | rfl
     ·exact absurd (B.cell _ (dB e) rfl) nx
     ·exact fm _ _ (.inl (dB e))
    ·exact fm _ _ (.inl (dB e))
   rcases hy with e | e
   ·exact key _ e (.inl rfl)
   ·exact key _ e (.inr rfl)
 zY:=fun y d z e=>by
  rcases B.look I2 e with ⟨_,rfl⟩ | e
  ·exact hc
  ·have z:(y == x)=true:=z
   have yx:y=x:=by simpa using z
   have h:((x,c)::b6 X.env.cells scope.names []).lookup y=some d:=‹_›
   rw [List.lookup_cons,z] at h
   cases h
   exact hc
 hd:=I2.ok.hd
 frames:=I2.ok.frames
 stk:=.inl rfl
 KJ:=fun b hb=>⟨Nat.ne_of_lt (Nat.lt_of_lt_of_le (ft b hb) hC),fun y d e=>B.apart I2 hc e (ft b hb) (f2 b hb).2.2.2.2.1⟩
 bs:=I2.bs
 sW:=Nat.le_trans I2.ok.sW I2.sz
 rS:=fun b o e hb=>by
  rcases (f2 b hb).2.2.2.1 with z | z
  ·exact I2.ok.rS b o e z
  ·exact absurd (Nat.lt_of_lt_of_le (Heap.lt_size (I2.ok.bs b o e).1) z) (Nat.lt_irrefl _)
 yw:=fun b hb z=>by
  rcases List.mem_cons.mp (I2.jo b z) with e | e
  ·exact (f2 b hb).2.1 e
  ·exact (f2 b hb).2.2.1 e
 jQ:=I2.stack
 wz:=I2.nO
theorem yD (B:dH X scope x vs NB ix)(I2:Inv X pins σ H2 s2){C c D:Addr}{h1:Heap}{tk:Nat}{m:Str->Option Value}{oD:Obj}(hC:s2.heap.objs.size<=C)(hD:s2.heap.objs.size<=D)(hDC:D≠C)(hc:s2.heap.objs.size<=c)(hcc:h1.IsCell c none)(f2:∀ b∈fp,eV X pins H2 b)(ft:∀ b∈fp,b < s2.heap.objs.size)
  (old:∀ b o,s2.heap.get? b=some o->h1.get? b=some o)(hn:h1.Ns C m)(ho:h1.get? D=some oD)(hcl:∀ v,oD.data≠.cell v) :
  Inv (X.aW scope x C c NB s2 H2 fp) [(D,oD)] (List.replicate vs.length none++caps ix σ) H2 { s2 with heap:=h1,toks:=tk } where
 ok:=zI B I2 hC hc f2 ft
 os:=rfl
 bare:=I2.bare
 base:=Un.kept old
 loc:=by
  refine ⟨m,hn,fun i y v e1 e2 _=>?_⟩
  have e1:NB[i]?=some y:=e1
  by_cases li:i < vs.length
  ·rw [List.getElem?_append_left (by rw [List.length_replicate];exact li),List.getElem?_replicate,if_pos li] at e2
   cases e2
  ·obtain ⟨j,rfl⟩:∃ j,i=vs.length + j:=⟨i - vs.length,by omega⟩
   have e2:(caps ix σ)[j]?=some (some v):=by
    rw [List.getElem?_append_right (by rw [List.length_replicate];omega),List.length_replicate,Nat.add_sub_cancel_left] at e2
    exact e2
   rw [B.nb] at e1
   have e1:(ix.map fun i=>X.N.getD i "")[j]?=some y:=by
    rw [List.getElem?_append_right (by omega),Nat.add_sub_cancel_left] at e1
    exact e1
   rw [List.getElem?_map] at e1
   unfold caps at e2
   rw [List.getElem?_map] at e2
   cases q:ix[j]? with
   | none=>rw [q] at e1;cases e1
   | some i =>
    rw [q] at e1 e2
    obtain ⟨z,hz,fz⟩:=B.cap i (List.mem_of_getElem? q)
    have ey:y=z:=by
     have w:X.N.getD i ""=y:=Option.some.inj e1
     rw [<- w,List.getD_eq_getElem?_getD,hz]
     rfl
    subst ey
    have e2:(σ[i]?).join=some v:=Option.some.inj e2
    have es:σ[i]?=some (some v):=by
     cases w:σ[i]? with
     | none=>rw [w] at e2;cases e2
     | some o=>rw [w] at e2;exact congrArg some e2
    have fk:=B.free y (dB fz)
    have vis:kY X.env.scope y:=.inr fk
    obtain ⟨mm,_,hl⟩:=I2.loc
    obtain ⟨u,ru,lk⟩:=hl i y v hz es vis
    refine ⟨u,ru,.inr ⟨?_,?_⟩⟩
    ·rcases l6 (env:=X.env) (names:=scope.names) fz with e | ⟨_,e⟩
     ·exact .inr e
     ·exact .inl e
    ·rcases lk with ⟨lk,_⟩ | ⟨_,d,hd,hcell⟩
     ·rcases fk with fk | fk
      ·rw [lk] at fk;cases fk
      ·rw [lk] at fk;cases fk
     ·obtain ⟨c',hc'⟩:=fm (cells:=X.env.cells) scope.names [] (.inl (dB fz))
      have nx:(y == x)=false:=by
       cases q:(y == x) with
       | false=>rfl
       | true =>
        have e:y=x:=by simpa using q
        exact absurd (e ▸ dB fz) B.uy
      have hc2:((x,c)::b6 X.env.cells scope.names []).lookup y=some c':=by
       rw [List.lookup_cons,nx]
       exact hc'
      have e3:X.env.cells.lookup y=some c':=by
       rcases B.look I2 hc2 with ⟨e,_⟩ | e
       ·rw [e,beq_self_eq_true] at nx
        cases nx
       ·exact e
      rw [hd] at e3
      cases e3
      obtain ⟨oc,g1,g2⟩:=hcell
      exact ⟨d,hc2,oc,old _ _ g1,g2⟩
 cell:=fun y d e=>by
  rcases B.look I2 e with ⟨_,rfl⟩ | e
  ·exact ⟨none,hcc⟩
  ·obtain ⟨v,o,g1,g2⟩:=I2.cell y d e
   exact ⟨v,o,old _ _ g1,g2⟩
 free:=I2.hok.fresh hC
 iw:=fun y d e=>by
  rcases B.look I2 e with ⟨_,rfl⟩ | e
  ·exact I2.hok.fresh hc
  ·exact I2.iw y d e
 pin:=fun p hp=>by
  have e:p=(D,oD):=by simpa [Cx.aW] using hp
  subst e
  refine ⟨ho,I2.hok.fresh hD,hDC,fun z=>?_,hcl⟩
  rcases List.mem_cons.mp (I2.jo D z) with e | e
  ·have e:D=X.env.locals:=e
   exact absurd (Nat.lt_of_lt_of_le I2.lt (e ▸ hD)) (Nat.lt_irrefl _)
  ·exact I2.BJ hD e
 hok:=I2.hok.kept old
 len:=by
  show (List.replicate vs.length none++caps ix σ).length=NB.length
  rw [B.nb,List.length_append,List.length_append,vc,List.length_map,List.length_replicate]
end
section
variable {X:Cx}{scope:Scope}{x:Str}{vs:List Str}{NB:List Str}{ix:List Nat}
theorem yT {elt tg iter:Expr}{ifs:List Expr}{rest:List Comprehension}{pos:Pos}{g:TG}{tt:TT}{tr:TL}{J:It}{it:Addr}{tn:Nat->Heap->Prop}{fp:List Addr}{pins:List (Addr×Obj)}{σ:St}{H2:Hp}{s2:Shared}{E:Value->Shared->Prop}{RR:Value->Addr->Result->Shared->Prop}{Qr:VK}(B:dH X scope x vs NB ix)(hc:X.calm=true)
  (hg:∀ (C c:Addr)(s:Shared)(H:Hp)(fp:List Addr),PG (X.aW scope x C c NB s H fp) tg g)(ht:∀ (C c:Addr)(s:Shared)(H:Hp)(fp:List Addr),mV (X.aW scope x C c NB s H fp) ifs tt)
  (hr:∀ (C c:Addr)(s:Shared)(H:Hp)(fp:List Addr)(D:Addr),PL (X.aW scope x C c NB s H fp) D elt (⟨tg,iter,ifs,0⟩:: rest) scope pos 1 tr)
  (ha:∀ g∈rest,g.is_async=0)(I2:Inv X pins σ H2 s2)(T:Turn X.prog X.w X.K tg J fp it tn)(st2:tn 0 s2.heap)(f2:∀ b∈fp,eV X pins H2 b)(h:yo J g tt tr [] (List.replicate vs.length none++caps ix σ) H2 fun ys _ H'=>∀ p,H' p=none->Qr (.ref p) (upd H' p (.lst ys)))
  (hRR:∀ (D C:Addr)(Hf:Hp)(s':Shared)(m':Str->Option Value),Inv X pins σ Hf s'->s'.heap.Ns C m'->eV X pins Hf C->Qr (.ref D) Hf->RR (.ref D) C (.ok .next) s') :
  wpAny (model X.prog X.w) X.A (newList []) (fun acc s3=>wpAny (model X.prog X.w) X.A (newFunctionEnv scope X.env.globals (b6 X.env.cells scope.names []) [] X.env.qual none .none (some X.env)) (fun cenv s4 =>
   codeAny (model X.prog X.w) X.A (.compStart (.ListComp elt (⟨tg,iter,ifs,0⟩:: rest) scope pos) 0 (.ref it) acc { cenv with scope:=relabel scope X.env }) (RR acc cenv.locals) s4) E s3) E s2:=by
 obtain ⟨W,⟨m0,w0⟩,turn⟩:=h
 have ha':∀ g∈(⟨tg,iter,ifs,0⟩:Comprehension)::rest,g.is_async=0:=fun g hg=>by
  rcases List.mem_cons.mp hg with rfl | hg
  ·rfl
  ·exact ha g hg
 refine wpAny_newObj_type (Ll B ?_)
 dsimp only
 generalize eG:s2.heap.push { cls:=.type "list",dict:=none,data:=.seq ([]:List Value).toArray }=G
 obtain ⟨h1,eh1⟩:∃ h1,h1=(G.push { cls:=.type "dict",data:=.dict #[] }).push { cls:=.type "cell",data:=.cell none }:=⟨_,rfl⟩
 rw [<- eh1]
 have hC:G.objs.size=s2.heap.objs.size + 1:=by rw [<- eG,Heap.size_push]
 have hDC:s2.heap.objs.size≠G.objs.size:=by rw [hC];exact Nat.ne_of_lt (Nat.lt_succ_self _)
 have hCle:s2.heap.objs.size<=G.objs.size:=by rw [hC];exact Nat.le_succ _
 have up:∀ b o,G.get? b=some o->h1.get? b=some o:=fun b o e=>by
  rw [eh1]
  exact Heap.get?_push_of_some _ (Heap.get?_push_of_some _ e)
 have old:∀ b o,s2.heap.get? b=some o->h1.get? b=some o:=fun b o e=>up b o (eG ▸ Heap.get?_push_of_some _ e)
 have hacc:h1.get? s2.heap.objs.size=some (d8 [] 0):=up _ _ (eG ▸ Heap.get?_push_size _ rfl)
 have hns:h1.Ns G.objs.size (fun _=>none):=by
  rw [eh1]
  exact (Heap.Ns.new G (.type "dict")).keeps fun b o e=>Heap.get?_push_of_some _ e
 have hcc:h1.IsCell (G.objs.size + 1) none:=by
  rw [eh1]
  refine ⟨nU,?_,rfl⟩
  have e:=Heap.get?_push_size (G.push { cls:=.type "dict",data:=.dict #[] }) (o:=nU) rfl
  rw [Heap.size_push] at e
  exact e
 have hcle:s2.heap.objs.size<=G.objs.size + 1:=Nat.le_succ_of_le hCle
 have ft:∀ b∈fp,b < s2.heap.objs.size:=fun b hb=>by
  obtain ⟨o,e,_⟩:=T.obj _ _ st2 b hb
  exact Heap.lt_size e
 have cD:∀ y c,(X.aW scope x G.objs.size (G.objs.size + 1) NB s2 H2 fp).env.cells.lookup y=some c->c≠s2.heap.objs.size:=fun y c e z=>by
  rcases B.look I2 e with ⟨_,e4⟩ | e4
  ·rw [e4,hC] at z
   exact absurd z (Nat.ne_of_gt (Nat.lt_succ_of_lt (Nat.lt_succ_self _)))
  ·exact Nat.lt_irrefl _ (z ▸ pN I2 e4)
 have loop:∀ s3:Shared,s3={ s2 with heap:=h1 } ->
   codeAny (model X.prog X.w) X.A (.compLoop (.ListComp elt (⟨tg,iter,ifs,0⟩:: rest) scope pos) 0 (.ref it) (.ref s2.heap.objs.size) (compEnvC scope ((x,G.objs.size + 1)::b6 X.env.cells scope.names []) G.objs.size X.env))
    (RR (.ref s2.heap.objs.size) G.objs.size) s3:=by
  rintro s3 rfl
  have I3:=yD (tk:=s2.toks) B I2 hCle (Nat.le_refl _) hDC hcle hcc f2 ft old hns hacc (fun v q=>by cases q)
  have st3:tn 0 h1:=T.keep _ _ _ st2 fun b _ o e=>old b o e
  have fy:∀ {H':Hp}{oD:Obj},(∀ b∈fp,H' b=none)->∀ b∈fp,eV (X.aW scope x G.objs.size (G.objs.size + 1) NB s2 H2 fp) [(s2.heap.objs.size,oD)] H' b:=fun {H' oD} hn b hb=>by
   refine ⟨hn b hb,Nat.ne_of_lt (Nat.lt_of_lt_of_le (ft b hb) hCle),fun z=>?_,.inl hb,fun y c e=>B.apart I2 hcle e (ft b hb) (f2 b hb).2.2.2.2.1,fun p hp=>?_⟩
   ·rcases List.mem_cons.mp (I2.jo b z) with e | e
    ·exact (f2 b hb).2.1 e
    ·exact (f2 b hb).2.2.1 e
   ·have e:p=(s2.heap.objs.size,oD):=by simpa [Cx.aW] using hp
    subst e
    exact Ne.symm (Nat.ne_of_lt (ft b hb))
  refine qb (k:=0) rfl ha' (fun n s'=>∃ i ys its nn σ' H',W i n ys σ' H'/\Inv (X.aW scope x G.objs.size (G.objs.size + 1) NB s2 H2 fp) [(s2.heap.objs.size,d8 its nn)] σ' H' s'/\tn i s'.heap/\(∀ b∈fp,H' b=none)/\Vals ys its/\ys.length<=sizeLine)
   ?_ m0 ⟨0,[],[],0,_,H2,w0,I3,st3,fun b hb=>(f2 b hb).1,.nil,Nat.zero_le _⟩
  rintro n s' ⟨i,ys,its,nn,σ',H',w',I',st',fr',rv,hz⟩
  rcases turn i n ys σ' H' w' with ⟨stop,q⟩ | ⟨go,Nx,hNx,step⟩
  ·refine wpAny_mono (T.done (X.aW scope x G.objs.size (G.objs.size + 1) NB s2 H2 fp) rfl rfl rfl hc i _ s' _ H' (fun _ _=>False) I' (fy fr') st' stop) (fun r s4 ⟨hr',I4⟩=>?_) fun _ _ z=>z.elim
   subst hr'
   have I5:=za I2 f2 (Nat.le_refl _) I4 rv hz
   obtain ⟨m4,hn4,_⟩:=I4.loc
   have hfree:H' s2.heap.objs.size=none:=(I4.pin (s2.heap.objs.size,d8 its nn) (by show _∈[]++[(s2.heap.objs.size,d8 its nn)];simp)).2.1
   have fC:eV X pins (upd H' s2.heap.objs.size (.lst ys)) G.objs.size:=I2.rO hCle (by
    rw [au (Ne.symm hDC)]
    exact I4.free)
   exact hRR _ _ _ s4 m4 I5 hn4 fC (q _ hfree)
  ·refine wpAny_mono (T.item (X.aW scope x G.objs.size (G.objs.size + 1) NB s2 H2 fp) rfl rfl rfl hc i _ s' _ H' (fun _ _=>False) I' (fy fr') st' go) (fun r s4 ⟨u,hr',h4⟩=>?_) fun _ _ z=>z.elim
   subst hr'
   refine wpAny_mono h4 (fun _ s4 ⟨v,H5,I5,r5,y5,st5,fr5⟩=>?_) fun _ _ z=>z.elim
   have pIt:∀ b∈fp,∃ o,s4.heap.get? b=some o/\∀ v,o.data≠.cell v:=T.obj _ _ st5
   have I5':=I5.pinned (fy fr5) pIt
   refine wpAny_mono (hg _ _ _ _ _ _ s4 σ' H5 v u _ I5' r5 (step v H5 y5)) (fun _ s6 ⟨σ6,H6,I6,q6⟩=>?_) fun _ _ z=>z.elim
   refine wpAny_mono (ht _ _ _ _ _ _ s6 σ6 H6 _ I6 q6) (fun b s7 ⟨H7,I7,q7⟩=>?_) fun _ _ z=>z.elim
   have stays:∀ {s9:Shared}{H9:Hp}{σ9:St}{oD:Obj},Inv (X.aW scope x G.objs.size (G.objs.size + 1) NB s2 H2 fp) ((s2.heap.objs.size,oD)::gE fp s4.heap) σ9 H9 s9->tn (i + 1) s9.heap/\(∀ b∈fp,H9 b=none)/\Inv (X.aW scope x G.objs.size (G.objs.size + 1) NB s2 H2 fp) [(s2.heap.objs.size,oD)] σ9 H9 s9:=fun {s9 H9 σ9 oD} I9=>by
    refine ⟨T.keep _ _ _ st5 fun b hb o e=>(I9.pin (b,o) (List.mem_append_right _ (List.mem_cons_of_mem _ (gg hb e)))).1,fun b hb=>?_,I9.jG fun p hp'=>I9.pin p (List.mem_append_right _ ?_)⟩
    ·obtain ⟨o,e,d⟩:=pIt b hb
     exact (I9.pin (b,o) (List.mem_append_right _ (List.mem_cons_of_mem _ (gg hb e)))).2.1
    ·rw [List.mem_singleton.mp hp']
     exact List.mem_cons_self
   cases b with
   | false =>
    rw [if_neg Bool.false_ne_true] at q7 ⊢
    obtain ⟨m',hm,w7⟩:=hNx _ _ _ q7
    obtain ⟨g1,g2,g3⟩:=stays I7
    exact ⟨m',hm,i + 1,ys,its,nn,σ6,H7,w7,g3,g1,g2,rv,hz⟩
   | true =>
    rw [if_pos rfl] at q7 ⊢
    intro fin' Qf' hf'
    refine hr _ _ _ _ _ s2.heap.objs.size (Nat.le_refl _) cD (fun _ _ z=>z) (gE fp s4.heap) s7 σ6 H7 ys its nn Nx fin' Qf' _ (fun p hp'=>?_) I7 rv hz q7 fun s8 ys8 its8 nn8 σ8 H8 I8 rv8 hz8 n8=>?_
    ·have hp'':p∈gE fp s4.heap:=hp'
     exact Nat.ne_of_lt (ft _ (nJ hp'').1)
    ·obtain ⟨m',hm,w8⟩:=hNx _ _ _ n8
     obtain ⟨g1,g2,g3⟩:=stays I8
     exact hf' s8 ⟨m',hm,i + 1,ys8,its8,nn8,σ8,H8,w8,g3,g1,g2,rv8,hz8⟩
 exact codeAny_compStart_list (loop _ rfl) (T.self _ 0 _ _ _ (T.keep _ _ _ st2 fun b _ o e=>old b o e) (loop _ rfl))
theorem BV {elt tg iter:Expr}{ifs:List Expr}{rest:List Comprehension}{pos:Pos}{wi:TI}{g:TG}{tt:TT}{tr:TL}(B:dH X scope x vs NB ix)(hc:X.calm=true)(hi:PI X tg iter wi)
  (hg:∀ (C c:Addr)(s:Shared)(H:Hp)(fp:List Addr),PG (X.aW scope x C c NB s H fp) tg g)(ht:∀ (C c:Addr)(s:Shared)(H:Hp)(fp:List Addr),mV (X.aW scope x C c NB s H fp) ifs tt)
  (hr:∀ (C c:Addr)(s:Shared)(H:Hp)(fp:List Addr)(D:Addr),PL (X.aW scope x C c NB s H fp) D elt (⟨tg,iter,ifs,0⟩:: rest) scope pos 1 tr)
  (ha:∀ g∈rest,g.is_async=0:=by decide)(hs:∀ v,foldedSetIterable iter X.env v=pure v:=by intro _;rfl):PE X (.ListComp elt (⟨tg,iter,ifs,0⟩:: rest) scope pos) (k7 wi vs.length ix g tt tr):=by
 intro pins s σ H Q I h
 rw [eval_ListComp]
 refine wpAny_comprehension_free (use:=none) rfl hs (B.clos I) B.kind B.names (aG (hi pins s σ H _ I h) fun v s1 h1=>aG h1 fun itv s2 h2=>?_)
 obtain ⟨it,fp,tn,J,H2,e,I2,T,st2,f2,w⟩:=h2
 subst e
 refine yT (Qr:=Q) (RR:=fun acc C=>compPost (model X.prog X.w) X.A X.xe none (EP X pins σ Q) acc C) B hc hg ht hr ha I2 T st2 f2 w fun D C Hf s' m' I' hn' fC q=>?_
 refine ⟨m',hn',fun h'' hs''=>⟨.ref D,Hf,?_,rfl,q⟩⟩
 obtain ⟨c0,c1,c2,c3,c4,c5⟩:=fC
 exact I'.turned (it:=C) (t':=s'.toks) (fun b o hb e=>hs''.extBut b o hb e) c0 c1 c3 c4 c5
end
end L2
namespace Dv
open PySem L2 PySem.W
section
variable {X:Cx}{Ex:XK}{π cs:List Nat}{elt tg iter:Expr}{ifs:List Expr}{scope:Scope}{pos:Pos}
theorem Cf {cx:Str}{rest:List Comprehension}{vs NB:List Str}{ix:List Nat}{di:DI}{t:Tg}{c:DT}{r:DC}(B:dH X scope cx vs NB ix)(hc:X.calm=true)(hcs:cs.length=vs.length)(hix:∀ i∈ix,i < π.length)(aR:∀ c∈cs,c∉π)(nd:(bD π cs ix).Nodup)
  (hi:SI X Ex π tg iter di)(ht:∀ (C c':Addr)(s:Shared)(H:Hp)(fp:List Addr),fW (X.aW scope cx C c' NB s H fp) (bD π cs ix) tg t)(hts:∀ i∈t.slots,i∈cs)(hif:∀ (C c':Addr)(s:Shared)(H:Hp)(fp:List Addr),iP (X.aW scope cx C c' NB s H fp) E0 (bD π cs ix) ifs c)
  (hr:∀ (C c':Addr)(s:Shared)(H:Hp)(fp:List Addr)(D:Addr),SL (X.aW scope cx C c' NB s H fp) (bD π cs ix) cs D elt (⟨tg,iter,ifs,0⟩:: rest) scope pos 1 r)
  (ha:∀ g∈rest,g.is_async=0)(hs:∀ v,foldedSetIterable iter X.env v=pure v){w:(V->Hp->Prop)->St->Hp->Prop}
  (hw:∀ {wi:TI}{G:TG}{tt:TT}{tr:TL}{σ:St}{H:Hp}{Q:VK},PI X tg iter wi->(∀ (C c':Addr)(s:Shared)(H:Hp)(fp:List Addr),PG (X.aW scope cx C c' NB s H fp) tg G)->(∀ (C c':Addr)(s:Shared)(H:Hp)(fp:List Addr),mV (X.aW scope cx C c' NB s H fp) ifs tt) ->
   (∀ (C c':Addr)(s:Shared)(H:Hp)(fp:List Addr)(D:Addr),PL (X.aW scope cx C c' NB s H fp) D elt (⟨tg,iter,ifs,0⟩:: rest) scope pos 1 tr)->k7 wi vs.length ix G tt tr σ H Q->w Q σ H)
  (g:Gh)(x:XC)(E:En)(σ:St)(H Hm:Hp)(F:Nat->List Addr)(P:En->Kd->PyData->Prop)(Q:VK)(hx:XL X Ex x g)(R:Rl X.K g E σ H Hm F)(p:bV cs di t c r x E P)
  (q:∀ E' k v u H' Hm' F' fp,P E' k v->Rl X.K g E' σ H' Hm' F'->aj Hm Hm'->Tm X.K g F' H' Hm' k u v fp->Q u H'):w Q (sel π σ) H:=by
 obtain ⟨wi,hpi,hwi⟩:=hi
 refine hw (wi:=wi) (G:=fun v σ H Q=>∀ (C c':Addr)(s:Shared)(H2:Hp)(fp:List Addr),WG (X.aW scope cx C c' NB s H2 fp) tg v σ H Q) (tt:=fun σ H Q=>∀ (C c':Addr)(s:Shared)(H2:Hp)(fp:List Addr),sA (X.aW scope cx C c' NB s H2 fp) ifs σ H Q)
  (tr:=fun ys σ H Q=>∀ (C c':Addr)(s:Shared)(H2:Hp)(fp:List Addr)(D:Addr),WL (X.aW scope cx C c' NB s H2 fp) D elt (⟨tg,iter,ifs,0⟩:: rest) scope pos 1 ys σ H Q) hpi (fun C c' s H2 fp pins s' σ H v u Q I r h=>h C c' s H2 fp pins s' u I r) (fun C c' s H2 fp pins s' σ H Q I h=>h C c' s H2 fp pins s' I)
  (fun C c' s H2 fp D h1 h2 h3 pins s' σ H ys its nn Q fin Qf E hp I rv hz h hf=>h C c' s H2 fp D h1 h2 h3 pins s' its nn fin Qf E hp I rv hz hf) ?_
 refine hwi g x E σ H Hm F _ _ hx R p fun E1 xs J H1 Hm1 F1 p1 R1 s1 it1=>?_
 obtain ⟨E0',I,hcl,i0,step,fin⟩:=p1
 obtain ⟨σ0,F0,R0,a0,n0⟩:=R1.bg hcl
 rw [<- hcs,rj hix aR a0 fun c hc=>(n0 c hc).1]
 refine vW (cs:=cs) (t:=t) (c:=c) (r:=r) hts it1 R0 .nil i0 (fun h1 h2 h3 h4 C c' s H2 fp=>?_) (fun h1 h2 h3 C c' s H2 fp=>(hif C c' s H2 fp).ok XL.no h1 h2 h3) (fun h1 h2 h3 h4 C c' s H2 fp D=>hr C c' s H2 fp D g _ _ _ _ _ _ _ _ _ h1 h2 h3 h4) step fun E' dys' ys' σ' H' Hm' F' i R' s' r' a' p hp=>?_
 ·obtain ⟨G,g1,g2⟩:=p8 (X:=X.aW scope cx C c' NB s H2 fp) hc B.nd nd (ht C c' s H2 fp)
  exact WG.of g1 (g2 h1 h2 h3 h4)
 ·obtain ⟨E2,hcl2,p2⟩:=fin _ _ i
  obtain ⟨σ2,F2,R2,a2,n2⟩:=R'.bg hcl2
  have R3:=R2.agree (cs:=cs) ((a0.trans a').trans a2).symm fun c hc=>(n2 c hc).2
  have s2:=cX (o:=.lst ys') hp
  have R4:=R3.grow (H':=upd H' p (.lst ys')) s2 (aj.refl _) (R3.sub.trans s2) (fun i a ha=>R3.off i a ha) fun _ _=>.inl rfl
  refine q _ _ _ _ _ Hm' F2 [p] p2 R4 (s1.trans s') ⟨.ow aL r',fun a ha=>?_,fun a ha i=>?_,fun a ha=>?_⟩
  ·rw [List.mem_singleton.mp ha];exact R3.qe hp
  ·rw [List.mem_singleton.mp ha];exact R3.fresh hp
  ·rw [List.mem_singleton.mp ha];exact R3.gF hp
theorem IQ {rest:List Comprehension}{vs NB:List Str}{ix:List Nat}{di:DI}{t:Tg}{c:DT}{r:DC}(B:cI X scope vs NB ix)(hc:X.calm=true)(hcs:cs.length=vs.length)(hix:∀ i∈ix,i < π.length)(aR:∀ c∈cs,c∉π)(nd:(bD π cs ix).Nodup)
  (hi:SI X Ex π tg iter di)(ht:∀ (C:Addr)(s:Shared)(H:Hp)(fp:List Addr),fW (X.block scope C NB s H fp) (bD π cs ix) tg t)(hts:∀ i∈t.slots,i∈cs)(hif:∀ (C:Addr)(s:Shared)(H:Hp)(fp:List Addr),iP (X.block scope C NB s H fp) E0 (bD π cs ix) ifs c)
  (hr:∀ (C:Addr)(s:Shared)(H:Hp)(fp:List Addr)(D:Addr),SL (X.block scope C NB s H fp) (bD π cs ix) cs D elt (⟨tg,iter,ifs,0⟩:: rest) scope pos 1 r)(ha:∀ g∈rest,g.is_async=0)(hs:∀ v,foldedSetIterable iter X.env v=pure v):SE X Ex π (.ListComp elt (⟨tg,iter,ifs,0⟩:: rest) scope pos) (bV cs di t c r):=fun g x E σ H Hm F P Q hx R p q =>
 wu B hc hcs hix aR nd hi ht hts hif hr ha hs (w:=fun Q σ H=>WE X (.ListComp elt (⟨tg,iter,ifs,0⟩:: rest) scope pos) σ H Q) (fun h1 h2 h3 h4 h5=>WE.of (BZ B hc h1 h2 h3 h4 ha hs) h5) g x E σ H Hm F P Q hx R p q
theorem JP {j:Nat}{y:Str}{py spos:Pos}(hN:X.N.Nodup)(hj:X.N[j]?=some y)(hy:X.env.scope.names.lookup y=some .local){rest:List Comprehension}{vs NB:List Str}{ix:List Nat}{di:DI}{t:Tg}{c:DT}{r:DC}(B:cI X scope vs NB ix)(hc:X.calm=true)(hcs:cs.length=vs.length)(hix:∀ i∈ix,i < (aT X).length)(aR:∀ c∈cs,c∉aT X)(nd:(bD (aT X) cs ix).Nodup)
  (hi:SI X Ex (aT X) tg iter di)(ht:∀ (C:Addr)(s:Shared)(H:Hp)(fp:List Addr),fW (X.block scope C NB s H fp) (bD (aT X) cs ix) tg t)(hts:∀ i∈t.slots,i∈cs)(hif:∀ (C:Addr)(s:Shared)(H:Hp)(fp:List Addr),iP (X.block scope C NB s H fp) E0 (bD (aT X) cs ix) ifs c)
  (hr:∀ (C:Addr)(s:Shared)(H:Hp)(fp:List Addr)(D:Addr),SL (X.block scope C NB s H fp) (bD (aT X) cs ix) cs D elt (⟨tg,iter,ifs,0⟩:: rest) scope pos 1 r)(ha:∀ g∈rest,g.is_async=0)(hs:∀ v,foldedSetIterable iter X.env v=pure v)
  (hsw:swapsWith (.ListComp elt (⟨tg,iter,ifs,0⟩:: rest) scope pos) (some (.Name y py)) spos.line X.env=pure true):S1 X Ex (.Assign [.Name y py] (.ListComp elt (⟨tg,iter,ifs,0⟩:: rest) scope pos) spos) (aV j (bV cs di t c r)):=by
 intro g D' E σ H Hm F D hx R p nx rt
 refine wu B hc hcs hix aR nd hi ht hts hif hr ha hs (w:=fun Q τ H=>(Q=fun u H1=>D.nx (τ.set j (some u)) H1)->WS X (.Assign [.Name y py] (.ListComp elt (⟨tg,iter,ifs,0⟩:: rest) scope pos) spos) D τ H)
  (fun h1 h2 h3 h4 h5 e=>by
   subst e
   exact WS.of (vV hN hj hy B hc h1 h2 h3 h4 hsw ha hs) h5) g D'.xc E σ H Hm F _ _ hx R p (fun E' k v u H' Hm' F' fp p' R' s' T=>?_) rfl
 rw [lH List.nodup_range (jb (bR hj)) (R'.len ▸ jd p'.1)]
 exact nx _ _ _ _ _ p'.2 (R'.put T p'.1) s'
theorem Ii {cx:Str}{rest:List Comprehension}{vs NB:List Str}{ix:List Nat}{di:DI}{t:Tg}{c:DT}{r:DC}(B:dH X scope cx vs NB ix)(hc:X.calm=true)(hcs:cs.length=vs.length)(hix:∀ i∈ix,i < π.length)(aR:∀ c∈cs,c∉π)(nd:(bD π cs ix).Nodup)
  (hi:SI X Ex π tg iter di)(ht:∀ (C c':Addr)(s:Shared)(H:Hp)(fp:List Addr),fW (X.aW scope cx C c' NB s H fp) (bD π cs ix) tg t)(hts:∀ i∈t.slots,i∈cs)(hif:∀ (C c':Addr)(s:Shared)(H:Hp)(fp:List Addr),iP (X.aW scope cx C c' NB s H fp) E0 (bD π cs ix) ifs c)
  (hr:∀ (C c':Addr)(s:Shared)(H:Hp)(fp:List Addr)(D:Addr),SL (X.aW scope cx C c' NB s H fp) (bD π cs ix) cs D elt (⟨tg,iter,ifs,0⟩:: rest) scope pos 1 r)(ha:∀ g∈rest,g.is_async=0)(hs:∀ v,foldedSetIterable iter X.env v=pure v):SE X Ex π (.ListComp elt (⟨tg,iter,ifs,0⟩:: rest) scope pos) (bV cs di t c r):=fun g x E σ H Hm F P Q hx R p q =>
 Cf B hc hcs hix aR nd hi ht hts hif hr ha hs (w:=fun Q σ H=>WE X (.ListComp elt (⟨tg,iter,ifs,0⟩:: rest) scope pos) σ H Q) (fun h1 h2 h3 h4 h5=>WE.of (BV B hc h1 h2 h3 h4 ha hs) h5) g x E σ H Hm F P Q hx R p q
end
end Dv
namespace Dv
open PySem L2 PySem.W
/-! ### methods of lists -/
def wY (K:Frag)(f:DM)(r:V->List V->Hp->VK->Prop):Prop:=∀ (H Hm:Hp)(a:Addr)(xs:List V)(ds:List PyData)(vs:List V)(args:List PyData)(P:List PyData->PyData->Prop)(Q:VK),H a=some (.lst xs)->Hm a=none->aj Hm H->aA K Hm xs ds->aA K Hm vs args->f ds args P ->
 (∀ ys new u v,P new v->aA K Hm ys new->Rp K Hm u v->Q u (upd H a (.lst ys)))->r (.ref a) vs H Q
theorem zR {K:Frag}{σ:St}{Hm:Hp}{E:En}:∀ {es:List DE}{os:List (Option PyData)}{vs:List V}{ds:List PyData},Got K σ Hm (es.map .ev) os vs->fill (es.map .ev) E os=some ds->aA K Hm vs ds
 | [],_,_,_,.nil,h=>by cases h;exact .nil
 | e::es,_,_,_,.ev (os:=os) r G,h=>by
  have h:(fill (es.map .ev) E os).map (_::·)=some _:=h
  cases hf:fill (es.map .ev) E os with
  | none=>rw [hf] at h;cases h
  | some ds =>
   rw [hf] at h
   cases h
   exact .cons r (zR G hf)
inductive oM (X:Cx)(Ex:XK)(π:List Nat):List Expr->List DE->Prop
 | nil:oM X Ex π [] []
 | cons {e:Expr}{d:DE}{es:List Expr}{ds:List DE}:SE X Ex π e d->oM X Ex π es ds->oM X Ex π (e::es) (d::ds)
theorem oM.as {X:Cx}{Ex:XK}{π:List Nat}{es:List Expr}{ds:List DE}(h:oM X Ex π es ds):aU X Ex π es (ds.map .ev):=by
 induction h with
 | nil=>exact .nil
 | cons h _ ih=>exact .ev h ih
theorem zd {cpos:Pos}{env:Env}{es:List Expr}(ns:es.all noStar=true)(l:es.length < 30):((backTo cpos (starEach es env)).all (fun x=>!x.1) && (backToKw cpos (keywordEach [] env)).all (fun x=>x.1.isSome) && decide (es.length + ([]:List Keyword).length + (if ([]:List Keyword).isEmpty then 0 else 1) < 30))=true:=by
 have h:=iW (pos:=cpos) (env:=env) ns
 rw [List.any_eq_false] at h
 rw [Bool.and_eq_true,Bool.and_eq_true,List.all_eq_true]
 refine ⟨⟨fun x hx=>by simpa using h x hx,rfl⟩,decide_eq_true ?_⟩
 show es.length + 0 + 0 < 30
 omega
section
variable {X:Cx}{Ex:XK}{π:List Nat}
theorem CA {E:En}{i:Nat}(h:kP E i=true):∃ p ds,E[i]?=some (some (.ow p,.list ds)):=by
 unfold kP at h
 split at h
 ·rename_i p ds e
  exact ⟨p,ds,e⟩
 ·cases h
theorem Kf {x name:Str}{id:String}{p apos cpos:Pos}{es:List Expr}{ds:List DE}{f:DM}{r:V->List V->Hp->VK->Prop}{i j:Nat}(hm:tO X id r)(D:wY X.K f r)(slot:Slot "list" name id)(hty:typeOf (.builtin id)=pure (.type "method_descriptor"))
  (hv:PE X (.Name x p) (l0 j))(hj:π[j]?=some i)(ns:es.all noStar=true)(l30:es.length < 30)(hline:(apos.endLine == cpos.line)=true)(S:oM X Ex π es ds):SE X Ex π (.Call (.Attribute (.Name x p) name apos) es [] cpos) (nE f i ds):=by
 intro g xc E σ H Hm F P Q hx R h q
 obtain ⟨ho,h⟩:=h
 obtain ⟨p0,ds0,e0⟩:=CA ho
 obtain ⟨v,h1,h2⟩:=R.slot i _ _ e0
 have hs1:=fS hj h1
 have fin:∀ a xs0,v=.ref a->H a=some (.lst xs0)->qa X es (sel π σ) H fun vs H2=>r (.ref a) vs H2 Q:=fun a xs0 ev _=>by
  subst ev
  refine jW hx S.as R h fun E1 os vs H1 Hm1 F1 p1 R1 s1 G=>?_
  obtain ⟨args,p1',ds1,hf,e1,p1⟩:=p1
  have ra:=zR G hf
  obtain ⟨v',g1,g2⟩:=R1.slot i _ _ e1
  rw [h1] at g1
  cases g1
  generalize hfi:F1 i=fi at g2
  cases g2 with
  | @ow _ _ xs1 _ ha1 hr1 =>
   refine D H1 Hm1 a xs1 ds1 vs args _ Q ha1 (R1.off i a (by rw [hfi];exact List.mem_cons_self)) R1.sub hr1 ra p1 fun ys new u v p2 ry ru=>?_
   obtain ⟨a',xs',k1,k2,k3,k4,R2⟩:=R1.chg e1 ry
   rw [h1] at k1
   cases k1
   exact q _ _ _ _ _ _ _ [] p2 R2 s1 (Tm.sh ru)
 generalize hfi:F i=fi at h2
 cases h2 with
 | @ow _ a xs _ ha hr =>
  cases es with
  | nil=>exact WE.of (ID PySem.F.plainAttrs_list slot hty hm hv rfl hline) ⟨_,hs1,.inl ⟨rfl,_,cu.of ha⟩,fin a xs rfl ha⟩
  | cons e es =>
   have ns':=ns
   rw [List.all_cons,Bool.and_eq_true] at ns'
   exact WE.of (CS PySem.F.plainAttrs_list slot hty hm hv (fK ns) rfl (zd ns l30) hline (b5 ns'.1) (iW ns'.2)) ⟨_,hs1,.inl ⟨rfl,_,cu.of ha⟩,fin a xs rfl ha⟩
def dW:DM:=fun ds args P=>match args with
 | [d]=>ds.length < sizeLine/\P (ds++[d]) .none
 | _=>False
theorem dZ {K:Frag}:wY K dW xO:=by
 intro H Hm a xs ds vs args P Q ha _ s r ra h q
 unfold dW at h
 split at h
 ·obtain ⟨x,rfl,h1⟩:=dR ra
  exact ⟨a,xs,x,rfl,rfl,ha,by rw [r.len];exact h.1,q _ _ _ _ h.2 (r.snoc h1) .br⟩
 ·exact h.elim
def EA:DM:=fun ds args P=>match args with
 | [.list es]=>ds.length + es.length<=sizeLine/\P (ds++es) .none
 | _=>False
theorem aA.dropLast {K:Frag}{H:Hp}{vs:List V}{ds:List PyData}(r:aA K H vs ds):aA K H vs.dropLast ds.dropLast:=by
 rw [List.dropLast_eq_take,List.dropLast_eq_take,r.len]
 exact r.take _
theorem aA.erase {K:Frag}{H:Hp}:∀ {vs:List V}{ds:List PyData} (i:Nat),aA K H vs ds->aA K H (vs.eraseIdx i) (ds.eraseIdx i)
 | _,_,_,.nil=>.nil
 | _,_,0,.cons _ r=>r
 | _,_,i + 1,.cons h r=>.cons h (r.erase i)
def rJ:DM:=fun ds args P=>match args with
 | []=>∃ d,ds[ds.length - 1]?=some d/\P ds.dropLast d
 | [.int i]=>(-(2 ^ 63)<=i/\i < 2 ^ 63)/\∃ n d,seqIndex? i ds.length=some n/\ds[n]?=some d/\P (ds.eraseIdx n) d
 | _=>False
theorem w9:tO X "list.pop" fun x vs H Q=>BO x vs H Q\/uB x vs H Q:=fun pins s σ H x xs v us Q I a b z=>z.elim (IC pins s σ H x xs v us Q I a b) (BR pins s σ H x xs v us Q I a b)
theorem wC {K:Frag}:wY K rJ fun x vs H Q=>BO x vs H Q\/uB x vs H Q:=by
 intro H Hm a xs ds vs args P Q ha _ s r ra h q
 unfold rJ at h
 split at h
 ·cases ra
  obtain ⟨d,e,h⟩:=h
  obtain ⟨v,ev,rv⟩:=r.get e
  refine .inl ⟨a,xs,v,rfl,rfl,ha,by rw [r.len];exact ev,q _ _ _ _ h r.dropLast rv⟩
 ·obtain ⟨x,rfl,h1⟩:=dR ra
  cases h1
  obtain ⟨⟨b1,b2⟩,n,d,e1,e2,h⟩:=h
  obtain ⟨v,ev,rv⟩:=r.get e2
  exact .inr ⟨a,xs,_,n,v,rfl,rfl,ha,b1,b2,by rw [r.len];exact e1,ev,q _ _ _ _ h (r.erase n) rv⟩
 ·exact h.elim
end
end Dv
namespace Dv
open PySem L2 PySem.W
/-! ### dicts -/
theorem l5 {a b:Key}:bK a=bK b↔a=b:=by
 cases a <;> cases b <;> simp [bK]
theorem sO:∀ {a b:List Key},a.map bK=b.map bK↔a=b
 | [],[]=>by simp
 | [],_::_=>by simp
 | _::_,[]=>by simp
 | a::as,b::bs=>by simp [l5,sO (a:=as) (b:=bs)]
theorem pA {a b:List Key}:PyData.tuple (a.map bK)=.tuple (b.map bK)↔a=b:=by
 rw [PyData.tuple.injEq];exact sO
theorem kU {w:PyData}(h:j7 w=true):∃ k,w=bK k:=by
 cases w with
 | int i=>exact ⟨.inl i,rfl⟩
 | str x=>exact ⟨.inr x,rfl⟩
 | _=>cases h
theorem kr:∀ {ks:List PyData},ks.all j7=true->∃ k:List Key,ks=k.map bK
 | [],_=>⟨[],rfl⟩
 | w::ks,h=>by
  rw [List.all_cons,Bool.and_eq_true] at h
  obtain ⟨k,rfl⟩:=kU h.1
  obtain ⟨l,rfl⟩:=kr h.2
  exact ⟨k::l,rfl⟩
section
variable {K:Frag}{H:Hp}
theorem nk {u:V}{k:Key}(r:Rp K H u (bK k)):u=kV k:=by
 cases k with
 | inl i =>
  have r:Rp K H u (.int i):=r
  cases r
  rfl
 | inr x =>
  have r:Rp K H u (.str x):=r
  cases r
  rfl
theorem ue:∀ {us:List V}{k:List Key},aA K H us (k.map bK)->us=k.map kV
 | _,[],r=>by cases r;rfl
 | _,k::ks,r=>by
  cases r with
  | cons h t=>rw [nk h,ue t];rfl
theorem rq {u:V}{k:List Key}(r:Rp K H u (.tuple (k.map bK))):∃ b,u=.ref b/\H b=some (.tup (k.map kV)):=by
 cases r with
 | tup a r=>exact ⟨_,rfl,by rw [<- ue r];exact a⟩
theorem dN.len:∀ {kvs:List (Key×V)}{ds:List (PyData×PyData)},dN K H kvs ds->kvs.length=ds.length
 | _,_,.nil=>rfl
 | _,_,.cons _ r=>congrArg (· + 1) r.len
theorem fc.len:∀ {kvs:List (List Key×V)}{ds:List (PyData×PyData)},fc K H kvs ds->kvs.length=ds.length
 | _,_,.nil=>rfl
 | _,_,.cons _ r=>congrArg (· + 1) r.len
theorem dN.val {k:Key}:∀ {kvs:List (Key×V)}{ds:List (PyData×PyData)},dN K H kvs ds->(cR ds (bK k)=none/\c8 kvs k=none)\/∃ v d,c8 kvs k=some v/\cR ds (bK k)=some d/\Rp K H v d
 | _,_,.nil=>.inl ⟨rfl,rfl⟩
 | _,_,.cons (k:=k') (v:=v) (d:=d) (kvs:=kvs) (ds:=ds) h r=>by
  by_cases c:k'=k
  ·subst c
   exact .inr ⟨v,d,by unfold c8;rw [List.find?_cons_of_pos (by simp)];rfl,by unfold cR;rw [List.find?_cons_of_pos (by simp)];rfl,h⟩
  ·have c':¬ bK k'=bK k:=fun z=>c (l5.mp z)
   have e1:c8 ((k',v)::kvs) k=c8 kvs k:=by unfold c8;rw [List.find?_cons_of_neg (by simpa using c)]
   have e2:cR ((bK k',d)::ds) (bK k)=cR ds (bK k):=by unfold cR;rw [List.find?_cons_of_neg (by simpa using c')]
   rw [e1,e2]
   exact r.val
theorem fc.val {k:List Key}:∀ {kvs:List (List Key×V)}{ds:List (PyData×PyData)},fc K H kvs ds->(cR ds (.tuple (k.map bK))=none/\c8 kvs k=none)\/∃ v d,c8 kvs k=some v/\cR ds (.tuple (k.map bK))=some d/\Rp K H v d
 | _,_,.nil=>.inl ⟨rfl,rfl⟩
 | _,_,.cons (k:=k') (v:=v) (d:=d) (kvs:=kvs) (ds:=ds) h r=>by
  by_cases c:k'=k
  ·subst c
   exact .inr ⟨v,d,by unfold c8;rw [List.find?_cons_of_pos (by simp)];rfl,by unfold cR;rw [List.find?_cons_of_pos (by simp)];rfl,h⟩
  ·have c':¬ PyData.tuple (k'.map bK)=.tuple (k.map bK):=fun z=>c (pA.mp z)
   have e1:c8 ((k',v)::kvs) k=c8 kvs k:=by unfold c8;rw [List.find?_cons_of_neg (by simpa using c)]
   have e2:cR ((.tuple (k'.map bK),d)::ds) (.tuple (k.map bK))=cR ds (.tuple (k.map bK)):=by unfold cR;rw [List.find?_cons_of_neg (by simpa using c')]
   rw [e1,e2]
   exact r.val
theorem dN.any {k:Key}:∀ {kvs:List (Key×V)}{ds:List (PyData×PyData)},dN K H kvs ds->(kvs.any fun kv=>decide (kv.1=k))=ds.any fun kv=>decide (kv.1=bK k)
 | _,_,.nil=>rfl
 | _,_,.cons (k:=k') h r=>by
  rw [List.any_cons,List.any_cons,r.any,decide_eq_decide.mpr (l5 (a:=k') (b:=k)).symm]
theorem fc.any {k:List Key}:∀ {kvs:List (List Key×V)}{ds:List (PyData×PyData)},fc K H kvs ds->(kvs.any fun kv=>decide (kv.1=k))=ds.any fun kv=>decide (kv.1=.tuple (k.map bK))
 | _,_,.nil=>rfl
 | _,_,.cons (k:=k') h r=>by
  rw [List.any_cons,List.any_cons,r.any,decide_eq_decide.mpr (pA (a:=k') (b:=k)).symm]
theorem dN.app {v:V}{d:PyData}(k:Key)(h:Rp K H v d):∀ {kvs:List (Key×V)}{ds:List (PyData×PyData)},dN K H kvs ds->dN K H (kvs++[(k,v)]) (ds++[(bK k,d)])
 | _,_,.nil=>.cons h .nil
 | _,_,.cons g r=>.cons g (r.app k h)
theorem fc.app {v:V}{d:PyData}(k:List Key)(h:Rp K H v d):∀ {kvs:List (List Key×V)}{ds:List (PyData×PyData)},fc K H kvs ds->fc K H (kvs++[(k,v)]) (ds++[(.tuple (k.map bK),d)])
 | _,_,.nil=>.cons h .nil
 | _,_,.cons g r=>.cons g (r.app k h)
theorem dN.put {v:V}{d:PyData}(k:Key)(h:Rp K H v d){kvs:List (Key×V)}{ds:List (PyData×PyData)}(r:dN K H kvs ds):dN K H (putK kvs k v) (putD ds (bK k) d):=by
 unfold putK putD
 rw [r.any (k:=k)]
 split
 ·have go:∀ {kvs:List (Key×V)}{ds:List (PyData×PyData)},dN K H kvs ds->dN K H (kvs.map fun kv=>if kv.1=k then (kv.1,v) else kv) (ds.map fun kv=>if kv.1=bK k then (kv.1,d) else kv):=by
   intro kvs
   induction kvs with
   | nil=>intro ds r;cases r;exact .nil
   | cons p kvs ih =>
    intro ds r
    cases r with
    | @cons k' v' d' _ ds g r =>
     rw [List.map_cons,List.map_cons]
     by_cases c:k'=k
     ·rw [if_pos c,if_pos (congrArg bK c)]
      exact .cons h (ih r)
     ·rw [if_neg c,if_neg fun z=>c (l5.mp z)]
      exact .cons g (ih r)
  exact go r
 ·exact r.app k h
theorem fc.put {v:V}{d:PyData}(k:List Key)(h:Rp K H v d){kvs:List (List Key×V)}{ds:List (PyData×PyData)}(r:fc K H kvs ds):fc K H (putK kvs k v) (putD ds (.tuple (k.map bK)) d):=by
 unfold putK putD
 rw [r.any (k:=k)]
 split
 ·have go:∀ {kvs:List (List Key×V)}{ds:List (PyData×PyData)},fc K H kvs ds->fc K H (kvs.map fun kv=>if kv.1=k then (kv.1,v) else kv) (ds.map fun kv=>if kv.1=.tuple (k.map bK) then (kv.1,d) else kv):=by
   intro kvs
   induction kvs with
   | nil=>intro ds r;cases r;exact .nil
   | cons p kvs ih =>
    intro ds r
    cases r with
    | @cons k' v' d' _ ds g r =>
     rw [List.map_cons,List.map_cons]
     by_cases c:k'=k
     ·rw [if_pos c,if_pos (by rw [c])]
      exact .cons h (ih r)
     ·rw [if_neg c,if_neg fun z=>c (pA.mp z)]
      exact .cons g (ih r)
  exact go r
 ·exact r.app k h
end
section
variable {X:Cx}{Ex:XK}{π:List Nat}
inductive Dc (neg:Bool) (x:V) (y:V)(H:Hp)(Q:VK):Prop
 | mk:∀ a o,(y=.ref a)->(iN H a x o)->(Q (.bl (if neg then !o.isSome else o.isSome)) H)->Dc neg x y H Q
def Bv (neg:Bool):R2:=fun x y H Q=>Dc neg x y H Q
theorem IY (hu:X.A.units + 64 < cLine):bL X (compareOp .In) (Bv false):=by
 intro pins s σ H x y v u Q I rx ry h
 obtain ⟨a,o,rfl,g,q⟩:=h
 cases ry
 exact Ld (by omega) I g rx fun s3 I3=>⟨.bl o.isSome,H,I3,rfl,q⟩
theorem zK (hu:X.A.units + 64 < cLine):bL X (compareOp .NotIn) (Bv true):=by
 intro pins s σ H x y v u Q I rx ry h
 obtain ⟨a,o,rfl,g,q⟩:=h
 cases ry
 exact Eb (by omega) I g rx fun s3 I3=>⟨.bl (!o.isSome),H,I3,rfl,q⟩
noncomputable def gX (neg:Bool):DR:=fun ds P=>match ds with
 | [.tuple ks,.dict ((.none,.none)::kvs)]=>ks.all j7=true/\P .sh (.bool (if neg then !(cR kvs (.tuple ks)).isSome else (cR kvs (.tuple ks)).isSome))
 | [w,.dict kvs]=>(j7 w=true/\jq kvs=true)/\P .sh (.bool (if neg then !(cR kvs w).isSome else (cR kvs w).isSome))
 | ds=>ze neg ds P
def Ci (K:Frag)(neg:Bool):R2:=fun x y H Q=>yd K neg x y H Q\/Bv neg x y H Q
theorem Hw (hu:X.A.units + 64 < cLine):bL X (compareOp .In) (Ci X.K false):=bL.or (IE hu) (IY hu)
theorem AE (hu:X.A.units + 64 < cLine):bL X (compareOp .NotIn) (Ci X.K true):=bL.or (A0 hu) (zK hu)
theorem pe {K:Frag}{H:Hp}{u:V}{kvs:List (PyData×PyData)}(r:Rp K H u (.dict kvs))(h:jq kvs=true):∃ a es,u=.ref a/\H a=some (.dK es)/\dN K H es kvs:=by
 cases r with
 | dk a r=>exact ⟨_,_,rfl,a,r⟩
 | dt a r=>cases h
theorem z0 {K:Frag}{H:Hp}{u:V}{kvs:List (PyData×PyData)}(r:Rp K H u (.dict ((.none,.none)::kvs))):∃ a es,u=.ref a/\H a=some (.dT es)/\fc K H es kvs:=by
 generalize e:((PyData.none,PyData.none)::kvs)=ds at r
 cases r with
 | dk a r =>
  cases r with
  | nil=>cases e
  | @cons k _ _ _ _ _ _=>cases k <;> cases e
 | dt a r=>cases e;exact ⟨_,_,rfl,a,r⟩
theorem wU {K:Frag}(neg:Bool):cV K (gX neg) (r2 (Ci K neg)):=by
 intro H Hm vs ds P Q s r h q
 unfold gX at h
 split at h
 ·rename_i ks kvs
  obtain ⟨x,y,rfl,h1,h2⟩:=cW r
  obtain ⟨k,rfl⟩:=kr h.1
  obtain ⟨b,rfl,hb⟩:=rq h1
  obtain ⟨a,es,rfl,ha,rt⟩:=z0 h2
  refine .inr ⟨a,_,rfl,iN.t (s _ _ ha) (s _ _ hb),?_⟩
  have e:(c8 es k).isSome=(cR kvs (.tuple (k.map bK))).isSome:=by
   rcases rt.val (k:=k) with ⟨e1,e2⟩ | ⟨v,d,e1,e2,_⟩
   ·rw [e1,e2];rfl
   ·rw [e1,e2];rfl
  rw [e]
  exact bN.sc q s h.2 (.bl _)
 ·rename_i w kvs _
  obtain ⟨x,y,rfl,h1,h2⟩:=cW r
  obtain ⟨⟨hk,hp⟩,h⟩:=h
  obtain ⟨k,rfl⟩:=kU hk
  cases nk h1
  obtain ⟨a,es,rfl,ha,rt⟩:=pe h2 hp
  refine .inr ⟨a,_,rfl,iN.k (s _ _ ha),?_⟩
  have e:(c8 es k).isSome=(cR kvs (bK k)).isSome:=by
   rcases rt.val (k:=k) with ⟨e1,e2⟩ | ⟨v,d,e1,e2,_⟩
   ·rw [e1,e2];rfl
   ·rw [e1,e2];rfl
  rw [e]
  exact bN.sc q s h (.bl _)
 ·rcases vs with _ | ⟨x,_ | ⟨y,_ | ⟨z,t⟩⟩⟩
  ·cases r;exact (show False from h).elim
  ·cases r with | cons _ r=>cases r;exact (by unfold ze at h;simpa using h:False).elim
  ·exact .inl (GJ neg H Hm _ _ P Q s r h q)
  ·cases r with | cons _ r=>cases r with | cons _ r=>cases r;exact (by unfold ze at h;simpa using h:False).elim
/-! ### an item of a dict -/
inductive DB (x:V) (y:V)(H:Hp)(Q:VK):Prop
 | mk:∀ a v,(x=.ref a)->(iN H a y (some v))->(Q v H)->DB x y H Q
def IP:R2:=fun x y H Q=>DB x y H Q
theorem Ea (hu:X.A.units + 64 < cLine):mH X IP:=by
 intro value slice pins s σ H x y v u Q I rx ry h hs
 obtain ⟨a,w,rfl,g,q⟩:=h
 cases rx
 exact PyProof.Rows.tail_any (wc I g) PySem.F.slot_dict_getitem.lookup (Ae (by omega) I g ry fun w' s3 I3 rw'=>⟨w,H,I3,rw',q⟩) hs
noncomputable def aI:DR:=fun ds P=>match ds with
 | [.dict ((.none,.none)::kvs),.tuple ks]=>ks.all j7=true/\∃ d,cR kvs (.tuple ks)=some d/\P .sh d
 | [.dict kvs,w]=>(j7 w=true/\jq kvs=true)/\∃ d,cR kvs w=some d/\P .sh d
 | ds=>Al ds P
def G7 (K:Frag):R2:=fun x y H Q=>GN K x y H Q\/IP x y H Q
theorem K3 (hu:X.A.units + 64 < cLine):mH X (G7 X.K):=zh.or (Ea hu)
theorem FU {K:Frag}:cV K aI (r2 (G7 K)):=by
 intro H Hm vs ds P Q s r h q
 unfold aI at h
 split at h
 ·rename_i kvs ks
  obtain ⟨x,y,rfl,h2,h1⟩:=cW r
  obtain ⟨hk,d,hv,h⟩:=h
  obtain ⟨k,rfl⟩:=kr hk
  obtain ⟨b,rfl,hb⟩:=rq h1
  obtain ⟨a,es,rfl,ha,rt⟩:=z0 h2
  rcases rt.val (k:=k) with ⟨e1,e2⟩ | ⟨v,d',e1,e2,rv⟩
  ·rw [e1] at hv;cases hv
  ·rw [e2] at hv
   cases hv
   exact .inr ⟨a,v,rfl,by rw [<- e1];exact iN.t (s _ _ ha) (s _ _ hb),bN.sc q s h rv⟩
 ·rename_i kvs w _
  obtain ⟨x,y,rfl,h2,h1⟩:=cW r
  obtain ⟨⟨hk,hp⟩,d,hv,h⟩:=h
  obtain ⟨k,rfl⟩:=kU hk
  cases nk h1
  obtain ⟨a,es,rfl,ha,rt⟩:=pe h2 hp
  rcases rt.val (k:=k) with ⟨e1,e2⟩ | ⟨v,d',e1,e2,rv⟩
  ·rw [e1] at hv;cases hv
  ·rw [e2] at hv
   cases hv
   exact .inr ⟨a,v,rfl,by rw [<- e1];exact iN.k (s _ _ ha),bN.sc q s h rv⟩
 ·rcases vs with _ | ⟨x,_ | ⟨y,_ | ⟨z,t⟩⟩⟩
  ·cases r;exact (show False from h).elim
  ·cases r with | cons _ r=>cases r;exact (by unfold Al at h;simpa using h:False).elim
  ·exact .inl (GL H Hm _ _ P Q s r h q)
  ·cases r with | cons _ r=>cases r with | cons _ r=>cases r;exact (by unfold Al at h;simpa using h:False).elim
/-! ### len of a dict -/
noncomputable def cS:DR:=fun ds P=>match ds with
 | [.dict kvs]=>jq kvs=true/\P .sh (.int kvs.length)
 | ds=>Br ds P
theorem BQ {K:Frag}:cV K cS fun xs H Q=>(∃ p ys,xs=[.ref p]/\(cu K H p ys\/cB K H p ys)/\Q (.int ys.length) H)\/∃ a kvs,xs=[V.ref a]/\H a=some (.dK kvs)/\Q (.int kvs.length) H:=by
 intro H Hm vs ds P Q s r h q
 unfold cS at h
 split at h
 ·obtain ⟨x,rfl,h1⟩:=dR r
  obtain ⟨a,es,rfl,ha,rt⟩:=pe h1 h.1
  exact .inr ⟨a,es,rfl,s _ _ ha,by rw [rt.len];exact bN.sc q s h.2 (.int _)⟩
 ·exact .inl (ES H Hm _ _ P Q s r h q)
/-! ### {} -/
/-! ### x[j]=e -/
theorem Rl.BS {K:Frag}{g:Gh}{E:En}{σ:St}{H Hm:Hp}{F:Nat->List Addr}(R:Rl K g E σ H Hm F){i:Nat}{k:Kd}{d d':PyData}{a:Addr}{o:HO}(e:E[i]?=some (some (k,d)))(hF:F i=[a])(hv:σ[i]?=some (some (.ref a)))(new:Own K (upd H a o) Hm k (.ref a) d' [a])(nt:oQ o)(hp:k=.ow true->∃ ds,d'=.list ds) :
  Rl K g (E.set i (some (k,d'))) σ (upd H a o) Hm F:=by
 have ma:a∈F i:=by rw [hF];exact List.mem_cons_self
 have na:=R.off i a ma
 have up:∀ b,b≠a->upd H a o b=H b:=fun b hb=>au hb
 have li:=bR e
 exact {
  len:=by rw [List.length_set];exact R.len
  sub:=fun b u hb=>by
   have:b≠a:=fun z=>by rw [z,na] at hb;cases hb
   rw [up b this];exact R.sub b u hb
  slot:=fun j k' d'' e'=>by
   by_cases c:j=i
   ·subst c
    rw [aF li] at e'
    cases e'
    exact ⟨_,hv,by rw [hF];exact new⟩
   ·rw [ao (Ne.symm c)] at e'
    obtain ⟨u,g1,g2⟩:=R.slot j k' d'' e'
    refine ⟨u,g1,g2.step (aj.refl _) fun b hb=>up b fun z=>c (R.aR j i a (z ▸ hb) ma)⟩
  off:=R.off
  bI:=fun j b hb=>by
   by_cases c:b=a
   ·rw [c];exact ⟨_,aL,nt⟩
   ·rw [up b c];exact R.bI j b hb
  aR:=R.aR
  fr:=fun q u hq ho=>by
   have:q≠a:=fun z=>by
    rcases R.new i a ma with y | y
    ·exact hq (z ▸ y)
    ·rw [z,y] at ho;cases ho
   rw [up q this];exact R.fr q u hq ho
  new:=R.new
  pin:=fun q hq=>by
   obtain ⟨g1,ds',g2⟩:=R.pin q hq
   by_cases c:i=q.1
   ·rw [<- c] at g1 g2 ⊢
    rw [e] at g2
    cases g2
    obtain ⟨ds,rfl⟩:=hp rfl
    exact ⟨g1,ds,aF li⟩
   ·exact ⟨g1,ds',by rw [ao c];exact g2⟩
  old:=R.old }
def CU:yj:=fun o i v H Q=>DF o i v H Q\/∃ a H',o=.ref a/\mO H a i v H'/\Q H'
theorem JJ (hu:X.A.units + 64 < cLine):Cb X CU:=by
 intro pins s σ H o i v ov iv u Q I ro ri rv h
 rcases h with h | ⟨a,H',rfl,g,q⟩
 ·exact set_list pins s σ H o i v ov iv u Q I ro ri rv h
 ·cases ro
  exact AZ (by omega) I g ri rv fun s' I'=>⟨H',I',q⟩
theorem EL {g:Gh}{E:En}{σ:St}{H Hm:Hp}{F:Nat->List Addr}{K:Frag}{i:Nat}{w v:PyData}{o wv vv:V}{Qe:En->Prop}{Q:Hp->Prop}(R:Rl K g E σ H Hm F)(ho:σ[i]?=some (some o))(rw':Rp K Hm wv w)(rv:Rp K Hm vv v)(h:iL.setI E i w v Qe)
  (q:∀ E' H',Qe E'->Rl K g E' σ H' Hm F->Q H'):CU o wv vv H Q:=by
 unfold iL.setI at h
 split at h
 ·rename_i p ds a e
  obtain ⟨n,hn,h⟩:=h
  cases rw'
  obtain ⟨v',h1,h2⟩:=R.slot i _ _ e
  rw [ho] at h1
  cases h1
  generalize hfi:F i=fi at h2
  cases h2 with
  | @ow _ b xs _ ha hr =>
   refine .inl ⟨b,xs,a,n,rfl,rfl,ha,by rw [hr.len];exact hn,q _ _ h ?_⟩
   exact R.BS e hfi ho (.ow aL (hr.set rv n)) kZ fun _=>⟨_,rfl⟩
 ·rename_i p kvs _ e
  obtain ⟨⟨hk,hl⟩,h⟩:=h
  obtain ⟨k,rfl⟩:=kU hk
  cases nk rw'
  obtain ⟨v',h1,h2⟩:=R.slot i _ _ e
  rw [ho] at h1
  cases h1
  generalize hfi:F i=fi at h2
  cases h2 with
  | @dk _ b es _ ha hr =>
   refine .inr ⟨b,_,rfl,mO.k ha (by rw [hr.len];exact hl),q _ _ h ?_⟩
   exact R.BS e hfi ho (.dk aL (hr.put k rv)) qu fun z=>by cases z
 ·rename_i p kv kvs ks e
  obtain ⟨⟨hk,hl⟩,h⟩:=h
  obtain ⟨k,rfl⟩:=kr hk
  obtain ⟨c,rfl,hc⟩:=rq rw'
  obtain ⟨v',h1,h2⟩:=R.slot i _ _ e
  rw [ho] at h1
  cases h1
  generalize hfi:F i=fi at h2
  cases h2 with
  | @dt _ b es _ ha hr =>
   refine .inr ⟨b,_,rfl,mO.t ha (R.sub _ _ hc) (by rw [hr.len];exact hl),q _ _ h ?_⟩
   exact R.BS e hfi ho (.dt aL (hr.put k rv)) sC fun z=>by cases z
 ·exact h.elim
theorem J3 {x:Str}{p pos pos':Pos}{j e:Expr}{i jx:Nat}{dj de:DE}(hu:X.A.units + 64 < cLine)(hv:PE X (.Name x p) (l0 jx))(hj:(aT X)[jx]?=some i)(hs:swapsWithSole [.Subscript (.Name x p) j pos'] e pos.line X.env=pure false)
  (ha:∀ v,assign (.Subscript (.Name x p) j pos') X.env v=(do
   let ov <- holding [v] (eval (.Name x p) X.env)
   let iv <- holding [v,ov] (eval j X.env)
   standAt pos'
   holding [v,ov,iv] (setItem ov iv v)
   release [v,ov,iv] []))(hd:SE X Ex (aT X) e de)(hd2:SE X Ex (aT X) j dj):S1 X Ex (.Assign [.Subscript (.Name x p) j pos'] e pos) (iL i dj de):=by
 intro g D' E σ H Hm F D hx R pp nx rt
 refine WS.of (zg bx (Iv hv bx (JJ hu) ha) hs) (hd g D'.xc E σ H Hm F _ _ hx R pp fun E1 k v u H1 Hm1 F1 fp p1 R1 s1 T=>?_)
 obtain ⟨⟨hk,hh⟩,p1⟩:=p1
 obtain ⟨Hm2,s2,R2,r2⟩:=T.fM R1 hk
 obtain ⟨o,ho⟩:=ki R2 hh
 refine ⟨o,fS hj ho,hd2 g D'.xc E1 σ H1 Hm2 F1 _ _ hx R2 p1 fun E3 k3 v3 u3 H3 Hm3 F3 fp3 p3 R3 s3 T3=>?_⟩
 obtain ⟨hk3,p3⟩:=p3
 obtain ⟨Hm4,s4,R4,r4⟩:=T3.fM R3 hk3
 exact EL R4 ho r4 (r2.mono (s3.trans s4)) p3 fun E' H' q R'=>nx _ _ _ _ _ q R' (s1.trans (s2.trans (s3.trans s4)))
end
end Dv
namespace Dv
open PySem L2 PySem.W
/-! ### a def -/
def ini:List Bool->List PyData->En
 | true::ms,d::ds=>some (.ow true,d)::ini ms ds
 | false::ms,d::ds=>some (.sh,d)::ini ms ds
 | _,_=>[]
def fu:List Bool->En->Option (List PyData)
 | [],_=>some []
 | true::ms,some (.ow true,.list es)::E=>(fu ms E).map (.list es::·)
 | false::ms,_::E=>fu ms E
 | _,_=>none
def fL:List Bool->Nat->List Addr->List (Nat×Addr)
 | true::ms,n,a::as=>(n,a)::fL ms (n + 1) as
 | false::ms,n,as=>fL ms (n + 1) as
 | _,_,_=>[]
def gj:List Bool->List Addr->List (List Addr)
 | true::ms,a::as=>[a]::gj ms as
 | false::ms,as=>[]::gj ms as
 | _,_=>[]
section
variable {K:Frag}{H Hm:Hp}
theorem Ag.vq {ms:List Bool}{vs:List V}{ds:List PyData}{as:List Addr}(h:Ag K H Hm ms vs ds as):vs.length=ms.length:=by
 induction h with
 | nil=>rfl
 | sh _ _ ih=>rw [List.length_cons,List.length_cons,ih]
 | mu _ _ _ _ _ ih=>rw [List.length_cons,List.length_cons,ih]
theorem Ag.K4 {ms:List Bool}{vs:List V}{ds:List PyData}{as:List Addr}(h:Ag K H Hm ms vs ds as):(ini ms ds).length=vs.length:=by
 induction h with
 | nil=>rfl
 | sh _ _ ih=>rw [ini,List.length_cons,List.length_cons,ih]
 | mu _ _ _ _ _ ih=>rw [ini,List.length_cons,List.length_cons,ih]
theorem Ag.pins {ms:List Bool}{vs:List V}{ds:List PyData}{as:List Addr}(h:Ag K H Hm ms vs ds as):∀ n,(fL ms n as).map (·.2)=as:=by
 induction h with
 | nil=>exact fun _=>rfl
 | sh _ _ ih=>exact fun n=>ih (n + 1)
 | @mu _ _ _ _ a _ _ _ _ _ _ _ ih=>exact fun n=>congrArg (a::·) (ih (n + 1))
theorem Ag.slot {ms:List Bool}{vs:List V}{ds:List PyData}{as:List Addr}(h:Ag K H Hm ms vs ds as):∀ {i:Nat}{k:Kd}{d:PyData},(ini ms ds)[i]?=some (some (k,d))->∃ v,vs[i]?=some v/\Own K H Hm k v d ((gj ms as)[i]?.getD []):=by
 induction h with
 | nil=>intro i k d e;simp [ini] at e
 | @sh ms vs ds as v d r _ ih =>
  intro i k d' e
  rw [ini] at e
  cases i with
  | zero =>
   cases e
   exact ⟨v,rfl,.sh r⟩
  | succ i=>exact ih e
 | @mu ms vs ds as a xs es h1 h2 h3 h4 _ ih =>
  intro i k d' e
  rw [ini] at e
  cases i with
  | zero =>
   cases e
   exact ⟨_,rfl,.ow h1 h2⟩
  | succ i=>exact ih e
theorem Ag.C9 {ms:List Bool}{vs:List V}{ds:List PyData}{as:List Addr}(h:Ag K H Hm ms vs ds as):(∀ (i:Nat) a,a∈(gj ms as)[i]?.getD []->a∈as/\Hm a=none/\∃ xs,H a=some (.lst xs))/\∀ (i j:Nat) a,a∈(gj ms as)[i]?.getD []->a∈(gj ms as)[j]?.getD []->i=j:=by
 induction h with
 | nil=>exact ⟨fun i a h=>by simp [gj] at h,fun i j a h=>by simp [gj] at h⟩
 | @sh ms vs ds as v d r _ ih =>
  refine ⟨fun i a h=>?_,fun i j a h1 h2=>?_⟩
  ·rw [gj] at h
   cases i with
   | zero=>simp at h
   | succ i=>exact ih.1 i a h
  ·rw [gj] at h1 h2
   cases i with
   | zero=>simp at h1
   | succ i =>
    cases j with
    | zero=>simp at h2
    | succ j=>exact congrArg (· + 1) (ih.2 i j a h1 h2)
 | @mu ms vs ds as a xs es g1 g2 g3 g4 _ ih =>
  refine ⟨fun i b h=>?_,fun i j b h1 h2=>?_⟩
  ·rw [gj] at h
   cases i with
   | zero =>
    have h:b∈[a]:=h
    rw [List.mem_singleton] at h
    subst h
    exact ⟨List.mem_cons_self,g3,xs,g1⟩
   | succ i =>
    obtain ⟨y1,y2⟩:=ih.1 i b h
    exact ⟨List.mem_cons_of_mem _ y1,y2⟩
  ·rw [gj] at h1 h2
   cases i with
   | zero =>
    have h1:b∈[a]:=h1
    rw [List.mem_singleton] at h1
    subst h1
    cases j with
    | zero=>rfl
    | succ j=>exact absurd (ih.1 j b h2).1 g4
   | succ i =>
    cases j with
    | zero =>
     have h2:b∈[a]:=h2
     rw [List.mem_singleton] at h2
     subst h2
     exact absurd (ih.1 i b h1).1 g4
    | succ j=>exact congrArg (· + 1) (ih.2 i j b h1 h2)
theorem Ag.pin {ms:List Bool}{vs:List V}{ds:List PyData}{as:List Addr}(h:Ag K H Hm ms vs ds as):∀ n,∀ q∈fL ms n as,∃ i,q.1=n + i/\vs[i]?=some (.ref q.2)/\∃ es,(ini ms ds)[i]?=some (some (.ow true,.list es)):=by
 induction h with
 | nil=>exact fun n q h=>by cases h
 | @sh ms vs ds as v d r _ ih =>
  intro n q h
  obtain ⟨i,e,h1,h2⟩:=ih (n + 1) q h
  exact ⟨i + 1,by omega,h1,h2⟩
 | @mu ms vs ds as a xs es g1 g2 g3 g4 _ ih =>
  intro n q h
  have h:q∈(n,a)::fL ms (n + 1) as:=h
  rcases List.mem_cons.mp h with rfl | h
  ·exact ⟨0,rfl,rfl,es,rfl⟩
  ·obtain ⟨i,e,h1,h2⟩:=ih (n + 1) q h
   exact ⟨i + 1,by omega,h1,h2⟩
theorem Ag.back {H' Hm':Hp}{E:En}{ms:List Bool}{vs:List V}{ds:List PyData}{as:List Addr}(h:Ag K H Hm ms vs ds as):∀ {n:Nat}{us:List PyData},(∀ q∈fL ms n as,∃ es xs,E[q.1]?=some (some (.ow true,.list es))/\H' q.2=some (.lst xs)/\aA K Hm' xs es/\Hm' q.2=none)->fu ms (E.drop n)=some us->Bk K H' Hm' as us:=by
 induction h with
 | nil=>intro n us _ e;cases e;exact .nil
 | @sh ms vs ds as v d r _ ih =>
  intro n us hq e
  cases hE:E.drop n with
  | nil=>rw [hE] at e;cases e
  | cons o E' =>
   rw [hE] at e
   refine ih (n:=n + 1) hq ?_
   rw [show E.drop (n + 1)=E' from by rw [<- List.tail_drop,hE];rfl]
   exact e
 | @mu ms vs ds as a xs es g1 g2 g3 g4 _ ih =>
  intro n us hq e
  obtain ⟨es',xs',e1,e2,e3,e4⟩:=hq (n,a) List.mem_cons_self
  cases hE:E.drop n with
  | nil=>rw [hE] at e;cases e
  | cons o E' =>
   have ho:o=some (.ow true,.list es'):=by
    have:=List.getElem?_drop (xs:=E) (i:=n) (j:=0)
    rw [hE,Nat.add_zero] at this
    have e1:E[n]?=_:=e1
    rw [e1] at this
    exact Option.some.inj this
   subst ho
   rw [hE] at e
   have e:(fu ms E').map (PyData.list es'::·)=some us:=e
   cases hb:fu ms E' with
   | none=>rw [hb] at e;cases e
   | some us' =>
    rw [hb] at e
    cases e
    refine .cons e2 e3 e4 (ih (n:=n + 1) (fun q hq'=>hq q (List.mem_cons_of_mem _ hq')) ?_)
    rw [show E.drop (n + 1)=E' from by rw [<- List.tail_drop,hE];rfl]
    exact hb
theorem zw {n:Nat}{σ:St}(h:n<=σ.length):sel (List.range n) σ=σ.take n:=by
 refine List.ext_getElem? fun i=>?_
 unfold sel
 rw [List.getElem?_map,List.getElem?_take]
 by_cases c:i < n
 ·rw [List.getElem?_range c,if_pos c]
  have l:i < σ.length:=by omega
  rw [List.getElem?_eq_getElem l]
  show some ((σ[i]?).join)=some σ[i]
  rw [List.getElem?_eq_getElem l]
  rfl
 ·rw [if_neg c,List.getElem?_eq_none (by rw [List.length_range];omega)]
  rfl
theorem Ag.rl {ms:List Bool}{vs:List V}{ds:List PyData}{as:List Addr}(h:Ag K H Hm ms vs ds as)(s:aj Hm H) (m:Nat):Rl K ⟨H,Hm,fL ms 0 as⟩ (ini ms ds++List.replicate m none) (vs.map some++List.replicate m none) H Hm (fun i=>(gj ms as)[i]?.getD []):=by
 have hM:Gh.M ⟨H,Hm,fL ms 0 as⟩=as:=h.pins 0
 have inE:∀ {i:Nat}{k:Kd}{d:PyData},(ini ms ds++List.replicate m none)[i]?=some (some (k,d))->(ini ms ds)[i]?=some (some (k,d)):=fun {i k d} e=>by
  rcases Nat.lt_or_ge i (ini ms ds).length with l | l
  ·rwa [List.getElem?_append_left l] at e
  ·rw [List.getElem?_append_right l] at e
   have:=List.mem_of_getElem? e
   have:=List.eq_of_mem_replicate this
   cases this
 have inV:∀ {i:Nat}{v:V},vs[i]?=some v->(vs.map some++List.replicate m none)[i]?=some (some v):=fun {i v} e=>by
  have l:=bR e
  rw [List.getElem?_append_left (by rw [List.length_map];exact l),List.getElem?_map,e]
  rfl
 exact {
  len:=by rw [List.length_append,List.length_append,h.K4,List.length_map,List.length_replicate,List.length_replicate]
  sub:=s
  slot:=fun i k d e=>by
   obtain ⟨v,h1,h2⟩:=h.slot (inE e)
   exact ⟨v,inV h1,h2⟩
  off:=fun i a ha=>(h.C9.1 i a ha).2.1
  bI:=fun i a ha=>by
   obtain ⟨_,_,xs,e⟩:=h.C9.1 i a ha
   exact ⟨_,e,kZ⟩
  aR:=fun i j a h1 h2=>h.C9.2 i j a h1 h2
  fr:=fun p o _ e=>e
  new:=fun i a ha=>.inl (by rw [hM];exact (h.C9.1 i a ha).1)
  pin:=fun q hq=>by
   obtain ⟨i,e,h1,es,h2⟩:=h.pin 0 q hq
   rw [Nat.zero_add] at e
   rw [e]
   refine ⟨inV h1,es,?_⟩
   rw [List.getElem?_append_left (bR h2)]
   exact h2
  old:=fun _ _=>.inl rfl }
end
section
variable {P:Program}{w:World}{K:Frag}{mg:Str->Option Value}{base:Heap}
def bH (ms:List Bool)(Q:List PyData->Kd->PyData->Prop)(x:XC):bY where
 nx:=fun E=>∃ us,fu ms E=some us/\Q us .sh .none
 rt:=fun E k v=>∃ us,fu ms E=some us/\Q us k v
 xc:=x
theorem bZ {x qual:Str}{st:Stmt}{f:Addr}{fd:FuncData}{N ps:List Str}{k:Nat}{ms:List Bool}{sp:bW}{d:DS}{m:Nat}(F:dh K x qual st f fd)(S:aQ N ps (ai st))(hl:ms.length=ps.length)(hm:N.length<=ps.length + m)
  (hb:∀ (cdv:Value)(A:Around)(outer:List Env)(s:Shared)(H:Hp)(Ex:XK),d9 k (A.deeper (PyProof.Rows.envOfC qual (ai st) s.heap.objs.size f cdv))->SS (gz (bT P w) P w K mg base N qual (ai st) f cdv A outer s H Ex) Ex (aH st) d)
  (hd:∀ (ds:List PyData)(Q:List PyData->Kd->PyData->Prop)(x:XC),sp ds Q x->d (bH ms Q x) (ini ms ds++List.replicate m none)):bF P w K mg base (bT P w) (k + 1) f fd ps (aD mg K ms sp):=by
 refine F.Lr S (fun vs H Q E h=>?_) (fun cdv A outer s H vs Q E hr h=>?_)
 ·obtain ⟨ds,as,Hm,P',x,_,ag,_⟩:=h
  rw [ag.vq,hl]
 ·obtain ⟨ds,as,Hm,P',xc,sm,ag,hsp,ret,exn⟩:=h
  refine ⟨_,i8,?_⟩
  have R:=ag.rl sm m
  have hpre:N.length >= vs.length:=by
   rw [ag.vq,hl]
   have:=congrArg List.length S.pre
   rw [List.length_take] at this
   omega
  have hsel:L2.start N vs=sel (List.range N.length) (vs.map some++List.replicate m none):=by
   have hv:vs.length=ps.length:=by rw [ag.vq,hl]
   rw [zw (by rw [List.length_append,List.length_map,List.length_replicate];omega)]
   unfold L2.start
   rw [List.take_append,List.length_map,List.take_of_length_le (by rw [List.length_map];exact hpre),List.take_replicate]
   congr 2
   omega
  rw [hsel]
  have hM:Gh.M ⟨H,Hm,fL ms 0 as⟩=as:=ag.pins 0
  have fin:∀ {E':En}{k:Kd}{v:PyData}{u:V}{σ':St}{H' Hm':Hp}{F':Nat->List Addr}{fp:List Addr},(∃ us,fu ms E'=some us/\P' us k v)->Rl K ⟨H,Hm,fL ms 0 as⟩ E' σ' H' Hm' F'->Tm K ⟨H,Hm,fL ms 0 as⟩ F' H' Hm' k u v fp->Q u H':=by
   rintro E' k v u σ' H' Hm' F' fp ⟨us,hus,p⟩ R' T
   refine ret us k v u H' Hm' fp p (fun a o e=>?_) R'.sub (fun p o hp e=>R'.fr p o (by rw [hM];exact hp) e) (fun a _ ha=>R'.old a ha) ?_ T.own fun a ha=>⟨T.new a ha,T.off a ha⟩
   ·have:H a≠none:=fun z=>by rw [sm _ _ e] at z;cases z
    rcases R'.old a this with e' | ⟨e',_⟩
    ·exact e'.trans e
    ·have e':Hm a=none:=e'
     rw [e] at e';cases e'
   ·refine ag.back (E:=E') (n:=0) (fun q hq=>?_) (by rw [List.drop_zero];exact hus)
    obtain ⟨h1,es,h2⟩:=R'.pin q hq
    obtain ⟨v',h3,h4⟩:=R'.slot _ _ _ h2
    have hF:=R'.ya hq
    rw [h1] at h3
    cases h3
    rw [hF] at h4
    cases h4 with
    | ow e1 e2=>exact ⟨es,_,h2,e1,e2,R'.off q.1 q.2 (by rw [hF];exact List.mem_cons_self)⟩
  refine hb cdv A outer s H E hr ⟨H,Hm,fL ms 0 as⟩ (bH ms P' xc) _ _ H Hm _ _ (fun c d' C a H' hC hx fr ha hn=>exn c d' C a H' hC hx (fun p o hp ho=>fr p o (by rw [hM];exact hp) ho) ha hn) R (hd ds P' xc hsp) (fun E' σ' H' Hm' F' p R' _=>?_) (fun E' k v u σ' H' Hm' F' fp p R' T=>fin p R' T)
  exact fin (k:=.sh) (v:=.none) (u:=.br) p R' (Tm.sh .br)
end
end Dv
namespace L2
open PySem PySem.Spec PyProof.Rows
/-! ### min(..,default=..) -/
section
variable {prog:Program}{w:World}{A:Around}{R:Result->Shared->Prop}{it:Addr}{fp wr:List Addr}{n:Nat}{P:Nat->Value->Prop}{Z:Nat->Heap->Prop}
theorem DQ:(toString "min"++toString ".loop":String)="min.loop":=by decide
theorem Fi (Wk:Walks prog w A.in1 it fp wr n P Z)(bt:Nat->Nat->Bool)(cm:CmpOf prog w A.in1 .Lt P bt)(B:Addr)(nB:B∉fp)(kw:List (Str×Value)) :
  ∀ (d j:Nat)(t:Shared)(vb:Value) (c:Nat),n - (j + 1)=d->j + 1<=n->Z (j + 1) t.heap->P (argBest bt j) vb->t.heap.get? B=some { cls:=.type "list",dict:=none,data:=.seq #[vb,vb] c,slots:=#[] } ->
  (∀ v h1 tk,P (argBest bt (n - 1)) v->(∀ b o,b∉wr->b≠B->t.heap.get? b=some o->h1.get? b=some o)->R (.ok (.ret v)) { t with heap:=h1,toks:=tk }) ->
  codeAny (model prog w) A (.builtin "min.loop" ⟨[.ref it,.none,.ref B],kw⟩) R t:=by
 have nBw:B∉wr:=fun z=>nB (Wk.sub _ z)
 intro d
 induction d with
 | zero =>
  intro j t vb c ed lj zt pb eB hR
  have en:j + 1=n:=by omega
  refine codeAny_builtin F.entry_min_loop (id (by
   rw [Around.under_plainId F.plain_min_loop _]
   show wpAny _ A.in1 (seqItems? (.ref B) >>= _) _ _ t
   refine wpAny_bind (wpAny_seqItems eB rfl (id (show wpAny _ A.in1 (tryCatch (pyNext (.ref it)) _ >>= _) _ _ t from wpAny_bind (wpAny_tryCatch (Wk.done t _ _ (en ▸ zt) fun h1 tk k1=>?_)))))
   have eB1:=k1 B _ nBw eB
   show wpAny _ A.in1 (updateSeq B (fun _=>#[]) >>= _) _ _ _
   refine wpAny_bind (id (wpAny_updateSeq eB1 rfl (wpAny_bind (wpAny_letGo (wpAny_pure ?_)))))
   exact hR vb _ tk (by rw [<- en];exact pb) fun b o bw bB e=>(Heap.get?_update_other _ _ (Ne.symm bB)).trans (k1 b o bw e)))
 | succ d ih =>
  intro j t vb c ed lj zt pb eB hR
  have lt:j + 1 < n:=by omega
  refine codeAny_builtin F.entry_min_loop (id (by
   rw [Around.under_plainId F.plain_min_loop _]
   show wpAny _ A.in1 (seqItems? (.ref B) >>= _) _ _ t
   refine wpAny_bind (wpAny_seqItems eB rfl (id (show wpAny _ A.in1 (tryCatch (pyNext (.ref it)) _ >>= _) _ _ t from wpAny_bind (wpAny_tryCatch (Wk.item (j + 1) t _ _ lt zt fun v h1 tk pv z1 k1=>?_)))))
   have eB1:=k1 B _ nBw eB
   show wpAny _ A.in1 (tryCatch (holding [v,v] (richCompare .Lt v vb >>= _)) _ >>= _) _ _ _
   refine wpAny_bind (wpAny_tryCatch (wpAny_holding (wpAny_bind (cm (j + 1) (argBest bt j) v vb _ _ _ pv pb (wpAny_bind (wpAny_holding (wpAny_truthy_bool (wpAny_bind (wpAny_letGo (wpAny_pure ?_))))))))))
   cases hb:bt (j + 1) (argBest bt j) with
   | true =>
    rw [if_pos rfl]
    refine wpAny_bind (id (wpAny_updateSeq eB1 rfl (wpAny_bind (wpAny_letGo ?_))))
    rw [DQ]
    refine wpAny_pure ⟨plainId_quiet F.plain_min_loop _,ih (j + 1) _ v _ (by omega) lt (Wk.frame _ _ _ z1 fun b bf o e=>?_) (by rw [argBest,hb,if_pos rfl];exact pv) (Heap.get?_update_self _ eB1 rfl) fun v2 h2 tk2 pv2 k2=>?_⟩
    ·exact (Heap.get?_update_other _ _ (fun z:B=b=>nB (by rw [z];exact bf))).trans e
    ·exact hR v2 h2 tk2 pv2 fun b o bw bB e=>k2 b o bw bB ((Heap.get?_update_other _ _ (Ne.symm bB)).trans (k1 b o bw e))
   | false =>
    rw [if_neg Bool.false_ne_true]
    refine wpAny_bind (wpAny_letGo ?_)
    rw [DQ]
    refine wpAny_pure ⟨plainId_quiet F.plain_min_loop _,ih (j + 1) _ vb c (by omega) lt z1 (by rw [argBest,hb,if_neg Bool.false_ne_true];exact pb) eB1 fun v2 h2 tk2 pv2 k2=>?_⟩
    exact hR v2 h2 tk2 pv2 fun b o bw bB e=>k2 b o bw bB (k1 b o bw e)))
theorem xZ (Wk:Walks prog w A.in1 it fp wr n P Z)(bt:Nat->Nat->Bool)(cm:CmpOf prog w A.in1 .Lt P bt)(B:Addr)(nB:B∉fp)(kw:List (Str×Value))(pos:0 < n){t:Shared}{c:Nat}(zt:Z 0 t.heap)
  (eB:t.heap.get? B=some { cls:=.type "list",dict:=none,data:=.seq #[] c,slots:=#[] })
  (hR:∀ v h1 tk,P (argBest bt (n - 1)) v->(∀ b o,b∉wr->b≠B->t.heap.get? b=some o->h1.get? b=some o)->R (.ok (.ret v)) { t with heap:=h1,toks:=tk }) :
  codeAny (model prog w) A (.builtin "min.loop" ⟨[.ref it,.none,.ref B],kw⟩) R t:=by
 have nBw:B∉wr:=fun z=>nB (Wk.sub _ z)
 refine codeAny_builtin F.entry_min_loop (id (by
  rw [Around.under_plainId F.plain_min_loop _]
  show wpAny _ A.in1 (seqItems? (.ref B) >>= _) _ _ t
  refine wpAny_bind (wpAny_seqItems eB rfl (id (show wpAny _ A.in1 (tryCatch (pyNext (.ref it)) _ >>= _) _ _ t from wpAny_bind (wpAny_tryCatch (Wk.item 0 t _ _ pos zt fun v h1 tk pv z1 k1=>?_)))))
  have eB1:=k1 B _ nBw eB
  show wpAny _ A.in1 (updateSeq B (fun _=>#[v,v]) >>= _) _ _ _
  refine wpAny_bind (id (wpAny_updateSeq eB1 rfl ?_))
  rw [DQ]
  refine wpAny_pure ⟨plainId_quiet F.plain_min_loop _,Fi Wk bt cm B nB kw _ 0 _ v _ rfl pos (Wk.frame _ _ _ z1 fun b bf o e=>?_) pv (Heap.get?_update_self _ eB1 rfl) fun v2 h2 tk2 pv2 k2=>?_⟩
  ·exact (Heap.get?_update_other _ _ (fun z:B=b=>nB (by rw [z];exact bf))).trans e
  ·exact hR v2 h2 tk2 pv2 fun b o bw bB e=>k2 b o bw bB ((Heap.get?_update_other _ _ (Ne.symm bB)).trans (k1 b o bw e))))
theorem zH (Wk:Walks prog w A.in1 it fp wr 0 P Z)(B:Addr)(nB:B∉fp) (k0:Str)(d:Value){t:Shared}{c:Nat}(zt:Z 0 t.heap)
  (eB:t.heap.get? B=some { cls:=.type "list",dict:=none,data:=.seq #[] c,slots:=#[] })
  (hR:∀ h1 tk,(∀ b o,b∉wr->t.heap.get? b=some o->h1.get? b=some o)->R (.ok (.ret d)) { t with heap:=h1,toks:=tk }) :
  codeAny (model prog w) A (.builtin "min.loop" ⟨[.ref it,.none,.ref B],[(k0,d)]⟩) R t:=by
 refine codeAny_builtin F.entry_min_loop (id (by
  rw [Around.under_plainId F.plain_min_loop _]
  show wpAny _ A.in1 (seqItems? (.ref B) >>= _) _ _ t
  refine wpAny_bind (wpAny_seqItems eB rfl (id (show wpAny _ A.in1 (tryCatch (pyNext (.ref it)) _ >>= _) _ _ t from wpAny_bind (wpAny_tryCatch (Wk.done t _ _ zt fun h1 tk k1=>?_)))))
  show wpAny _ A.in1 (rule _ >>= _) _ _ _
  exact wpAny_bind (wpAny_rule (wpAny_pure (hR h1 tk k1)))))
end
section
variable {prog:Program}{w:World}{A:Around}{E:Value->Shared->Prop}{s:Shared}{l:Addr}{xs:Array (Int×Tok)}
theorem AD (a d:Value):argsOk "min" ⟨[a],[("default",d)]⟩:=by unfold argsOk;kernel_rfl
theorem Bb {d:Value}{Q:Value->Shared->Prop}(hh:A.handled=none)(hl:s.heap.IsList l (intItems xs))
  (h0:xs.size=0->∀ h' tk,(∀ b o,s.heap.get? b=some o->h'.get? b=some o)->Q d { s with heap:=h',toks:=tk })
  (h:0 < xs.size->∀ v h' tk,(intItems xs)[argBest (fun i j=>decide (numAt xs i < numAt xs j)) (xs.size - 1)]?=some v->(∀ b o,s.heap.get? b=some o->h'.get? b=some o)->Q v { s with heap:=h',toks:=tk }) :
  wpAny (model prog w) A (call (.builtin "min") [.ref l] [("default",d)]) Q E s:=by
 refine wpAny_call (codeAny_call_builtin F.plain_min F.entry_min ?_)
 have go:wpAny (model prog w) A.in1 (Builtin.«min» ⟨[.ref l],[("default",d)]⟩) (fun fin t=>match fin with
   | .done f=>(match (Except.ok f:Result) with | .ok (.ret v)=>Q v t | .ok _=>False | .error e=>E e t)
   | .again c=>c.quiet=true/\codeAny (model prog w) A c (fun r t=>match r with | .ok (.ret v)=>Q v t | .ok _=>False | .error e=>E e t) t) E s:=by
  show wpAny _ A.in1 (Builtin.Builtins.bindParams "min" ["key","default"] 0 ⟨[],[("default",d)]⟩ >>= _) _ _ s
  refine wpAny_bind (wpAny_of_eq (show Builtin.Builtins.bindParams "min" ["key","default"] 0 ⟨[],[("default",d)]⟩=pure [none,some d] from rfl) (wpAny_bind (wpAny_pure (id (wpAny_bind (iter_intList hl fun t e st hfp hlI=>wpAny_bind (wpAny_newObj_type ?_)))))))
  subst e
  have nS:(s.heap.push { cls:=.type "list_iterator",data:=.fields #[.ref l,.int 0 0] }).objs.size∉[s.heap.objs.size,l]:=fun hm=>Nat.lt_irrefl _ (hfp _ hm)
  have Wk:=Walks.list (prog:=prog) (w:=w) (A:=A.in1) hh s.heap.objs.size l hlI (intItems xs)
  rw [DQ]
  by_cases c:xs.size=0
  ·have e0:(intItems xs).size=0:=by simpa [intItems] using c
   rw [e0] at Wk
   refine wpAny_pure ⟨plainId_quiet F.plain_min_loop _,zH Wk _ nS _ d (Wk.frame _ _ _ st fun b _ o e=>Heap.get?_push_of_some _ e) (Heap.get?_push_size _ rfl) fun h1 tk k1=>?_⟩
   exact h0 c h1 tk fun b o e=>k1 b o (fun hm=>absurd (List.mem_singleton.mp hm ▸ Heap.lt_size e) (Nat.lt_irrefl _)) (Heap.get?_push_of_some _ (Heap.get?_push_of_some _ e))
  ·have pos:0 < (intItems xs).size:=by
    have:(intItems xs).size=xs.size:=by simp [intItems]
    omega
   refine wpAny_pure ⟨plainId_quiet F.plain_min_loop _,xZ Wk _ (CmpOf.ints_lt (numAt xs) (fun _ _=>intItems_at)) _ nS _ pos (Wk.frame _ _ _ st fun b _ o e=>Heap.get?_push_of_some _ e) (Heap.get?_push_size _ rfl) fun v h1 tk pv k1=>?_⟩
   refine h (by omega) v h1 tk (by simpa [intItems] using pv) fun b o e=>?_
   have l1:=Heap.lt_size e
   refine k1 b o (fun hm=>absurd (List.mem_singleton.mp hm ▸ l1) (Nat.lt_irrefl _)) (fun z=>?_) (Heap.get?_push_of_some _ (Heap.get?_push_of_some _ e))
   rw [z] at l1
   rw [Heap.size_push] at l1
   exact Nat.lt_irrefl _ (Nat.lt_of_succ_lt l1)
 simp only [checkBuiltinCall,F.kind_min]
 cases hsig:Manifest.signature? "min" with
 | none=>exact wpAny_pure go
 | some sig =>
  have ha:=AD (.ref l) d
  have ha':Bind.checkArgs "min" sig ⟨[.ref l],[("default",d)]⟩=pure ():=by simpa only [argsOk,hsig] using ha
  simp only [ha']
  exact wpAny_pure go
end
section
variable {X:Cx}
def J8 (K:PySem.W.Frag)(ta td:TE):TE:=fun σ H Q=>nP ta rV σ H fun vs H1=>nP td rV σ H1 fun zs H2=>∃ (a:Addr)(ns:List Int) (d:V),vs=[.ref a]/\zs=[d]/\cu K H2 a (ns.map V.int)/\(ns=[]->Q d H2)/\(∀ M,M∈ns->(∀ n∈ns,M<=n)->Q (.int M) H2)
theorem Ec {e d:Expr}{p pos kp:Pos}{ta td:TE}(hc:X.calm=true)(hg:Gl X "min")(hm:X.mg "min"=none)(ha:PE X e ta)(hd:PE X d td)
  (hs:starEach [e] X.env=[(false,eval e X.env)]:=by rfl):PE X (.Call (.Name "min" p) [e] [⟨some "default",d,kp⟩] pos) (J8 X.K ta td):=by
 intro pins s σ H Q I h
 refine wpAny_Call_Name_kw (j4 I hg hm PyProof.Rows.boot_min ?_ (by decide) (by decide))
 refine PyProof.Rows.callWith_kw (e:=e) (rest:=[]) (kws:=[⟨some "default",d,kp⟩]) ?_ (by rw [hs];rfl) (by rw [hs];rfl) rfl rfl
 have one:PA X [e] (nP ta rV):=jF ha mX hs
 have two:PK X [⟨some "default",d,kp⟩] (nP td rV):=Fw hd Gn
 refine aG (one pos pins s σ H _ I h) fun us s1 ⟨vs,H1,I1,r1,q1⟩=>?_
 refine aG (two pos pins s1 σ H1 _ I1 q1) fun ws s2 ⟨zs,H2,I2,r2,a,ns,dv,e1,e2,hq,q0,q⟩=>?_
 subst e1 e2
 obtain ⟨u,rfl,ru⟩:=vals1 r1
 obtain ⟨u2,rfl,ru2⟩:=vals1 r2
 cases ru
 obtain ⟨its,rv,pl,_⟩:=I2.list hq
 obtain ⟨ps,rfl,rfl⟩:=rH rv
 have hl:s2.heap.IsList a (intItems ps.toArray):=by
  have:=pl.isList
  simpa [intItems] using this
 refine Bb (I2.ok.hd hc) hl (fun e0 h' tk k=>⟨dv,H2,I2.kept (t':=tk) k,ru2,q0 ?_⟩) fun pos v h' tk hv k=>?_
 ·have:ps=[]:=List.eq_nil_of_length_eq_zero (by simpa using e0)
  rw [this]
  rfl
 ·obtain ⟨t,rfl⟩:=intItems_at hv
  obtain ⟨g1,g2⟩:=argBest_lt (numAt ps.toArray) (ps.toArray.size - 1)
  have pos':0 < ps.length:=by simpa using pos
  refine ⟨.int _,H2,I2.kept (t':=tk) k,⟨_,rfl⟩,q _ ?_ fun n hn=>?_⟩
  ·rw [numAt_eq]
   exact getD_mem (by simp at g1 ⊢;omega)
  ·obtain ⟨j,hj,rfl⟩:=mem_getD hn
   rw [List.length_map] at hj
   rw [show (ps.map (·.1)).getD j 0=numAt ps.toArray j by rw [numAt_eq]]
   exact g2 j (by simp;omega)
end
end L2
namespace Dv
open PySem L2 PySem.W
/-! ### the rules,as they are written by dgen.py -/
section
variable {X:Cx}{Ex:XK}{π:List Nat}
theorem xI {i:Int} {j}{pos:Pos}:SE X Ex π (.Constant (.int i) j pos) (dC (.int i)):=ye IA fun _=>.int i
theorem xS {x:Str} {j}{pos:Pos}:SE X Ex π (.Constant (.str x) j pos) (dC (.str x)):=ye Bc fun _=>.str x
theorem xB {b:Bool} {j}{pos:Pos}:SE X Ex π (.Constant (.bool b) j pos) (dC (.bool b)):=ye Kq fun _=>.bl b
theorem xN {j}{pos:Pos}:SE X Ex π (.Constant .none j pos) (dC .none):=ye Jh fun _=>.br
theorem xV (j:Nat){i:Nat}{x:Str}{pos:Pos}(hN:X.N[j]?=some x:=by rfl)(hv:kY X.env.scope x:=by first | exact Or.inl rfl | exact Or.inr (Or.inl rfl) | exact Or.inr (Or.inr rfl))(hj:π[j]?=some i:=by rfl)(hd:(x == ("__debug__":Str))=false:=by decide)
  (hcd:(x == ("__classdict__":Str))=false:=by decide):SE X Ex π (.Name x pos) (bE i):=Jf (ju hN hv hd hcd) hj
theorem a0:aU X Ex π [] []:=.nil
theorem aP (j:Nat){i:Nat}{x:Str}{pos:Pos}{es:List Expr}{as:List Arg}(S:aU X Ex π es as)(hN:X.N[j]?=some x:=by rfl)(hv:kY X.env.scope x:=by first | exact Or.inl rfl | exact Or.inr (Or.inl rfl) | exact Or.inr (Or.inr rfl))(hj:π[j]?=some i:=by rfl)(hd:(x == ("__debug__":Str))=false:=by decide)
  (hcd:(x == ("__classdict__":Str))=false:=by decide):aU X Ex π (.Name x pos::es) (.pk i::as):=.pk (ju hN hv hd hcd) hj S
theorem aE {e:Expr}{d:DE}{es:List Expr}{as:List Arg}(h:SE X Ex π e d)(S:aU X Ex π es as):aU X Ex π (e::es) (.ev d::as):=.ev h S
def kO:DR:=lY fun i j=>.int (i - j)
def jz:DR:=tY (fun _ j=>0 < j) fun i j=>.int (i % j)
def qX:DR:=tY x9 fun i j=>.int (i / j)
def CB:DR:=tY B7 fun i j=>.int (i ^ j.toNat)
def sG:DR:=lY fun i j=>.bool (decide (i < j))
def Lx:DR:=lY fun i j=>.bool (decide (i<=j))
def xU:DR:=lY fun i j=>.bool (decide (j < i))
def Gy:DR:=lY fun i j=>.bool (decide (j<=i))
def pF:DR:=fun ds P=>match ds with
 | [.int a]=>P .sh (.int (-a))
 | _=>False
theorem FG {K:Frag}:cV K pF (r1 (rU fun i=>.int (-i))):=by
 intro H Hm vs ds P Q s r h q
 unfold pF at h
 split at h
 ·obtain ⟨x,rfl,h1⟩:=dR r
  cases h1
  exact ⟨_,rfl,bN.sc q s h (.int _)⟩
 ·exact h.elim
variable {a b:Expr}{pos:Pos}{as:List Arg}
theorem iU (S:aU X Ex π [a,b] as):SE X Ex π (.BinOp a .Add b pos) (ah fj as):=kW FY Ft S
theorem rQ (S:aU X Ex π [a,b] as):SE X Ex π (.BinOp a .Sub b pos) (ah kO as):=kW Hi (lS fun _ _ _=>.int _) S
theorem oS (S:aU X Ex π [a,b] as):SE X Ex π (.BinOp a .Mult b pos) (ah jA as):=kW FQ Ed S
theorem kL (S:aU X Ex π [a,b] as):SE X Ex π (.BinOp a .Mod b pos) (ah jz as):=kW GD (qS fun _ _ _=>.int _) S
theorem yH (S:aU X Ex π [a,b] as):SE X Ex π (.BinOp a .FloorDiv b pos) (ah qX as):=kW Ce (qS fun _ _ _=>.int _) S
theorem K6 (S:aU X Ex π [a,b] as):SE X Ex π (.BinOp a .Pow b pos) (ah CB as):=kW IV (qS fun _ _ _=>.int _) S
theorem BB (S:aU X Ex π [a] as):SE X Ex π (.UnaryOp .USub a pos) (ah pF as):=JR HP FG S
theorem KO (hu:X.A.units + 64 < cLine)(S:aU X Ex π [a,b] as):SE X Ex π (.Compare a [.Eq] [b] pos) (ah jU as):=IB (Av hu) (jv _) Ai S
theorem wZ (S:aU X Ex π [a,b] as):bS X Ex π (.Compare a [.Lt] [b] pos) (ah sG as):=gh uc (jv _) (lS fun _ _ _=>.bl _) S
theorem C8 (S:aU X Ex π [a,b] as):bS X Ex π (.Compare a [.Gt] [b] pos) (ah xU as):=gh Jv (jv _) (lS fun _ _ _=>.bl _) S
theorem LH (S:aU X Ex π [a,b] as):bS X Ex π (.Compare a [.GtE] [b] pos) (ah Gy as):=gh JH (jv _) (lS fun _ _ _=>.bl _) S
theorem xx (hu:X.A.units + 64 < cLine)(S:aU X Ex π [a,b] as):bS X Ex π (.Compare a [.Eq] [b] pos) (ah jU as):=gh (Av hu) (jv _) Ai S
theorem zz (hu:X.A.units + 64 < cLine)(S:aU X Ex π [a,b] as):bS X Ex π (.Compare a [.NotEq] [b] pos) (ah mz as):=gh (HK hu) (jv _) Ih S
theorem Lz (S:aU X Ex π [a,b] as):bS X Ex π (.Compare a [.Is] [b] pos) (ah (eu false) as):=gh HN (jv _) EH S
theorem KR (S:aU X Ex π [a,b] as):bS X Ex π (.Compare a [.IsNot] [b] pos) (ah (eu true) as):=gh Fz (jv _) Cq S
theorem Kr (hu:X.A.units + 64 < cLine)(S:aU X Ex π [a,b] as)(hm:behindInMarks .In b=false:=by rfl):bS X Ex π (.Compare a [.In] [b] pos) (ah (gX false) as):=gh (Hw hu) hm (wU false) S
theorem Iu (hu:X.A.units + 64 < cLine)(S:aU X Ex π [a,b] as)(hm:behindInMarks .NotIn b=false:=by rfl):bS X Ex π (.Compare a [.NotIn] [b] pos) (ah (gX true) as):=gh (AE hu) hm (wU true) S
theorem DN {e:Expr}{d:DE}(h:SE X Ex π e d)(he:∀ whole,isTrue e X.env whole=(do let v <- whole;standAt e.pos;holding [v] (truthy v)):=by intro _;rfl):bS X Ex π e d:=h.uR he
theorem tV (j:Nat){i:Nat}{x:Str}{pos:Pos}(hN:X.N[j]?=some x:=by rfl)(hv:kY X.env.scope x:=by first | exact Or.inl rfl | exact Or.inr (Or.inl rfl) | exact Or.inr (Or.inr rfl))(hj:π[j]?=some i:=by rfl)(hd:(x == ("__debug__":Str))=false:=by decide)
  (hcd:(x == ("__classdict__":Str))=false:=by decide):ST X Ex π (.Name x pos) (xH i):=Li (ju hN hv hd hcd) hj fun _=>rfl
theorem bU (hu:X.A.units + 64 < cLine)(S:aU X Ex π [a,b] as)(hs:lg b:=by intro _ _;rfl):SE X Ex π (.Subscript a b pos) (ah aI as):=Jm (K3 hu) hs FU S
/-! built-ins -/
variable {p:Pos}
theorem fY (hm:X.mg "len"=none)(S:aU X Ex π [a] as)(hg:Gl X "len":=by rfl)(ns:noStar a=true:=by rfl):SE X Ex π (.Call (.Name "len" p) [a] [] pos) (ah cS as):=f6 (vJ.or Am) BQ hg hm PySem.boot_len (by decide) (by decide) (by rw [List.all_cons,ns];rfl) S
theorem nZ (hm:X.mg "list"=none)(S:aU X Ex π [a] as)(hg:Gl X "list":=by rfl)(ns:noStar a=true:=by rfl):SE X Ex π (.Call (.Name "list" p) [a] [] pos) (ah iM as):=nH uL Cv hg hm PyProof.Rows.boot_list (by decide) (by decide) (by rw [List.all_cons,ns];rfl) S
theorem uE (hm:X.mg "tuple"=none)(S:aU X Ex π [a] as)(hg:Gl X "tuple":=by rfl)(ns:noStar a=true:=by rfl):SE X Ex π (.Call (.Name "tuple" p) [a] [] pos) (ah jl as):=nH tU zq hg hm PyProof.Rows.boot_tuple (by decide) (by decide) (by rw [List.all_cons,ns];rfl) S
theorem BE (hm:X.mg "min"=none)(S:aU X Ex π [a,b] as)(hc:X.calm=true:=by rfl)(hg:Gl X "min":=by rfl)(ns:noStar a=true:=by rfl)(ns2:noStar b=true:=by rfl):SE X Ex π (.Call (.Name "min" p) [a,b] [] pos) (ah p9 as):=f6 (zo hc) D0 hg hm PyProof.Rows.boot_min (by decide) (by decide) (by rw [List.all_cons,List.all_cons,ns,ns2];rfl) S
theorem Cg (hm:X.mg "max"=none)(S:aU X Ex π [a,b] as)(hc:X.calm=true:=by rfl)(hg:Gl X "max":=by rfl)(ns:noStar a=true:=by rfl)(ns2:noStar b=true:=by rfl):SE X Ex π (.Call (.Name "max" p) [a,b] [] pos) (ah pY as):=f6 (Ak hc) D0 hg hm PyProof.Rows.boot_max (by decide) (by decide) (by rw [List.all_cons,List.all_cons,ns,ns2];rfl) S
theorem DJ (hm:X.mg "min"=none)(S:aU X Ex π [a] as)(hc:X.calm=true:=by rfl)(hg:Gl X "min":=by rfl)(ns:noStar a=true:=by rfl):SE X Ex π (.Call (.Name "min" p) [a] [] pos) (ah qB as):=f6 (Ar hc) Cu hg hm PyProof.Rows.boot_min (by decide) (by decide) (by rw [List.all_cons,ns];rfl) S
theorem Lm (hm:X.mg "abs"=none)(S:aU X Ex π [a] as)(hg:Gl X "abs":=by rfl)(ns:noStar a=true:=by rfl):SE X Ex π (.Call (.Name "abs" p) [a] [] pos) (ah vB as):=f6 BC EF hg hm PyProof.Rows.boot_abs (by decide) (by decide) (by rw [List.all_cons,ns];rfl) S
theorem K2 (hm:X.mg "int"=none)(S:aU X Ex π [a] as)(hg:Gl X "int":=by rfl)(ns:noStar a=true:=by rfl):SE X Ex π (.Call (.Name "int" p) [a] [] pos) (ah kX as):=nH zQ zk hg hm PyProof.Rows.boot_int (by decide) (by decide) (by rw [List.all_cons,ns];rfl) S
theorem Lf (hm:X.mg "sum"=none)(S:aU X Ex π [a] as)(hc:X.calm=true:=by rfl)(hg:Gl X "sum":=by rfl)(ns:noStar a=true:=by rfl):SE X Ex π (.Call (.Name "sum" p) [a] [] pos) (ah yU as):=f6 (zm hc) Fe hg hm PyProof.Rows.boot_sum (by decide) (by decide) (by rw [List.all_cons,ns];rfl) S
theorem qK (hm:X.mg "sorted"=none)(S:aU X Ex π [a] as)(hg:Gl X "sorted":=by rfl)(ns:noStar a=true:=by rfl):SE X Ex π (.Call (.Name "sorted" p) [a] [] pos) (ah jr as):=f6 vh Be hg hm PyProof.Rows.boot_sorted (by decide) (by decide) (by rw [List.all_cons,ns];rfl) S
theorem qH {pos2 p2:Pos}(h1:X.mg "list"=none)(h2:X.mg "range"=none)(S:aU X Ex π [a] as)(hc:X.calm=true:=by rfl)(g1:Gl X "list":=by rfl)(g2:Gl X "range":=by rfl)(ns:noStar a=true:=by rfl):SE X Ex π (.Call (.Name "list" p) [.Call (.Name "range" p2) [a] [] pos2] [] pos) (ah iu as):=B9 hc g1 h1 g2 h2 ns S
theorem gA {es:List Expr}(S:aU X Ex π es as)(ns:es.all noStar=true:=by rfl):SE X Ex π (.List es pos) (ah eT as):=HC ns S
theorem pH {es:List Expr}{k:Nat}(S:aU X Ex π es as)(ns:es.all noStar=true:=by rfl):SE X Ex π (.Tuple es k pos) (ah iZ as):=Ie ns S
/-! what is gone through -/
variable {tg:Expr}
theorem oE (hm:X.mg "range"=none)(S:aU X Ex π [a] as)(hg:Gl X "range":=by rfl)(ns:noStar a=true:=by rfl):SI X Ex π tg (.Call (.Name "range" p) [a] [] pos) (iT kE as):=Ju hg hm ns S
theorem LL (hm:X.mg "range"=none)(S:aU X Ex π [a,b] as)(hg:Gl X "range":=by rfl)(ns:noStar a=true:=by rfl)(ns2:noStar b=true:=by rfl):SI X Ex π tg (.Call (.Name "range" p) [a,b] [] pos) (iT AQ as):=Jo hg hm ns ns2 S
theorem K5 {elts:List Expr}{x1:Nat}{tp:Pos}{d:DE}(hm:X.mg "enumerate"=none)(h:SE X Ex π a d)(hg:Gl X "enumerate":=by rfl)(ns:noStar a=true:=by rfl):SI X Ex π (.Tuple elts x1 tp) (.Call (.Name "enumerate" p) [a] [] pos) (xK d):=JL hg hm ns h
/-! targets -/
theorem gN (j:Nat){i:Nat}{x:Str}(hN:X.N[j]?=some x:=by rfl)(hj:π[j]?=some i:=by rfl)(hl:Loc X.env.scope x:=by first | exact Or.inl rfl | exact Or.inr rfl)(hf:X.fn x=true\/X.env.scope.names.lookup x=some .local:=by first | exact Or.inl rfl | exact Or.inr rfl):fW X π (.Name x p) (.nm i):=.nm hN hj hl hf
theorem g0:jZ X π [] []:=.nil
theorem gC (j:Nat){i:Nat}{x:Str}{ts:List Expr}{is:List Nat}(t:jZ X π ts is)(hN:X.N[j]?=some x:=by rfl)(hj:π[j]?=some i:=by rfl)(hl:Loc X.env.scope x:=by first | exact Or.inl rfl | exact Or.inr rfl)(hf:X.fn x=true\/X.env.scope.names.lookup x=some .local:=by first | exact Or.inl rfl | exact Or.inr rfl):jZ X π (.Name x p::ts) (i::is):=.cons hN hj hl hf t
theorem gT {ts:List Expr}{k:Nat}{is:List Nat}(t:jZ X π ts is):fW X π (.Tuple ts k p) (.tp is):=.tp t
/-! calls of the text's defs -/
theorem nW:Passes (bT X.prog X.w) X E0:=by
 rintro pins σ H s e s' I ⟨_,_,_,_,_,_,_,_,_,_,_,_,_,_,z⟩
 exact z.elim
theorem bq {x:Str}{k k':Nat}{ps:List Str}{ms:List Bool}{sp:bW}{e:Expr}{es:List Expr}(F:aJ X.prog X.w X.K X.mg X.base k x ps (aD X.mg X.K ms sp))(hp:Passes (bT X.prog X.w) X Ex)(hr:d9 k' X.A)(S:aU X Ex π (e::es) as)(hk:k<=k':=by decide)(hg:Gl X x:=by rfl)(hd:(x == ("__debug__":Str))=false:=by decide)
  (ns:(e::es).all noStar=true:=by rfl):SE X Ex π (.Call (.Name x p) (e::es) [] pos) (aX sp ms as):=EG F hp (hr.mono hk) hg hd ns S
/-! statements -/
theorem c9 {d:DE}(h:SE X Ex (aT X) a d):S1 X Ex (.Return (some a) pos) (cJ d):=JU h
theorem qN (i:Nat){x:Str}(hN:X.N[i]?=some x:=by rfl)(hv:kY X.env.scope x:=by first | exact Or.inl rfl | exact Or.inr (Or.inl rfl) | exact Or.inr (Or.inr rfl))(hd:(x == ("__debug__":Str))=false:=by decide)
  (hcd:(x == ("__classdict__":Str))=false:=by decide):S1 X Ex (.Return (some (.Name x p)) pos) (ji i):=HS (ju hN hv hd hcd) (bR hN)
theorem gM {d:DE}(h:SE X Ex (aT X) a d)(hs:swapsWith a none pos.line X.env=pure false:=by rfl):S1 X Ex (.Expr a pos) (fH d):=G5 h hs
theorem bA (i:Nat){x:Str}{d:DE}(hN:X.N.Nodup)(h:SE X Ex (aT X) a d)(hi:X.N[i]?=some x:=by rfl)(hl:Loc X.env.scope x:=by first | exact Or.inl rfl | exact Or.inr rfl)(hs:swapsWith a (some (.Name x p)) pos.line X.env=pure false:=by rfl)(hf:X.fn x=true\/X.env.scope.names.lookup x=some .local:=by first | exact Or.inl rfl | exact Or.inr rfl) :
  S1 X Ex (.Assign [.Name x p] a pos) (aV i d):=Js hN hi hl hs hf h
theorem yy {ts:List Expr}{is:List Nat}{k:Nat}{d:DE}(hN:X.N.Nodup)(ht:jZ X (aT X) ts is)(h:SE X Ex (aT X) a d)(hc:X.calm=true:=by rfl)(hs:swapsWithSole [.Tuple ts k p] a pos.line X.env=pure false:=by rfl)(hw:swappedStores [.Tuple ts k p] a X.env=pure none:=by rfl):S1 X Ex (.Assign [.Tuple ts k p] a pos) (lP is d):=Jt hc hN ht hs hw h
theorem sf (i:Nat){x:Str}{pos':Pos}{dj de:DE}(hu:X.A.units + 64 < cLine)(hd:SE X Ex (aT X) a de)(hd2:SE X Ex (aT X) b dj)(hN:X.N[i]?=some x:=by rfl)(hv:kY X.env.scope x:=by first | exact Or.inl rfl | exact Or.inr (Or.inl rfl) | exact Or.inr (Or.inr rfl))(hs:swapsWithSole [.Subscript (.Name x p) b pos'] a pos.line X.env=pure false:=by rfl)
  (ha:∀ v,assign (.Subscript (.Name x p) b pos') X.env v=(do
   let ov <- holding [v] (eval (.Name x p) X.env)
   let iv <- holding [v,ov] (eval b X.env)
   standAt pos'
   holding [v,ov,iv] (setItem ov iv v)
   release [v,ov,iv] []):=by intro _;rfl)(hb:(x == ("__debug__":Str))=false:=by decide)(hcd:(x == ("__classdict__":Str))=false:=by decide):S1 X Ex (.Assign [.Subscript (.Name x p) b pos'] a pos) (iL i dj de):=J3 hu (ju hN hv hb hcd) (jb (bR hN)) hs ha hd hd2
theorem jm {t:DT}{d e:DS}{u v:List Stmt}(hc:ST X Ex (aT X) a t)(ha:SS X Ex u d)(hb:SS X Ex v e):S1 X Ex (.If a u v pos) (eU t d e):=Lg hc ha hb
theorem zO {t:DT}{d:DS}{u:List Stmt}(hp:PassesOwn (model X.prog X.w) X.A X.env X.xe)(hc:ST X Ex (aT X) a t)(hb:SS X Ex u d):S1 X Ex (.While a u [] pos) (mL t d):=EX hp hc hb
theorem iF {u:List Stmt}{di:DI}{t:Tg}{d:DS}(hp:PassesOwn (model X.prog X.w) X.A X.env X.xe)(hN:X.N.Nodup)(hi:SI X Ex (aT X) tg a di)(ht:fW X (aT X) tg t)(hb:SS X Ex u d)(hc:X.calm=true:=by rfl)(hs:∀ x,foldedSetIterable a X.env x=pure x:=by intro _;rfl):S1 X Ex (.For tg a u [] pos) (f9 di t d):=JS hp hc hN hi ht hb hs
end
end Dv
namespace Dv
open PySem L2 PySem.W
/-! ### methods -/
section
variable {X:Cx}{Ex:XK}{π:List Nat}
theorem e0:oM X Ex π [] []:=.nil
theorem eC {e:Expr}{d:DE}{es:List Expr}{ds:List DE}(h:SE X Ex π e d)(t:oM X Ex π es ds):oM X Ex π (e::es) (d::ds):=.cons h t
theorem xM (j:Nat){i:Nat}{x name:Str}{id:String}{p apos cpos:Pos}{es:List Expr}{ds:List DE}{f:DM}{r:V->List V->Hp->VK->Prop}(hm:tO X id r)(D:wY X.K f r)(slot:Slot "list" name id)(hty:typeOf (.builtin id)=pure (.type "method_descriptor"))(S:oM X Ex π es ds)
  (hN:X.N[j]?=some x:=by rfl)(hv:kY X.env.scope x:=by first | exact Or.inl rfl | exact Or.inr (Or.inl rfl) | exact Or.inr (Or.inr rfl))(hj:π[j]?=some i:=by rfl)(ns:es.all noStar=true:=by rfl)(l30:decide (es.length < 30)=true:=by rfl)(hline:(apos.endLine == cpos.line)=true:=by rfl)(hd:(x == ("__debug__":Str))=false:=by decide)
  (hcd:(x == ("__classdict__":Str))=false:=by decide):SE X Ex π (.Call (.Attribute (.Name x p) name apos) es [] cpos) (nE f i ds):=Kf hm D slot hty (ju hN hv hd hcd) hj ns (of_decide_eq_true l30) hline S
/-! ### comprehensions -/
def jY:List Nat->Bool
 | []=>true
 | a::r=>!r.contains a && jY r
theorem ie:∀ {l:List Nat},jY l=true->l.Nodup
 | [],_=>List.nodup_nil
 | a::r,h=>by
  rw [jY,Bool.and_eq_true,Bool.not_eq_true',List.contains_eq_mem,decide_eq_false_iff_not] at h
  exact List.nodup_cons.mpr ⟨h.1,ie h.2⟩
def rN (π cs ix:List Nat)(vs:List Str)(sl:List Nat):Bool:=(cs.length == vs.length) && ix.all (fun i=>Nat.blt i π.length) && cs.all (fun c=>!π.contains c) && jY (bD π cs ix) && sl.all (fun i=>cs.contains i)
theorem qM {π cs ix:List Nat}{vs:List Str}{sl:List Nat}(h:rN π cs ix vs sl=true):cs.length=vs.length/\(∀ i∈ix,i < π.length)/\(∀ c∈cs,c∉π)/\(bD π cs ix).Nodup/\∀ i∈sl,i∈cs:=by
 unfold rN at h
 rw [Bool.and_eq_true,Bool.and_eq_true,Bool.and_eq_true,Bool.and_eq_true,List.all_eq_true,List.all_eq_true,List.all_eq_true,beq_iff_eq] at h
 obtain ⟨⟨⟨⟨h1,h2⟩,h3⟩,h4⟩,h5⟩:=h
 refine ⟨h1,fun i hi=>by simpa using h2 i hi,fun c hc z=>?_,ie h4,fun i hi=>?_⟩
 ·have:=h3 c hc
  rw [Bool.not_eq_true',List.contains_eq_mem,decide_eq_false_iff_not] at this
  exact this z
 ·have:=h5 i hi
  rw [List.contains_eq_mem,decide_eq_true_eq] at this
  exact this
def DU (r:List Comprehension):Bool:=r.all fun g=>g.is_async == 0
theorem uv {r:List Comprehension}(h:DU r=true):∀ g∈r,g.is_async=0:=fun g hg=>by
 have:=List.all_eq_true.mp h g hg
 simpa using this
variable {cs:List Nat}{elt tg iter:Expr}{ifs:List Expr}{scope:Scope}{pos:Pos}
theorem gq {rest:List Comprehension}{vs NB:List Str}{ix:List Nat}{di:DI}{t:Tg}{c:DT}{r:DC}(B:lA X.N X.env.scope scope vs NB ix=true)(hi:SI X Ex π tg iter di)(ht:∀ (C:Addr)(s:Shared)(H:Hp)(fp:List Addr),fW (X.block scope C NB s H fp) (bD π cs ix) tg t)
  (hif:∀ (C:Addr)(s:Shared)(H:Hp)(fp:List Addr),iP (X.block scope C NB s H fp) E0 (bD π cs ix) ifs c)(hr:∀ (C:Addr)(s:Shared)(H:Hp)(fp:List Addr)(D:Addr),SL (X.block scope C NB s H fp) (bD π cs ix) cs D elt (⟨tg,iter,ifs,0⟩:: rest) scope pos 1 r)
  (hc:X.calm=true:=by rfl)(ck:rN π cs ix vs t.slots=true:=by rfl)(ha:DU rest=true:=by rfl)(hs:∀ v,foldedSetIterable iter X.env v=pure v:=by intro _;rfl):SE X Ex π (.ListComp elt (⟨tg,iter,ifs,0⟩:: rest) scope pos) (bV cs di t c r) :=
 let ⟨h1,h2,h3,h4,h5⟩:=qM ck
 IQ (cI.of B) hc h1 h2 h3 h4 hi ht h5 hif hr (uv ha) hs
theorem HL {j:Nat}{y:Str}{py spos:Pos}{rest:List Comprehension}{vs NB:List Str}{ix:List Nat}{di:DI}{t:Tg}{c:DT}{r:DC}(hN:X.N.Nodup)(B:lA X.N X.env.scope scope vs NB ix=true)(hi:SI X Ex (aT X) tg iter di)(ht:∀ (C:Addr)(s:Shared)(H:Hp)(fp:List Addr),fW (X.block scope C NB s H fp) (bD (aT X) cs ix) tg t)
  (hif:∀ (C:Addr)(s:Shared)(H:Hp)(fp:List Addr),iP (X.block scope C NB s H fp) E0 (bD (aT X) cs ix) ifs c)(hr:∀ (C:Addr)(s:Shared)(H:Hp)(fp:List Addr)(D:Addr),SL (X.block scope C NB s H fp) (bD (aT X) cs ix) cs D elt (⟨tg,iter,ifs,0⟩:: rest) scope pos 1 r)
  (hj:X.N[j]?=some y:=by rfl)(hy:X.env.scope.names.lookup y=some .local:=by rfl)(hsw:swapsWith (.ListComp elt (⟨tg,iter,ifs,0⟩:: rest) scope pos) (some (.Name y py)) spos.line X.env=pure true:=by rfl)
  (hc:X.calm=true:=by rfl)(ck:rN (aT X) cs ix vs t.slots=true:=by rfl)(ha:DU rest=true:=by rfl)(hs:∀ v,foldedSetIterable iter X.env v=pure v:=by intro _;rfl):S1 X Ex (.Assign [.Name y py] (.ListComp elt (⟨tg,iter,ifs,0⟩:: rest) scope pos) spos) (aV j (bV cs di t c r)) :=
 let ⟨h1,h2,h3,h4,h5⟩:=qM ck
 JP hN hj hy (cI.of B) hc h1 h2 h3 h4 hi ht h5 hif hr (uv ha) hs hsw
def r9 (N:List Str)(fs scope:Scope) (x:Str)(vs NB:List Str)(ix:List Nat):Bool :=
 decide (scope.kind=.function) && scope.names.all (fun y=>decide (y.2≠.cell) || decide (y.1=x)) && scope.names.all (fun y=>decide (y.2≠.local) || decide (scope.names.lookup y.1=some .local)) &&
 scope.names.all (fun y=>decide (y.2≠.free) || (decide (y.1≠x) && (decide (fs.names.lookup y.1=some .cell) || decide (fs.names.lookup y.1=some .free)))) && decide (scope.names.lookup x=some .cell) &&
 decide (NB=vs++ix.map fun i=>N.getD i "") && decide NB.Nodup && ix.all fun i=>match N[i]? with | some y=>decide (scope.names.lookup y=some .free) | none=>false
theorem dH.of {x:Str}{vs NB:List Str}{ix:List Nat}(h:r9 X.N X.env.scope scope x vs NB ix=true)(cf:∀ (n:Nat)(acc:List (Str×Addr)),cellsFrom n scope.names acc=(x,n)::acc)(pc:∀ h:Heap,pushCells h scope.names=h.push nU):dH X scope x vs NB ix:=by
 unfold r9 at h
 simp only [Bool.and_eq_true] at h
 obtain ⟨⟨⟨⟨⟨⟨⟨h1,h2⟩,h3⟩,h4⟩,h5⟩,h6⟩,h7⟩,h8⟩:=h
 refine ⟨of_decide_eq_true h1,fun y hy e=>?_,fun y hy e=>?_,fun y hy=>?_,fun hy=>?_,of_decide_eq_true h5,of_decide_eq_true h6,of_decide_eq_true h7,fun i hi=>?_,cf,pc⟩
 ·have z:=List.all_eq_true.mp h2 y hy
  rw [Bool.or_eq_true] at z
  exact z.elim (fun z=>absurd e (of_decide_eq_true z)) fun z=>of_decide_eq_true z
 ·have z:=List.all_eq_true.mp h3 y hy
  rw [Bool.or_eq_true] at z
  exact z.elim (fun z=>absurd e (of_decide_eq_true z)) fun z=>of_decide_eq_true z
 ·have z:=List.all_eq_true.mp h4 _ hy
  rw [Bool.or_eq_true,Bool.and_eq_true,Bool.or_eq_true] at z
  exact z.elim (fun z=>absurd rfl (of_decide_eq_true z)) fun z=>z.2.imp of_decide_eq_true of_decide_eq_true
 ·have z:=List.all_eq_true.mp h4 _ hy
  rw [Bool.or_eq_true,Bool.and_eq_true] at z
  exact z.elim (fun z=>absurd rfl (of_decide_eq_true z)) fun z=>absurd rfl (of_decide_eq_true z.1)
 ·have z:=List.all_eq_true.mp h8 i hi
  split at z
  ·rename_i y e
   exact ⟨y,e,of_decide_eq_true z⟩
  ·cases z
theorem Gx {cx:Str}{rest:List Comprehension}{vs NB:List Str}{ix:List Nat}{di:DI}{t:Tg}{c:DT}{r:DC}(B:r9 X.N X.env.scope scope cx vs NB ix=true)(hi:SI X Ex π tg iter di)(ht:∀ (C c':Addr)(s:Shared)(H:Hp)(fp:List Addr),fW (X.aW scope cx C c' NB s H fp) (bD π cs ix) tg t)
  (hif:∀ (C c':Addr)(s:Shared)(H:Hp)(fp:List Addr),iP (X.aW scope cx C c' NB s H fp) E0 (bD π cs ix) ifs c)(hr:∀ (C c':Addr)(s:Shared)(H:Hp)(fp:List Addr)(D:Addr),SL (X.aW scope cx C c' NB s H fp) (bD π cs ix) cs D elt (⟨tg,iter,ifs,0⟩:: rest) scope pos 1 r)
  (cf:∀ (n:Nat)(acc:List (Str×Addr)),cellsFrom n scope.names acc=(cx,n)::acc:=by intro _ _;rfl)(pc:∀ h:Heap,pushCells h scope.names=h.push nU:=by intro _;rfl)
  (hc:X.calm=true:=by rfl)(ck:rN π cs ix vs t.slots=true:=by rfl)(ha:DU rest=true:=by rfl)(hs:∀ v,foldedSetIterable iter X.env v=pure v:=by intro _;rfl):SE X Ex π (.ListComp elt (⟨tg,iter,ifs,0⟩:: rest) scope pos) (bV cs di t c r) :=
 let ⟨h1,h2,h3,h4,h5⟩:=qM ck
 Ii (dH.of B cf pc) hc h1 h2 h3 h4 hi ht h5 hif hr (uv ha) hs
theorem dg {D:Addr}{gens:List Comprehension}{k:Nat}{d:DE}(h:SE X E0 π elt d)(hk:gens[k]?=none:=by rfl):SL X π cs D elt gens scope pos k (b7 sizeLine d):=E7 h hk
/-! ### x op= e -/
/-! ### isinstance(e,C),C a built-in -/
def pZ:PyData->Option String
 | .none=>some "NoneType"
 | .bool _=>some "bool"
 | .int _=>some "int"
 | .str _=>some "str"
 | .list _=>some "list"
 | .tuple _=>some "tuple"
 | .dict _=>none
def iJ (c t:String):Bool:=t == c || (c == "int" && t == "bool")
def tB (c:String):DR:=fun ds P=>match ds with
 | [d]=>∃ t,pZ d=some t/\P .sh (.bool (iJ c t))
 | _=>False
def tys:List String:=["NoneType","bool","int","str","list","tuple"]
def uw (K:Frag)(cs:List String):Bool:=cs.all fun c=>tys.all fun t=>kitOne K (.type t) (.type c) == some (iJ c t)
theorem GB {K:Frag}{cs:List String}(h:uw K cs=true){c t:String}(hc:c∈cs)(ht:t∈tys):kitOne K (.type t) (.type c)=some (iJ c t):=by
 have:=List.all_eq_true.mp (List.all_eq_true.mp h c hc) t ht
 simpa using this
theorem Jj {K:Frag}{H Hm:Hp}(s:aj Hm H){v:V}{d:PyData}{t:String}(r:Rp K Hm v d)(h:pZ d=some t):gu K H v (.type t)/\t∈tys:=by
 cases r with
 | br=>cases h;exact ⟨.br,by decide⟩
 | bl b=>cases h;exact ⟨.bl b,by decide⟩
 | int i=>cases h;exact ⟨.int i,by decide⟩
 | str x=>cases h;exact ⟨.str x,by decide⟩
 | lst a _ =>
  cases h
  refine ⟨?_,by decide⟩
  rcases a with (a | ⟨o,a⟩) | ⟨its,n,a,_⟩
  ·exact .lst (s _ _ a)
  ·exact .fM (s _ _ a)
  ·exact .kl a
 | tup a _=>cases h;exact ⟨.tup (s _ _ a),by decide⟩
 | dk _ _=>cases h
 | dt _ _=>cases h
theorem Ia {x:Str}{c:String}{css:List String}{p p2 pos:Pos}{a:Expr}{as:List Arg}(kf:uw X.K css=true)(hc:css.contains c=true)(hm:X.mg "isinstance"=none)(hm2:X.mg x=none)(hv:bootBuiltins x=some (.type c))(hg:Gl X "isinstance")(hg2:Gl X x)(hn:x≠"__name__")(hd:(x == ("__debug__":Str))=false)(ns:noStar a=true)(S:aU X Ex π [a] as) :
  SE X Ex π (.Call (.Name "isinstance" p) [a,.Name x p2] [] pos) (ah (tB c) as):=by
 refine gm (r:=fun vs H Q=>∃ v t,vs=[v]/\gu X.K H v (.type t)/\t∈tys/\Q (.bl (iJ c t)) H) S (fun σ H Q h=>WE.of (vg Bs hg hm PyProof.Rows.boot_isinstance (jF bx (jF (EO (v:=.ty c) hg2 hm2 hv rfl hn hd) mX) (b5 ns)) (by decide) (by decide) (b5 ns) (by rfl)) ?_) ?_
 ·refine fun pins s I=>aG (h pins s I) fun v s1 ⟨y,H1,I1,r1,w,t,e,ty,ht,q⟩=>⟨y,H1,I1,r1,?_⟩
  cases e
  refine ⟨_,_,_,_,rfl,ty,fun u hu=>?_,q⟩
  cases hu
  exact GB kf (by simpa using hc) ht
 ·intro H Hm vs ds P Q s r h q
  unfold tB at h
  split at h
  ·obtain ⟨v,rfl,h1⟩:=dR r
   obtain ⟨t,e,h⟩:=h
   obtain ⟨ty,ht⟩:=Jj s h1 e
   exact ⟨v,t,rfl,ty,ht,bN.sc q s h (.bl _)⟩
  ·exact h.elim
theorem Cj {x:Str}{c:String}{css:List String}{p p2 pos:Pos}{a:Expr}{as:List Arg}(kf:uw X.K css=true)(hm:X.mg "isinstance"=none)(hm2:X.mg x=none)(hv:bootBuiltins x=some (.type c))(S:aU X Ex π [a] as)(hc:css.contains c=true:=by decide)(hg:Gl X "isinstance":=by rfl)(hg2:Gl X x:=by rfl)(hn:x≠"__name__":=by decide)(hd:(x == ("__debug__":Str))=false:=by decide)(ns:noStar a=true:=by rfl) :
  SE X Ex π (.Call (.Name "isinstance" p) [a,.Name x p2] [] pos) (ah (tB c) as):=Ia kf hc hm hm2 hv hg hg2 hn hd ns S
/-! ### min(e,default=d) -/
def tZ:DR:=fun ds P=>∃ (ns:List Int)(d:PyData),ds=[.list (ns.map .int),d]/\(ns=[]->P .sh d)/\∀ M,M∈ns->(∀ n∈ns,M<=n)->P .sh (.int M)
theorem ER {a b:Expr}{p pos kp:Pos}{as:List Arg}(hc:X.calm=true)(hg:Gl X "min")(hm:X.mg "min"=none)(ns:noStar a=true)(S:aU X Ex π [a,b] as):SE X Ex π (.Call (.Name "min" p) [a] [⟨some "default",b,kp⟩] pos) (ah tZ as):=by
 refine gm (r:=fun vs H Q=>∃ (l:Addr)(ns:List Int) (d:V),vs=[.ref l,d]/\cu X.K H l (ns.map V.int)/\(ns=[]->Q d H)/\(∀ M,M∈ns->(∀ n∈ns,M<=n)->Q (.int M) H)) S (fun σ H Q h=>WE.of (Ec hc hg hm bx bx (b5 ns)) ?_) ?_
 ·refine fun pins s I=>aG (h pins s I) fun v s1 ⟨y,H1,I1,r1,q1⟩=>⟨y,H1,I1,r1,fun pins2 s2 I2=>aG (q1 pins2 s2 I2) fun v2 s3 ⟨y2,H2,I3,r2,l,ns,d,e,q⟩=>⟨y2,H2,I3,r2,?_⟩⟩
  cases e
  exact ⟨l,ns,y2,rfl,rfl,q⟩
 ·rintro H Hm vs ds P Q s r ⟨ns,d,rfl,h1,h2⟩ q
  obtain ⟨x,y,rfl,r1,r2⟩:=cW r
  obtain ⟨a,xs,rfl,ha,r1⟩:=i7 r1
  cases j8 r1
  exact ⟨a,ns,y,rfl,(cQ.mono s ha).sq,fun e=>bN.sc q s (h1 e) r2,fun M m1 m2=>bN.sc q s (h2 M m1 m2) (.int _)⟩
theorem Jy {a b:Expr}{p pos kp:Pos}{as:List Arg}(hm:X.mg "min"=none)(S:aU X Ex π [a,b] as)(hc:X.calm=true:=by rfl)(hg:Gl X "min":=by rfl)(ns:noStar a=true:=by rfl):SE X Ex π (.Call (.Name "min" p) [a] [⟨some "default",b,kp⟩] pos) (ah tZ as):=ER hc hg hm ns S
end
end Dv
namespace Dv
open PySem L2 PySem.W
/-! ### objects that nobody holds yet -/
open Classical in
noncomputable def Gh.fE (g:Gh)(H:Hp)(fp:List Addr):Gh:=⟨fun a=>if a∈fp then H a else g.H0 a,fun a=>if a∈fp then none else g.gn a,g.pins⟩
section
variable {K:Frag}{g:Gh}{E:En}{σ:St}{H H' Hm Hm':Hp}{F:Nat->List Addr}{fp:List Addr}
theorem jJ {a:Addr}(h:a∈fp):(g.fE H fp).H0 a=H a:=by unfold Gh.fE;exact if_pos h
theorem fF {a:Addr}(h:a∉fp):(g.fE H fp).H0 a=g.H0 a:=by unfold Gh.fE;exact if_neg h
theorem A9 {a:Addr}(h:a∈fp):(g.fE H fp).gn a=none:=by unfold Gh.fE;exact if_pos h
theorem wG {a:Addr}(h:a∉fp):(g.fE H fp).gn a=g.gn a:=by unfold Gh.fE;exact if_neg h
structure lF (g:Gh)(F:Nat->List Addr)(H Hm:Hp)(fp:List Addr):Prop where
 xA:∀ a∈fp,∃ u,H a=some u/\oQ u
 off:∀ a∈fp,Hm a=none
 aR:∀ a∈fp,∀ i,a∉F i
 new:∀ a∈fp,g.H0 a=none
theorem lF.bI (A:lF g F H Hm fp):∀ a∈fp,H a≠none:=fun a ha z=>by
 obtain ⟨u,hu,_⟩:=A.xA a ha
 rw [z] at hu;cases hu
theorem lF.notM (A:lF g F H Hm fp)(R:Rl K g E σ H Hm F):∀ a∈fp,a∉g.M:=fun a ha m=>by
 obtain ⟨q,hq,rfl⟩:=List.mem_map.mp m
 exact A.aR _ ha q.1 (by rw [R.ya hq];exact List.mem_cons_self)
theorem Rl.fE (R:Rl K g E σ H Hm F)(A:lF g F H Hm fp):Rl K (g.fE H fp) E σ H Hm F where
 len:=R.len
 sub:=R.sub
 slot:=R.slot
 off:=R.off
 bI:=R.bI
 aR:=R.aR
 fr:=fun p o hp ho=>by
  by_cases c:p∈fp
  ·rw [jJ c] at ho;exact ho
  ·rw [fF c] at ho;exact R.fr p o hp ho
 new:=fun i a ha=>by
  have c:a∉fp:=fun z=>A.aR a z i ha
  rw [fF c]
  exact R.new i a ha
 pin:=R.pin
 old:=fun a ha=>by
  by_cases c:a∈fp
  ·rw [A9 c];exact .inl (A.off a c)
  ·rw [fF c] at ha
   rw [wG c]
   exact R.old a ha
theorem Rl.qj {E':En}{σ':St}{F':Nat->List Addr}(A:lF g F H Hm fp)(nM:∀ a∈fp,a∉g.M)(R:Rl K (g.fE H fp) E' σ' H' Hm' F'):Rl K g E' σ' H' Hm' F'/\lF g F' H' Hm' fp/\∀ a∈fp,H' a=H a:=by
 have keep:∀ a∈fp,H' a=H a:=fun a ha=>by
  cases e:H a with
  | none=>exact absurd e (A.bI a ha)
  | some o=>exact R.fr a o (nM a ha) (by rw [jJ ha];exact e)
 refine ⟨?_,⟨fun a ha=>by rw [keep a ha];exact A.xA a ha,fun a ha=>?_,fun a ha i z=>?_,A.new⟩,keep⟩
 ·exact {
   len:=R.len
   sub:=R.sub
   slot:=R.slot
   off:=R.off
   bI:=R.bI
   aR:=R.aR
   fr:=fun p o hp ho=>by
    have c:p∉fp:=fun z=>by rw [A.new p z] at ho;cases ho
    exact R.fr p o hp (by rw [fF c];exact ho)
   new:=fun i a ha=>by
    rcases R.new i a ha with m | m
    ·exact .inl m
    ·by_cases c:a∈fp
     ·exact .inr (A.new a c)
     ·rw [fF c] at m;exact .inr m
   pin:=R.pin
   old:=fun a ha=>by
    have c:a∉fp:=fun z=>ha (A.new a z)
    have h':=R.old a (by rw [fF c];exact ha)
    rw [wG c] at h'
    exact h' }
 ·have h':=R.old a (by rw [jJ ha];exact A.bI a ha)
  obtain ⟨u,hu,nt⟩:=A.xA a ha
  exact h'.off (A9 ha) R.sub (by rw [keep a ha];exact hu) nt
 ·rcases R.new i a z with m | m
  ·exact nM a ha m
  ·rw [jJ ha] at m;exact A.bI a ha m
theorem XL.fE {X:Cx}{Ex:XK}{x:XC}(A:lF g F H Hm fp)(h:XL X Ex x g):XL X Ex x (g.fE H fp):=fun c d C a H' hC hx fr ha hn=>by
 have c0:a∉fp:=fun z=>by rw [jJ z] at hn;exact A.bI a z hn
 refine h c d C a H' hC hx (fun p o hp ho=>fr p o hp ?_) ha (by rw [fF c0] at hn;exact hn)
 have c:p∉fp:=fun z=>by rw [A.new p z] at ho;cases ho
 rw [fF c]
 exact ho
/-! ### items that are lists of their own -/
theorem ef.snoc {xs:List V}{ds:List PyData}{b:Addr}{ys:List V}{es:List PyData}(e:H b=some (.lst ys))(r:aA K Hm ys es):∀ {xs:List V}{ds:List PyData}{fp:List Addr},ef K H Hm xs ds fp->b∉fp->ef K H Hm (xs++[.ref b]) (ds++[.list es]) (fp++[b])
 | _,_,_,.nil,n=>.own e r n .nil
 | _,_,_,.jR h1 h2 t,n=>.jR h1 h2 (t.snoc (xs:=xs) (ds:=ds) e r n)
 | _,_,_,.own h1 h2 h3 t,n=>.own h1 h2 (fun z=>by
   rcases List.mem_append.mp z with z | z
   ·exact h3 z
   ·exact n (List.mem_singleton.mp z ▸ List.mem_cons_self)) (t.snoc (xs:=xs) (ds:=ds) e r fun z=>n (List.mem_cons_of_mem _ z))
theorem ef.get {es:List PyData}:∀ {xs:List V}{ds:List PyData}{fp:List Addr}{m:Nat},ef K H Hm xs ds fp->ds[m]?=some (.list es)->∃ b ys,xs[m]?=some (.ref b)/\H b=some (.lst ys)/\aA K Hm ys es/\b∈fp
 | _,_,_,_,.nil,h=>by simp at h
 | _,_,_,0,.jR e _ _,h=>by
  simp at h
  rw [h] at e
  cases e
 | _,_,_,m + 1,.jR _ _ t,h=>t.get (m:=m) (by simpa using h)
 | _,_,_,0,.own e r _ _,h=>by
  simp at h
  subst h
  exact ⟨_,_,rfl,e,r,List.mem_cons_self⟩
 | _,_,_,m + 1,.own _ _ _ t,h=>by
  obtain ⟨b,ys,h1,h2,h3,h4⟩:=t.get (m:=m) (by simpa using h)
  exact ⟨b,ys,h1,h2,h3,List.mem_cons_of_mem _ h4⟩
theorem ef.put {b:Addr}{ys:List V}{new:List PyData}(r:aA K Hm ys new):∀ {xs:List V}{ds:List PyData}{fp:List Addr}{m:Nat},ef K H Hm xs ds fp->xs[m]?=some (.ref b)->(∃ es,ds[m]?=some (.list es))->ef K (upd H b (.lst ys)) Hm xs (ds.set m (.list new)) fp
 | _,_,_,_,.nil,h,_=>by simp at h
 | _,_,_,0,.jR e _ _,_,⟨es,h⟩=>by
  simp at h
  rw [h] at e
  cases e
 | _,_,_,m + 1,.jR e h2 t,h,⟨es,h'⟩=>.jR e h2 (t.put (m:=m) r (by simpa using h) ⟨es,by simpa using h'⟩)
 | _,_,_,0,.own (b:=b') e r' n t,h,_=>by
  simp at h
  subst h
  exact .own aL r n (t.step (aj.refl _) fun a ha=>au fun z=>n (z ▸ ha))
 | _,_,_,m + 1,.own (b:=b') (fp:=fp) e r' n t,h,⟨es,h'⟩=>by
  have h:_:=h
  obtain ⟨b2,ys2,g1,g2,g3,g4⟩:=t.get (m:=m) (es:=es) (by simpa using h')
  simp at h
  rw [h] at g1
  cases g1
  refine .own (by rw [au (show b'≠b from fun z=>n (by rw [z];exact g4))];exact e) r' n (t.put (m:=m) r h ⟨es,by simpa using h'⟩)
theorem Rl.Lk (R:Rl K g E σ H Hm F){i:Nat}{k:Kd}{d d':PyData}{v:V}{b:Addr}{o:HO}(e:E[i]?=some (some (k,d)))(hv:σ[i]?=some (some v))(hb:b∈F i)(new:Own K (upd H b o) Hm k v d' (F i))(nt:oQ o)(hp:k=.ow true->∃ ds,d'=.list ds) :
  Rl K g (E.set i (some (k,d'))) σ (upd H b o) Hm F:=by
 have na:=R.off i b hb
 have up:∀ c,c≠b->upd H b o c=H c:=fun c hc=>au hc
 have li:=bR e
 exact {
  len:=by rw [List.length_set];exact R.len
  sub:=fun c u hc=>by
   have:c≠b:=fun z=>by rw [z,na] at hc;cases hc
   rw [up c this];exact R.sub c u hc
  slot:=fun j k' d'' e'=>by
   by_cases c:j=i
   ·subst c
    rw [aF li] at e'
    cases e'
    exact ⟨_,hv,new⟩
   ·rw [ao (Ne.symm c)] at e'
    obtain ⟨u,g1,g2⟩:=R.slot j k' d'' e'
    refine ⟨u,g1,g2.step (aj.refl _) fun a ha=>up a fun z=>c (R.aR j i b (z ▸ ha) hb)⟩
  off:=R.off
  bI:=fun j a ha=>by
   by_cases c:a=b
   ·rw [c];exact ⟨_,aL,nt⟩
   ·rw [up a c];exact R.bI j a ha
  aR:=R.aR
  fr:=fun q u hq ho=>by
   have:q≠b:=fun z=>by
    rcases R.new i b hb with y | y
    ·exact hq (z ▸ y)
    ·rw [z,y] at ho;cases ho
   rw [up q this];exact R.fr q u hq ho
  new:=R.new
  pin:=fun q hq=>by
   obtain ⟨g1,ds',g2⟩:=R.pin q hq
   by_cases c:i=q.1
   ·rw [<- c] at g1 g2 ⊢
    rw [e] at g2
    cases g2
    obtain ⟨ds,rfl⟩:=hp rfl
    exact ⟨g1,ds,aF li⟩
   ·exact ⟨g1,ds',by rw [ao c];exact g2⟩
  old:=R.old }
theorem FW {t:Tg}{d:PyData}{E E':En}(h:cH t d E=some E'):E'.length=E.length:=by
 have go:∀ {is:List Nat}{ds:List PyData}{E E':En},b8 is ds E=some E'->E'.length=E.length:=by
  intro is
  induction is with
  | nil=>intro ds E E' h;cases ds with | nil=>cases h;rfl | cons _ _=>cases h
  | cons j is ih =>
   intro ds E E' h
   cases ds with
   | nil=>cases h
   | cons d ds =>
    rw [b8] at h
    by_cases o:cy E j=true
    ·rw [if_pos o] at h
     rw [ih h,List.length_set]
    ·rw [if_neg o] at h;cases h
 cases t with
 | nm j=>exact go (is:=[j]) h
 | tp js =>
  cases d with
  | tuple ds=>exact go (is:=js) h
  | _=>cases h
end
section
variable {X:Cx}{Ex:XK}{π cs:List Nat}{elt tg iter:Expr}{ifs:List Expr}{scope:Scope}{pos:Pos}
theorem B0 {vs NB:List Str}{ix:List Nat}{di:DI}{t:Tg}{c:DT}{e:DE}(B:cI X scope vs NB ix)(hc:X.calm=true)(hcs:cs.length=vs.length)(hix:∀ i∈ix,i < π.length)(aR:∀ c∈cs,c∉π)(nd:(bD π cs ix).Nodup)
  (hi:SI X Ex π tg iter di)(ht:∀ (C:Addr)(s:Shared)(H:Hp)(fp:List Addr),fW (X.block scope C NB s H fp) (bD π cs ix) tg t)(hts:∀ i∈t.slots,i∈cs)(hif:∀ (C:Addr)(s:Shared)(H:Hp)(fp:List Addr),iP (X.block scope C NB s H fp) E0 (bD π cs ix) ifs c)
  (hr:∀ (C:Addr)(s:Shared)(H:Hp)(fp:List Addr),SE (X.block scope C NB s H fp) E0 (bD π cs ix) elt e)
  (hs:∀ v,foldedSetIterable iter X.env v=pure v){w:(V->Hp->Prop)->St->Hp->Prop}
  (hw:∀ {wi:TI}{G:TG}{tt:TT}{tr:TL}{σ:St}{H:Hp}{Q:VK},PI X tg iter wi->(∀ (C:Addr)(s:Shared)(H:Hp)(fp:List Addr),PG (X.block scope C NB s H fp) tg G)->(∀ (C:Addr)(s:Shared)(H:Hp)(fp:List Addr),mV (X.block scope C NB s H fp) ifs tt) ->
   (∀ (C:Addr)(s:Shared)(H:Hp)(fp:List Addr)(D:Addr),PL (X.block scope C NB s H fp) D elt (⟨tg,iter,ifs,0⟩:: []) scope pos 1 tr)->k7 wi vs.length ix G tt tr σ H Q->w Q σ H)
  (g:Gh)(x:XC)(E:En)(σ:St)(H Hm:Hp)(F:Nat->List Addr)(P:En->Kd->PyData->Prop)(Q:VK)(hx:XL X Ex x g)(R:Rl X.K g E σ H Hm F)(p:nC sizeLine cs di t c e x E P)
  (q:∀ E' k v u H' Hm' F' fp,P E' k v->Rl X.K g E' σ H' Hm' F'->aj Hm Hm'->Tm X.K g F' H' Hm' k u v fp->Q u H'):w Q (sel π σ) H:=by
 obtain ⟨wi,hpi,hwi⟩:=hi
 refine hw (wi:=wi) (G:=fun v σ H Q=>∀ (C:Addr)(s:Shared)(H2:Hp)(fp:List Addr),WG (X.block scope C NB s H2 fp) tg v σ H Q) (tt:=fun σ H Q=>∀ (C:Addr)(s:Shared)(H2:Hp)(fp:List Addr),sA (X.block scope C NB s H2 fp) ifs σ H Q)
  (tr:=CZ fun σ H Q=>∀ (C:Addr)(s:Shared)(H2:Hp)(fp:List Addr),WE (X.block scope C NB s H2 fp) elt σ H Q) hpi (fun C s H2 fp pins s' σ H v u Q I r h=>h C s H2 fp pins s' u I r) (fun C s H2 fp pins s' σ H Q I h=>h C s H2 fp pins s' I)
  (fun C s H2 fp D=>wK (fun pins s' σ H Q I h=>h C s H2 fp pins s' I)) ?_
 refine hwi g x E σ H Hm F _ _ hx R p fun E1 xs J H1 Hm1 F1 p1 R1 s1 it1=>?_
 obtain ⟨E0',I,hcl,i0,step,fin⟩:=p1
 obtain ⟨σ0,F0,R0,a0,n0⟩:=R1.bg hcl
 rw [<- hcs,rj hix aR a0 fun c hc=>(n0 c hc).1]
 refine ⟨fun i m ys τ H'=>m=xs.length - i/\i<=xs.length/\∃ E' dys' σ' Hm' F' fp,I i dys' E'/\Rl X.K g E' σ' H' Hm' F'/\aj Hm1 Hm'/\ef X.K H' Hm' ys dys' fp/\lF g F' H' Hm' fp/\Agree cs σ0 σ'/\τ=sel (bD π cs ix) σ',
  ⟨xs.length,by simp,Nat.zero_le _,E0',[],σ0,Hm1,F0,[],i0,R0,aj.refl _,.nil,⟨(fun _ z=>by cases z),(fun _ z=>by cases z),(fun _ z=>by cases z),fun _ z=>by cases z⟩,Agree.refl _ _,rfl⟩,?_⟩
 rintro i m ys τ H2 ⟨rfl,hi,E2,dys2,σ2,Hm2,F2,fp,i2,R2,s2,r2,A2,a2,rfl⟩
 obtain ⟨go,stop⟩:=it1 i H2 Hm2 s2 R2.sub
 by_cases c':i < xs.length
 ·obtain ⟨go,oH⟩:=go xs[i] (List.getElem?_eq_getElem c')
  refine .inr ⟨go,fun ys τ H'=>i + 1<=xs.length/\∃ E' dys' σ' Hm' F' fp,I (i + 1) dys' E'/\Rl X.K g E' σ' H' Hm' F'/\aj Hm1 Hm'/\ef X.K H' Hm' ys dys' fp/\lF g F' H' Hm' fp/\Agree cs σ0 σ'/\τ=sel (bD π cs ix) σ',fun ys τ H' z=>⟨xs.length - (i + 1),by omega,rfl,z⟩,fun x H3 y C s H9 fp9=>?_⟩
  obtain ⟨Hm3,t1,t2,t3,old,rx⟩:=oH x H3 y
  have R3:=R2.turn t1 t2 t3 old
  have k3:∀ a∈fp,H3 a=H2 a:=fun a ha=>by
   cases e:H2 a with
   | none=>exact absurd e (A2.bI a ha)
   | some o=>exact t3 _ _ e
  have A3:lF g F2 H3 Hm3 fp:=⟨fun a ha=>by rw [k3 a ha];exact A2.xA a ha,fun a ha=>by
   obtain ⟨u,hu,nt⟩:=A2.xA a ha
   exact (old a (A2.bI a ha)).off (A2.off a ha) t2 (t3 _ _ hu) nt,A2.aR,A2.new⟩
  have r3:=r2.step (H':=H3) t1 k3
  have nM:=A3.notM R3
  obtain ⟨E4,e4,p4⟩:=step i xs[i] dys2 E2 (List.getElem?_eq_getElem c') i2
  obtain ⟨G,g1,g2⟩:=p8 (X:=X.block scope C NB s H9 fp9) hc B.nd nd (ht C s H9 fp9)
  refine WG.of g1 (g2 (g:=g.fE H3 fp) e4 rx (R3.fE A3) fun σ4 F4 R4 ag=>?_)
  have a4:Agree cs σ0 σ4:=a2.trans ⟨by rw [<- R3.len,<- R4.len,FW e4],fun j hj=>ag j fun z=>hj (hts j z)⟩
  intro C2 s2' H92 fp92
  refine (hif C2 s2' H92 fp92).ok XL.no R4 p4 fun E5 b H5 Hm5 F5 p5 R5 s5=>?_
  cases b with
  | true =>
   refine ni fun C3 s3' H93 fp93=>?_
   refine hr C3 s3' H93 fp93 (g.fE H3 fp) xF E5 σ4 H5 Hm5 F5 _ _ XL.no R5 (by rw [if_pos rfl] at p5;exact p5) fun E6 k6 v6 u6 H6 Hm6 F6 fp6 p6 R6 s6 T6=>?_
   obtain ⟨⟨pb,rfl⟩,hl,p6⟩:=p6
   obtain ⟨R6',A6,k6⟩:=Rl.qj A3 nM R6
   have T1:=T6.own
   have hlen:ys.length=dys2.length:=by
    have:∀ {xs:List V}{ds:List PyData}{fp:List Addr}{H Hm:Hp},ef X.K H Hm xs ds fp->xs.length=ds.length:=by
     intro xs ds fp H Hm h
     induction h with
     | nil=>rfl
     | jR _ _ _ ih=>rw [List.length_cons,List.length_cons,ih]
     | own _ _ _ _ ih=>rw [List.length_cons,List.length_cons,ih]
    exact this r2
   cases T1 with
   | @ow _ b zs es hb rz =>
    have nb:b∉fp:=fun z=>by
     have:=T6.new b List.mem_cons_self
     rw [jJ z] at this
     exact A3.bI b z this
    have r6:=(r3.step (H':=H6) (s5.trans s6) k6).snoc (xs:=[]) (ds:=[]) hb rz nb
    refine ⟨by rw [hlen];exact hl,c',E6,_,σ4,Hm6,F6,fp++[b],p6,R6',s2.trans (t1.trans (s5.trans s6)),r6,⟨fun a ha=>?_,fun a ha=>?_,fun a ha=>?_,fun a ha=>?_⟩,a4,rfl⟩
    ·rcases List.mem_append.mp ha with ha | ha
     ·exact A6.xA a ha
     ·rw [List.mem_singleton.mp ha];exact ⟨_,hb,kZ⟩
    ·rcases List.mem_append.mp ha with ha | ha
     ·exact A6.off a ha
     ·rw [List.mem_singleton.mp ha];exact T6.off b List.mem_cons_self
    ·rcases List.mem_append.mp ha with ha | ha
     ·exact A6.aR a ha
     ·rw [List.mem_singleton.mp ha];exact T6.aR b List.mem_cons_self
    ·rcases List.mem_append.mp ha with ha | ha
     ·exact A6.new a ha
     ·rw [List.mem_singleton.mp ha]
      have:=T6.new b List.mem_cons_self
      rw [fF nb] at this
      exact this
  | false =>
   obtain ⟨R5',A5,k5⟩:=Rl.qj A3 nM R5
   exact mQ ⟨c',E5,dys2,σ4,Hm5,F5,fp,by simpa using p5,R5',s2.trans (t1.trans s5),r3.step (H':=H5) s5 k5,A5,a4,rfl⟩
 ·have e:i=xs.length:=by omega
  subst e
  refine .inl ⟨stop (Nat.le_refl _),fun p hp=>?_⟩
  obtain ⟨E3,hcl2,p2⟩:=fin _ _ i2
  obtain ⟨σ3,F3,R3p,a3,n3⟩:=(R2.fE A2).bg hcl2
  obtain ⟨R3,A3,_⟩:=Rl.qj A2 (A2.notM R2) R3p
  have R3':=R3.agree (cs:=cs) ((a0.trans a2).trans a3).symm fun c hc=>(n3 c hc).2
  have s3:=cX (o:=.lst ys) hp
  have R4:=R3'.grow (H':=upd H2 p (.lst ys)) s3 (aj.refl _) (R3'.sub.trans s3) (fun i a ha=>R3'.off i a ha) fun _ _=>.inl rfl
  have np:p∉fp:=fun z=>A2.bI p z hp
  refine q _ _ _ _ _ Hm2 F3 (p::fp) p2 R4 (s1.trans s2) ⟨.dp aL np (r2.step (H':=upd H2 p (.lst ys)) (aj.refl _) fun a ha=>au fun z=>np (z ▸ ha)),fun a ha=>?_,fun a ha i=>?_,fun a ha=>?_⟩
  ·rcases List.mem_cons.mp ha with rfl | ha
   ·exact R3'.qe hp
   ·exact A2.off a ha
  ·rcases List.mem_cons.mp ha with rfl | ha
   ·exact R3'.fresh hp
   ·exact A3.aR a ha i
  ·rcases List.mem_cons.mp ha with rfl | ha
   ·exact R3'.gF hp
   ·exact A2.new a ha
end
end Dv
namespace Dv
open PySem L2 PySem.W
section
variable {X:Cx}{Ex:XK}{π cs:List Nat}{elt tg iter:Expr}{ifs:List Expr}{scope:Scope}{pos:Pos}
theorem Gf {j:Nat}{y:Str}{py spos:Pos}{vs NB:List Str}{ix:List Nat}{di:DI}{t:Tg}{c:DT}{e:DE}(hN:X.N.Nodup)(B:lA X.N X.env.scope scope vs NB ix=true)(hi:SI X Ex (aT X) tg iter di)(ht:∀ (C:Addr)(s:Shared)(H:Hp)(fp:List Addr),fW (X.block scope C NB s H fp) (bD (aT X) cs ix) tg t)
  (hif:∀ (C:Addr)(s:Shared)(H:Hp)(fp:List Addr),iP (X.block scope C NB s H fp) E0 (bD (aT X) cs ix) ifs c)(hr:∀ (C:Addr)(s:Shared)(H:Hp)(fp:List Addr),SE (X.block scope C NB s H fp) E0 (bD (aT X) cs ix) elt e)
  (hj:X.N[j]?=some y:=by rfl)(hy:X.env.scope.names.lookup y=some .local:=by rfl)(hsw:swapsWith (.ListComp elt [⟨tg,iter,ifs,0⟩] scope pos) (some (.Name y py)) spos.line X.env=pure true:=by rfl)
  (hc:X.calm=true:=by rfl)(ck:rN (aT X) cs ix vs t.slots=true:=by rfl)(hs:∀ v,foldedSetIterable iter X.env v=pure v:=by intro _;rfl):S1 X Ex (.Assign [.Name y py] (.ListComp elt [⟨tg,iter,ifs,0⟩] scope pos) spos) (aV j (nC sizeLine cs di t c e)):=by
 obtain ⟨h1,h2,h3,h4,h5⟩:=qM ck
 have B':cI X scope vs NB ix:=cI.of B
 have ha:∀ g∈([]:List Comprehension),g.is_async=0:=fun _ z=>by cases z
 intro g D' E σ H Hm F D hx R p nx rt
 refine B0 B' hc h1 h2 h3 h4 hi ht h5 hif hr hs (w:=fun Q τ H=>(Q=fun u H1=>D.nx (τ.set j (some u)) H1)->WS X (.Assign [.Name y py] (.ListComp elt [⟨tg,iter,ifs,0⟩] scope pos) spos) D τ H)
  (fun g1 g2 g3 g4 g5 e=>by
   subst e
   exact WS.of (vV hN hj hy B' hc g1 g2 g3 g4 hsw ha hs) g5) g D'.xc E σ H Hm F _ _ hx R p (fun E' k v u H' Hm' F' fp p' R' s' T=>?_) rfl
 rw [lH List.nodup_range (jb (bR hj)) (R'.len ▸ jd p'.1)]
 exact nx _ _ _ _ _ p'.2 (R'.put T p'.1) s'
theorem Bq {E E':En}{i n:Nat}(h:cT E n=some E')(ne:i≠n):E'[i]?=E[i]?:=by
 unfold cT at h
 split at h
 ·split at h
  ·cases h
   exact ao (Ne.symm ne)
  ·cases h
 ·cases h
theorem GK {x y name:Str}{id:String}{p yp sp apos cpos:Pos}{jx:Expr}{f:DM}{r:V->List V->Hp->VK->Prop}{dj:DE}{i j n jn:Nat}(hm:tO X id r)(D:wY X.K f r)(slot:Slot "list" name id)(hty:typeOf (.builtin id)=pure (.type "method_descriptor"))
  (hv:PE X (.Name x p) (l0 j))(hj:π[j]?=some i)(hy:PE X (.Name y yp) (l0 jn))(hjn:π[jn]?=some n)(hs:lg jx)(hd:SE X Ex π jx dj)(hline:(apos.endLine == cpos.line)=true) :
  SE X Ex π (.Call (.Attribute (.Subscript (.Name x p) jx sp) name apos) [.Name y yp] [] cpos) (pM f i dj n):=by
 intro g xc E σ H Hm F P Q hx R h q
 obtain ⟨hh,h⟩:=h
 obtain ⟨o,ho⟩:=ki R hh
 refine WE.of (CS PySem.F.plainAttrs_list slot hty hm (bx (e:=.Subscript (.Name x p) jx sp)) (fK (es:=[.Name y yp]) rfl) rfl (zd rfl (show 1 < 30 by decide)) hline rfl rfl) ?_
 refine WE.of (D3 zh hv bx hs) ⟨o,fS hj ho,?_⟩
 refine hd g xc E σ H Hm F _ _ hx R h fun E1 k1 w u1 H1 Hm1 F1 fp1 p1 R1 s1 T1=>?_
 obtain ⟨a,pp,ds,m,es,k,d,E2,rfl,e1,hix,hes,en,ne,hf,p1⟩:=p1
 cases T1.own.int
 obtain ⟨v',h1,h2⟩:=R1.slot i _ _ e1
 rw [ho] at h1
 cases h1
 obtain ⟨vn,Hm2,F2,hvn,s2,R2,rn⟩:=R1.cT en hf
 have e2:E2[i]?=some (some (.dp pp,.list ds)):=(Bq hf ne).trans e1
 obtain ⟨v2,h3,h4⟩:=R2.slot i _ _ e2
 rw [ho] at h3
 cases h3
 generalize hfi:F2 i=fi at h4
 cases h4 with
 | @dp _ a0 xs _ fq ha0 n0 it0 =>
  obtain ⟨b,ys,hxm,hb,ry,mb⟩:=it0.get hes
  have hlen:xs.length=ds.length:=by
   have:∀ {xs:List V}{ds:List PyData}{fp:List Addr}{H Hm:Hp},ef X.K H Hm xs ds fp->xs.length=ds.length:=by
    intro xs ds fp H Hm h
    induction h with
    | nil=>rfl
    | jR _ _ _ ih=>rw [List.length_cons,List.length_cons,ih]
    | own _ _ _ _ ih=>rw [List.length_cons,List.length_cons,ih]
   exact this it0
  refine .inl ⟨_,xs,a,.ref b,rfl,rfl,cu.of ha0,?_,.inl ⟨rfl,_,cu.of hb⟩,?_⟩
  ·show (nh xs.length a).bind (fun j=>xs[j]?)=some (.ref b)
   rw [hlen,show nh ds.length a=some m from hix]
   exact hxm
  ·refine WE.of hy ⟨vn,fS hjn hvn,?_⟩
   show r (.ref b) [vn] H1 Q
   have mbF:b∈F2 i:=by rw [hfi];exact List.mem_cons_of_mem _ mb
   refine D H1 Hm2 b ys es [vn] [d] _ Q hb (R2.off i b mbF) R2.sub ry (.cons rn .nil) p1 fun ys' new u v p2 ry' ru=>?_
   have nab:a0≠b:=fun z=>n0 (z ▸ mb)
   have R3:=R2.Lk (o:=.lst ys') (d':=.list (ds.set m (.list new))) e2 ho mbF (by
    rw [hfi]
    exact .dp (by rw [au nab];exact ha0) n0 (it0.put ry' hxm ⟨es,hes⟩)) kZ fun z=>by cases z
   exact q _ _ _ _ _ _ _ [] p2 R3 (s1.trans s2) (Tm.sh ru)
theorem CN (j jn:Nat){i n:Nat}{x y name:Str}{id:String}{p yp sp apos cpos:Pos}{jx:Expr}{f:DM}{r:V->List V->Hp->VK->Prop}{dj:DE}(hm:tO X id r)(D:wY X.K f r)(slot:Slot "list" name id)(hty:typeOf (.builtin id)=pure (.type "method_descriptor"))(hd:SE X Ex π jx dj)
  (hN:X.N[j]?=some x:=by rfl)(hv:kY X.env.scope x:=by first | exact Or.inl rfl | exact Or.inr (Or.inl rfl) | exact Or.inr (Or.inr rfl))(hj:π[j]?=some i:=by rfl)(hNn:X.N[jn]?=some y:=by rfl)(hvn:kY X.env.scope y:=by first | exact Or.inl rfl | exact Or.inr (Or.inl rfl) | exact Or.inr (Or.inr rfl))(hjn:π[jn]?=some n:=by rfl)(hs:lg jx:=by intro _ _;rfl)(hline:(apos.endLine == cpos.line)=true:=by rfl)
  (hb:(x == ("__debug__":Str))=false:=by decide)(hcd:(x == ("__classdict__":Str))=false:=by decide)(hbn:(y == ("__debug__":Str))=false:=by decide)(hcn:(y == ("__classdict__":Str))=false:=by decide) :
  SE X Ex π (.Call (.Attribute (.Subscript (.Name x p) jx sp) name apos) [.Name y yp] [] cpos) (pM f i dj n):=GK hm D slot hty (ju hN hv hb hcd) hj (ju hNn hvn hbn hcn) hjn hs hd hline
end
/-! ### raise -/
section
variable {P:Program}{w:World}{K:Frag}{mg:Str->Option Value}{base:Heap}{N:List Str}{qual:Str}{scope:Scope}{f:Addr}{cd:Value}{A:Around}{outer:List Env}{s0:Shared}{H0:Hp}{Ex:XK}
theorem q8 {x y:Str} {j}{np cpos pos p:Pos}(h:∃ C,mg x=some (.ref C)/\gH K C sQ "ValueError.__new__" none=true)(hg:Gl (gz (bT P w) P w K mg base N qual scope f cd A outer s0 H0 Ex) x:=by rfl)(hdb:(x == ("__debug__":Str))=false:=by decide) :
  S1 (gz (bT P w) P w K mg base N qual scope f cd A outer s0 H0 Ex) Ex (.Raise (some (.Call (.Name x np) [.Constant (.str y) j p] [] cpos)) none pos) (mW x):=by
 obtain ⟨C,h⟩:=h
 intro g D' E σ H Hm F D hx R hp nx rt
 refine WS.of (BK h.2 hg h.1 (jF Bc mX) hdb) ⟨by show 1<=sizeLine;decide,fun a ha=>?_⟩
 exact hx x .none C a _ h.1 hp (fun p o hp ho=>cX ha _ _ (R.fr p o hp ho)) aL (R.gF ha)
end
end Dv
namespace Dv
open PySem L2
/-! ### reckoning with the combinators -/
def bG:Option (Kd×PyData)->Bool
 | some (k,_)=>!k.pin
 | none=>true
def aS {α:Type}(o:Option α)(Q:α->Prop):Prop:=match o with
 | some a=>Q a
 | none=>False
def CY (E:En) (i:Nat)(Q:En->Kd->PyData->Prop):Prop:=match E[i]? with
 | some (some (_,d))=>aS (cT E i) fun E'=>Q E' .sh d
 | _=>False
def Dp (r:DR)(as:List Arg)(E:En)(os:List (Option PyData))(Q:En->Kd->PyData->Prop):Prop:=aS (fill as E os) fun ds=>r ds fun k v=>aS (Ao as E k v) fun E2=>Q E2 k v
def Df (ms:List Bool)(as:List Arg)(E:En)(us:List PyData)(k:Kd)(v:PyData)(Q:En->Kd->PyData->Prop):Prop:=aS (gZ ms as us E) fun E2=>aS (pO ms as us E2 k v) fun E3=>Q E3 k v
def CG (sp:bW)(ms:List Bool)(as:List Arg)(x:XC)(E:En)(os:List (Option PyData))(Q:En->Kd->PyData->Prop):Prop:=aS (fill as E os) fun ds=>nF ms as E=true/\sp ds (fun us k v=>Df ms as E us k v Q) x
def uI (v:PyData)(Q:Bool->Prop):Prop:=aS (jC v) Q
def Dz (E:En) (i:Nat)(Q:En->Bool->Prop):Prop:=match E[i]? with
 | some (some (k,d))=>k.rd=true/\uI d (Q E)
 | _=>False
def CQ (v:PyData)(Q:Bool->Prop):Prop:=match v with
 | .bool b=>Q b
 | _=>False
def sL (v:PyData)(Q:Int->Prop):Prop:=match v with
 | .int i=>Q i
 | _=>False
def CH (v:PyData)(Q:List PyData->Prop):Prop:=aS (items v) Q
def tM (v:PyData)(Q:List PyData->Prop):Prop:=match v with
 | .list xs=>Q xs
 | _=>False
def Dl (E:En) (i:Nat)(Q:En->Kd->PyData->Prop):Prop:=match E[i]? with
 | some (some (k,d))=>k.pin=false/\Q (E.set i none) k d
 | _=>False
def CF (f:DM) (i:Nat)(as:List Arg)(E:En)(os:List (Option PyData))(Q:En->Kd->PyData->Prop):Prop:=match fill as E os,E[i]? with
 | some args,some (some (.ow p,.list ds))=>f ds args fun new v=>Q (E.set i (some (.ow p,.list new))) .sh v
 | _,_=>False
def zB (f:Int->Int->Int)(E:En) (i:Nat)(v:PyData)(Q:En->Prop):Prop:=match E[i]?,v with
 | some (some (_,.int a)),.int b=>Q (E.set i (some (.sh,.int (f a b))))
 | _,_=>False
def Du (most:Nat)(E:En) (i:Nat)(v:PyData)(Q:En->Prop):Prop:=match E[i]?,v with
 | some (some (.ow p,.list ds)),.list es=>ds.length + es.length<=most/\Q (E.set i (some (.ow p,.list (ds++es))))
 | _,_=>False
theorem cj {α:Type}{o:Option α}{Q:α->Prop}:(∃ a,o=some a/\Q a)=aS o Q:=by
 cases o with
 | none=>exact propext ⟨fun ⟨a,e,_⟩=>(by cases e),fun h=>h.elim⟩
 | some a=>exact propext ⟨fun ⟨b,e,q⟩=>by cases e;exact q,fun h=>⟨a,rfl,h⟩⟩
theorem IX {i:Nat}{x:XC}{o:Option (Kd×PyData)}{E:En}{Q:En->Kd->PyData->Prop}:bE i x (o::E) Q=CY (o::E) i Q:=by
 unfold bE CY
 generalize o::E=E0
 refine propext ⟨fun ⟨k,d,E',e1,e2,q⟩=>by rw [e1];show aS _ _;rw [e2];exact q,fun h=>?_⟩
 split at h
 ·rename_i k d e1
  rw [<- cj] at h
  obtain ⟨E',e2,h⟩:=h
  exact ⟨_,_,_,e1,e2,h⟩
 ·exact h.elim
theorem JO {r:DR}{as:List Arg}{x:XC}{o:Option (Kd×PyData)}{E:En}{Q:En->Kd->PyData->Prop}:ah r as x (o::E) Q=ig as x (o::E) fun E1 os=>Dp r as E1 os Q:=by
 unfold ah Dp
 simp only [cj]
theorem El {sp:bW}{ms:List Bool}{as:List Arg}{x:XC}{o:Option (Kd×PyData)}{E:En}{Q:En->Kd->PyData->Prop}:aX sp ms as x (o::E) Q=ig as x (o::E) fun E1 os=>CG sp ms as x E1 os Q:=by
 have:∀ {E1:En}{us:List PyData}{k:Kd}{v:PyData},(∃ E2 E3,gZ ms as us E1=some E2/\pO ms as us E2 k v=some E3/\Q E3 k v)=Df ms as E1 us k v Q:=by
  intro E1 us k v
  have:(∃ E2 E3,gZ ms as us E1=some E2/\pO ms as us E2 k v=some E3/\Q E3 k v)=∃ E2,gZ ms as us E1=some E2/\∃ E3,pO ms as us E2 k v=some E3/\Q E3 k v:=propext ⟨fun ⟨a,b,c,d⟩=>⟨a,c,b,d⟩,fun ⟨a,c,b,d⟩=>⟨a,b,c,d⟩⟩
  rw [this]
  simp only [cj]
  rfl
 unfold aX CG
 simp only [cj,this]
theorem t8 {v:PyData}{Q:Bool->Prop}:(∃ b,jC v=some b/\Q b)=uI v Q:=cj
theorem DX {v:PyData}{Q:Bool->Prop}:(∃ b,v=.bool b/\Q b)=CQ v Q:=by
 cases v with
 | bool b=>exact propext ⟨fun ⟨c,e,q⟩=>by cases e;exact q,fun h=>⟨b,rfl,h⟩⟩
 | _=>exact propext ⟨fun ⟨c,e,_⟩=>(by cases e),fun h=>h.elim⟩
theorem Kp {v:PyData}{Q:Int->Prop}:(∃ b,v=.int b/\Q b)=sL v Q:=by
 cases v with
 | int b=>exact propext ⟨fun ⟨c,e,q⟩=>by cases e;exact q,fun h=>⟨b,rfl,h⟩⟩
 | _=>exact propext ⟨fun ⟨c,e,_⟩=>(by cases e),fun h=>h.elim⟩
theorem t6 {v:PyData}{Q:List PyData->Prop}:(∃ b,v=.list b/\Q b)=tM v Q:=by
 cases v with
 | list b=>exact propext ⟨fun ⟨c,e,q⟩=>by cases e;exact q,fun h=>⟨b,rfl,h⟩⟩
 | _=>exact propext ⟨fun ⟨c,e,_⟩=>(by cases e),fun h=>h.elim⟩
theorem Ko {i:Nat}{x:XC}{o:Option (Kd×PyData)}{E:En}{Q:En->Bool->Prop}:xH i x (o::E) Q=Dz (o::E) i Q:=by
 unfold xH Dz
 generalize o::E=E0
 refine propext ⟨fun ⟨k,d,b,e1,e2,e3,q⟩=>by rw [e1];exact ⟨e2,by rw [<- t8];exact ⟨b,e3,q⟩⟩,fun h=>?_⟩
 split at h
 ·rename_i k d e1
  obtain ⟨h1,h2⟩:=h
  rw [<- t8] at h2
  obtain ⟨b,e3,q⟩:=h2
  exact ⟨_,_,_,e1,h1,e3,q⟩
 ·exact h.elim
theorem Ep {i:Nat}{D:bY}{o:Option (Kd×PyData)}{E:En}:ji i D (o::E)=Dl (o::E) i D.rt:=by
 unfold ji Dl
 generalize o::E=E0
 refine propext ⟨fun ⟨k,d,e1,e2,q⟩=>by rw [e1];exact ⟨e2,q⟩,fun h=>?_⟩
 split at h
 ·rename_i k d e1
  exact ⟨_,_,e1,h.1,h.2⟩
 ·exact h.elim
theorem Kh {f:DM}{i:Nat}{es:List DE}{x:XC}{o:Option (Kd×PyData)}{E:En}{Q:En->Kd->PyData->Prop}:nE f i es x (o::E) Q=(kP (o::E) i=true/\ig (es.map .ev) x (o::E) fun E1 os=>CF f i (es.map .ev) E1 os Q):=by
 unfold nE
 congr 1
 congr 1
 funext E1 os
 unfold CF
 refine propext ⟨fun ⟨args,p,ds,e1,e2,q⟩=>by rw [e1,e2];exact q,fun h=>?_⟩
 split at h
 ·rename_i args p ds e1 e2
  exact ⟨_,_,_,e1,e2,h⟩
 ·exact h.elim
theorem Ht {f:Int->Int->Int}{i:Nat}{e:DE}{D:bY}{o:Option (Kd×PyData)}{E:En}:Bj f i e D (o::E)=(here (o::E) i=true/\e D.xc (o::E) fun E1 _ v=>zB f E1 i v D.nx):=by
 unfold Bj
 congr 1
 congr 1
 funext E1 k v
 unfold zB
 refine propext ⟨fun ⟨k,a,b,e1,e2,q⟩=>by subst e2;rw [e1];exact q,fun h=>?_⟩
 split at h
 ·rename_i k a b e1
  exact ⟨_,_,_,e1,rfl,h⟩
 ·exact h.elim
theorem GQ {is:List Nat}{e:DE}{D:bY}{o:Option (Kd×PyData)}{E:En}:lP is e D (o::E)=e D.xc (o::E) fun E' k v=>k.fz=true/\aS (cH (.tp is) v E') D.nx:=by
 unfold lP
 congr 1
 funext E1 k v
 rw [<- cj]
 exact propext ⟨fun ⟨a,b,c,d⟩=>⟨b,a,c,d⟩,fun ⟨b,a,c,d⟩=>⟨a,b,c,d⟩⟩
variable {x:XC}{o:Option (Kd×PyData)}{E:En}{D:bY}
theorem BN {f f':Int->Int->Bool}{a b c:DE}{Q:En->Kd->PyData->Prop}:kT f f' a b c x (o::E) Q=a x (o::E) fun E1 _ u=>sL u fun i=>b x E1 fun E2 _ v=>sL v fun j=>if f i j=true then c x E2 fun E3 _ w=>sL w fun k=>Q E3 .sh (.bool (f' j k)) else Q E2 .sh (.bool false):=by
 unfold kT
 simp only [Kp]
theorem Lq {e:DE}{Q:En->List PyData->Prop}:iE e x (o::E) Q=e x (o::E) fun E' k v=>k.fz=true/\CH v fun xs=>Q E' xs:=by
 unfold iE
 simp only [cj]
 rfl
theorem JT {g:List PyData->Option (List PyData)}{as:List Arg}{Q:En->List PyData->Prop}:iT g as x (o::E) Q=ig as x (o::E) fun E1 os=>aS (fill as E1 os) fun ds=>aS (g ds) fun xs=>Q E1 xs:=by
 unfold iT
 congr 1
 funext E1 os
 rw [<- cj]
 refine propext ⟨fun ⟨ds,xs,e1,e2,q⟩=>⟨ds,e1,?_⟩,fun ⟨ds,e1,q⟩=>?_⟩
 ·rw [<- cj];exact ⟨xs,e2,q⟩
 ·rw [<- cj] at q
  obtain ⟨xs,e2,q⟩:=q
  exact ⟨ds,xs,e1,e2,q⟩
theorem Jq {e:DE}{Q:En->List PyData->Prop}:xK e x (o::E) Q=e x (o::E) fun E' k v=>k.fz=true/\tM v fun ds=>Q E' (jj ds):=by
 unfold xK
 simp only [t6]
theorem JX {a b:DE}{Q:En->List PyData->Prop}:GF a b x (o::E) Q=a x (o::E) fun E1 k v=>k.fz=true/\b x E1 fun E2 k2 v2=>k2.fz=true/\tM v fun ds=>tM v2 fun es=>Q E2 ((ds.zip es).map fun p=>.tuple [p.1,p.2]):=by
 unfold GF
 congr 1
 funext E1 k v
 congr 1
 congr 1
 funext E2 k2 v2
 congr 1
 rw [<- t6]
 refine propext ⟨fun ⟨ds,es,e1,e2,q⟩=>⟨ds,e1,?_⟩,fun ⟨ds,e1,q⟩=>?_⟩
 ·rw [<- t6];exact ⟨es,e2,q⟩
 ·rw [<- t6] at q
  obtain ⟨es,e2,q⟩:=q
  exact ⟨ds,es,e1,e2,q⟩
theorem dv :
 (∀ {v:PyData}{x:XC}{E:En}{Q:En->Kd->PyData->Prop},dC v x E Q=Q E .sh v) /\
 (∀ {i:Nat}{x:XC}{o:Option (Kd×PyData)}{E:En}{Q:En->Kd->PyData->Prop},bE i x (o::E) Q=CY (o::E) i Q) /\
 (∀ {r:DR}{as:List Arg}{x:XC}{o:Option (Kd×PyData)}{E:En}{Q:En->Kd->PyData->Prop},ah r as x (o::E) Q=ig as x (o::E) fun E1 os=>Dp r as E1 os Q) /\
 (∀ {sp:bW}{ms:List Bool}{as:List Arg}{x:XC}{o:Option (Kd×PyData)}{E:En}{Q:En->Kd->PyData->Prop},aX sp ms as x (o::E) Q=ig as x (o::E) fun E1 os=>CG sp ms as x E1 os Q) /\
 (∀ {d:DE}{x:XC}{o:Option (Kd×PyData)}{E:En}{Q:En->Bool->Prop},cA d x (o::E) Q=d x (o::E) fun E' _ v=>uI v (Q E')) /\
 (∀ {i:Nat}{x:XC}{o:Option (Kd×PyData)}{E:En}{Q:En->Bool->Prop},xH i x (o::E) Q=Dz (o::E) i Q) /\
 (∀ {t:DT}{x:XC}{o:Option (Kd×PyData)}{E:En}{Q:En->Bool->Prop},wB t x (o::E) Q=t x (o::E) fun E' b=>Q E' (!b)) /\
 (∀ {a b:DE}{x:XC}{o:Option (Kd×PyData)}{E:En}{Q:En->Kd->PyData->Prop},pC a b x (o::E) Q=a x (o::E) fun E1 _ v=>CQ v fun c=>if c=true then b x E1 Q else Q E1 .sh (.bool false)) /\
 (∀ {a b:DE}{x:XC}{o:Option (Kd×PyData)}{E:En}{Q:En->Kd->PyData->Prop},uC a b x (o::E) Q=a x (o::E) fun E1 _ v=>CQ v fun c=>if c=true then Q E1 .sh (.bool true) else b x E1 Q) /\
 (∀ {a:DE}{x:XC}{o:Option (Kd×PyData)}{E:En}{Q:En->Kd->PyData->Prop},sr a x (o::E) Q=a x (o::E) fun E1 _ v=>uI v fun c=>Q E1 .sh (.bool !c)) /\
 (∀ {f f':Int->Int->Bool}{a b c:DE}{x:XC}{o:Option (Kd×PyData)}{E:En}{Q:En->Kd->PyData->Prop},kT f f' a b c x (o::E) Q=a x (o::E) fun E1 _ u=>sL u fun i=>b x E1 fun E2 _ v=>sL v fun j=>if f i j=true then c x E2 fun E3 _ w=>sL w fun k=>Q E3 .sh (.bool (f' j k)) else Q E2 .sh (.bool false)) /\
 (∀ {c:DT}{a b:DE}{x:XC}{o:Option (Kd×PyData)}{E:En}{Q:En->Kd->PyData->Prop},zZ c a b x (o::E) Q=c x (o::E) fun E1 t=>if t=true then a x E1 Q else b x E1 Q) /\
 (∀ {D:bY}{E:En},f7 D E=D.nx E) /\
 (∀ {a b:DS}{D:bY}{o:Option (Kd×PyData)}{E:En},aC a b D (o::E)=a { D with nx:=b D } (o::E)) /\
 (∀ {c:DT}{a b:DS}{D:bY}{o:Option (Kd×PyData)}{E:En},eU c a b D (o::E)=c D.xc (o::E) fun E1 t=>if t=true then a D E1 else b D E1) /\
 (∀ {i:Nat}{e:DE}{D:bY}{o:Option (Kd×PyData)}{E:En},aV i e D (o::E)=e D.xc (o::E) fun E' k v=>cy E' i=true/\D.nx (E'.set i (some (k,v)))) /\
 (∀ {is:List Nat}{e:DE}{D:bY}{o:Option (Kd×PyData)}{E:En},lP is e D (o::E)=e D.xc (o::E) fun E' k v=>k.fz=true/\aS (cH (.tp is) v E') D.nx) /\
 (∀ {e:DE}{D:bY}{o:Option (Kd×PyData)}{E:En},cJ e D (o::E)=e D.xc (o::E) D.rt) /\
 (∀ {i:Nat}{D:bY}{o:Option (Kd×PyData)}{E:En},ji i D (o::E)=Dl (o::E) i D.rt) /\
 (∀ {f:DM}{i:Nat}{es:List DE}{x:XC}{o:Option (Kd×PyData)}{E:En}{Q:En->Kd->PyData->Prop},nE f i es x (o::E) Q=(kP (o::E) i=true/\ig (es.map .ev) x (o::E) fun E1 os=>CF f i (es.map .ev) E1 os Q)) /\
 (∀ {i:Nat}{j e:DE}{D:bY}{o:Option (Kd×PyData)}{E:En},iL i j e D (o::E)=e D.xc (o::E) fun E1 k v=>(k.fz=true/\here E1 i=true)/\j D.xc E1 fun E2 k2 w=>k2.fz=true/\iL.setI E2 i w v D.nx) /\
 (∀ {f:Int->Int->Int}{i:Nat}{e:DE}{D:bY}{o:Option (Kd×PyData)}{E:En},Bj f i e D (o::E)=(here (o::E) i=true/\e D.xc (o::E) fun E1 _ v=>zB f E1 i v D.nx)) /\
 (∀ {c:Str}{D:bY}{E:En},mW c D E=D.xc c .none) /\
 (∀ {e:DE}{D:bY}{o:Option (Kd×PyData)}{E:En},fH e D (o::E)=e D.xc (o::E) fun E' _ _=>D.nx E') /\
 (∀ {x:XC}{E:En}{Q:En->Bool->Prop},eo x E Q=Q E true) /\
 (∀ {e:DE}{x:XC}{o:Option (Kd×PyData)}{E:En}{Q:En->List PyData->Prop},iE e x (o::E) Q=e x (o::E) fun E' k v=>k.fz=true/\CH v fun xs=>Q E' xs) /\
 (∀ {g:List PyData->Option (List PyData)}{as:List Arg}{x:XC}{o:Option (Kd×PyData)}{E:En}{Q:En->List PyData->Prop},iT g as x (o::E) Q=ig as x (o::E) fun E1 os=>aS (fill as E1 os) fun ds=>aS (g ds) fun xs=>Q E1 xs) /\
 (∀ {e:DE}{x:XC}{o:Option (Kd×PyData)}{E:En}{Q:En->List PyData->Prop},xK e x (o::E) Q=e x (o::E) fun E' k v=>k.fz=true/\tM v fun ds=>Q E' (jj ds)) /\
 (∀ {a b:DE}{x:XC}{o:Option (Kd×PyData)}{E:En}{Q:En->List PyData->Prop},GF a b x (o::E) Q=a x (o::E) fun E1 k v=>k.fz=true/\b x E1 fun E2 k2 v2=>k2.fz=true/\tM v fun ds=>tM v2 fun es=>Q E2 ((ds.zip es).map fun p=>.tuple [p.1,p.2])) /\
 (∀ {most:Nat}{e:DE}{x:XC}{ys:List PyData}{o:Option (Kd×PyData)}{E:En}{Q:List PyData->En->Prop},b7 most e x ys (o::E) Q=e x (o::E) fun E1 k v=>k.fz=true/\ys.length < most/\Q (ys++[v]) E1) :=
 ⟨rfl,IX,JO,El,(by intros;unfold cA;simp only [t8]),Ko,rfl,(by intros;unfold pC;simp only [DX]),(by intros;unfold uC;simp only [DX]),(by intros;unfold sr;simp only [t8]),BN,rfl,rfl,rfl,rfl,rfl,GQ,rfl,Ep,Kh,rfl,Ht,rfl,rfl,rfl,Lq,JT,Jq,JX,rfl⟩
end Dv
namespace Dv
open PySem L2
theorem Di:(∀ {a0:Option (Kd×PyData)}{E:En},(a0::E)[0]?=some a0)/\(∀ {a0 a1:Option (Kd×PyData)}{E:En},(a0::a1::E)[1]?=some a1)/\(∀ {a0 a1 a2:Option (Kd×PyData)}{E:En},(a0::a1::a2::E)[2]?=some a2)/\(∀ {a0 a1 a2 a3:Option (Kd×PyData)}{E:En},(a0::a1::a2::a3::E)[3]?=some a3)/\(∀ {a0 a1 a2 a3 a4:Option (Kd×PyData)}{E:En},(a0::a1::a2::a3::a4::E)[4]?=some a4)/\(∀ {a0 a1 a2 a3 a4 a5:Option (Kd×PyData)}{E:En},(a0::a1::a2::a3::a4::a5::E)[5]?=some a5)/\(∀ {a0 a1 a2 a3 a4 a5 a6:Option (Kd×PyData)}{E:En},(a0::a1::a2::a3::a4::a5::a6::E)[6]?=some a6)/\(∀ {a0 a1 a2 a3 a4 a5 a6 a7:Option (Kd×PyData)}{E:En},(a0::a1::a2::a3::a4::a5::a6::a7::E)[7]?=some a7)/\(∀ {a0 a1 a2 a3 a4 a5 a6 a7 a8:Option (Kd×PyData)}{E:En},(a0::a1::a2::a3::a4::a5::a6::a7::a8::E)[8]?=some a8)/\(∀ {a0 a1 a2 a3 a4 a5 a6 a7 a8 a9:Option (Kd×PyData)}{E:En},(a0::a1::a2::a3::a4::a5::a6::a7::a8::a9::E)[9]?=some a9)/\(∀ {a0 a1 a2 a3 a4 a5 a6 a7 a8 a9 a10:Option (Kd×PyData)}{E:En},(a0::a1::a2::a3::a4::a5::a6::a7::a8::a9::a10::E)[10]?=some a10)/\(∀ {a0 a1 a2 a3 a4 a5 a6 a7 a8 a9 a10 a11:Option (Kd×PyData)}{E:En},(a0::a1::a2::a3::a4::a5::a6::a7::a8::a9::a10::a11::E)[11]?=some a11)/\(∀ {a0 a1 a2 a3 a4 a5 a6 a7 a8 a9 a10 a11 a12:Option (Kd×PyData)}{E:En},(a0::a1::a2::a3::a4::a5::a6::a7::a8::a9::a10::a11::a12::E)[12]?=some a12)/\(∀ {a0 a1 a2 a3 a4 a5 a6 a7 a8 a9 a10 a11 a12 a13:Option (Kd×PyData)}{E:En},(a0::a1::a2::a3::a4::a5::a6::a7::a8::a9::a10::a11::a12::a13::E)[13]?=some a13)/\(∀ {a0 a1 a2 a3 a4 a5 a6 a7 a8 a9 a10 a11 a12 a13 a14:Option (Kd×PyData)}{E:En},(a0::a1::a2::a3::a4::a5::a6::a7::a8::a9::a10::a11::a12::a13::a14::E)[14]?=some a14) :=
 ⟨rfl,rfl,rfl,rfl,rfl,rfl,rfl,rfl,rfl,rfl,rfl,rfl,rfl,rfl,rfl⟩
theorem C0:(∀ {a0 b:Option (Kd×PyData)}{E:En},(a0::E).set 0 b=b::E)/\(∀ {a0 a1 b:Option (Kd×PyData)}{E:En},(a0::a1::E).set 1 b=a0::b::E)/\(∀ {a0 a1 a2 b:Option (Kd×PyData)}{E:En},(a0::a1::a2::E).set 2 b=a0::a1::b::E)/\(∀ {a0 a1 a2 a3 b:Option (Kd×PyData)}{E:En},(a0::a1::a2::a3::E).set 3 b=a0::a1::a2::b::E)/\(∀ {a0 a1 a2 a3 a4 b:Option (Kd×PyData)}{E:En},(a0::a1::a2::a3::a4::E).set 4 b=a0::a1::a2::a3::b::E)/\(∀ {a0 a1 a2 a3 a4 a5 b:Option (Kd×PyData)}{E:En},(a0::a1::a2::a3::a4::a5::E).set 5 b=a0::a1::a2::a3::a4::b::E)/\(∀ {a0 a1 a2 a3 a4 a5 a6 b:Option (Kd×PyData)}{E:En},(a0::a1::a2::a3::a4::a5::a6::E).set 6 b=a0::a1::a2::a3::a4::a5::b::E)/\(∀ {a0 a1 a2 a3 a4 a5 a6 a7 b:Option (Kd×PyData)}{E:En},(a0::a1::a2::a3::a4::a5::a6::a7::E).set 7 b=a0::a1::a2::a3::a4::a5::a6::b::E)/\(∀ {a0 a1 a2 a3 a4 a5 a6 a7 a8 b:Option (Kd×PyData)}{E:En},(a0::a1::a2::a3::a4::a5::a6::a7::a8::E).set 8 b=a0::a1::a2::a3::a4::a5::a6::a7::b::E)/\(∀ {a0 a1 a2 a3 a4 a5 a6 a7 a8 a9 b:Option (Kd×PyData)}{E:En},(a0::a1::a2::a3::a4::a5::a6::a7::a8::a9::E).set 9 b=a0::a1::a2::a3::a4::a5::a6::a7::a8::b::E)/\(∀ {a0 a1 a2 a3 a4 a5 a6 a7 a8 a9 a10 b:Option (Kd×PyData)}{E:En},(a0::a1::a2::a3::a4::a5::a6::a7::a8::a9::a10::E).set 10 b=a0::a1::a2::a3::a4::a5::a6::a7::a8::a9::b::E)/\(∀ {a0 a1 a2 a3 a4 a5 a6 a7 a8 a9 a10 a11 b:Option (Kd×PyData)}{E:En},(a0::a1::a2::a3::a4::a5::a6::a7::a8::a9::a10::a11::E).set 11 b=a0::a1::a2::a3::a4::a5::a6::a7::a8::a9::a10::b::E)/\(∀ {a0 a1 a2 a3 a4 a5 a6 a7 a8 a9 a10 a11 a12 b:Option (Kd×PyData)}{E:En},(a0::a1::a2::a3::a4::a5::a6::a7::a8::a9::a10::a11::a12::E).set 12 b=a0::a1::a2::a3::a4::a5::a6::a7::a8::a9::a10::a11::b::E)/\(∀ {a0 a1 a2 a3 a4 a5 a6 a7 a8 a9 a10 a11 a12 a13 b:Option (Kd×PyData)}{E:En},(a0::a1::a2::a3::a4::a5::a6::a7::a8::a9::a10::a11::a12::a13::E).set 13 b=a0::a1::a2::a3::a4::a5::a6::a7::a8::a9::a10::a11::a12::b::E)/\(∀ {a0 a1 a2 a3 a4 a5 a6 a7 a8 a9 a10 a11 a12 a13 a14 b:Option (Kd×PyData)}{E:En},(a0::a1::a2::a3::a4::a5::a6::a7::a8::a9::a10::a11::a12::a13::a14::E).set 14 b=a0::a1::a2::a3::a4::a5::a6::a7::a8::a9::a10::a11::a12::a13::b::E) :=
 ⟨rfl,rfl,rfl,rfl,rfl,rfl,rfl,rfl,rfl,rfl,rfl,rfl,rfl,rfl,rfl⟩
theorem IG:(∀ {o:PyData}{E:List PyData},(o::E)[0]?=some o)/\(∀ {o:PyData}{E:List PyData}{n:Nat},(o::E)[n + 1]?=E[n]?)/\(∀ {o a:PyData}{E:List PyData},(o::E).set 0 a=a::E)/\(∀ {o a:PyData}{E:List PyData}{n:Nat},(o::E).set (n + 1) a=o::E.set n a):=⟨rfl,rfl,rfl,rfl⟩
theorem dw :
 (∀ {x:XC}{E:En}{Q:En->List (Option PyData)->Prop},ig [] x E Q=Q E []) /\
 (∀ {i:Nat}{r:List Arg}{x:XC}{o:Option (Kd×PyData)}{E:En}{Q:En->List (Option PyData)->Prop},ig (.pk i::r) x (o::E) Q=(here (o::E) i=true/\ig r x (o::E) fun E' os=>Q E' (none::os))) /\
 (∀ {d:DE}{r:List Arg}{x:XC}{o:Option (Kd×PyData)}{E:En}{Q:En->List (Option PyData)->Prop},ig (.ev d::r) x (o::E) Q=d x (o::E) fun E1 k v=>k.fz=true/\ig r x E1 fun E' os=>Q E' (some v::os)) /\
 (∀ {E:En},fill [] E []=some []) /\
 (∀ {i:Nat}{r:List Arg}{o:Option (Kd×PyData)}{E:En}{os:List (Option PyData)},fill (.pk i::r) (o::E) (none::os)=match (o::E)[i]? with
  | some (some (k,d))=>if k.rd then (fill r (o::E) os).map (d::·) else none
  | _=>none) /\
 (∀ {d:DE}{v:PyData}{r:List Arg}{E:En}{os:List (Option PyData)},fill (.ev d::r) E (some v::os)=(fill r E os).map (v::·)) /\
 (∀ {α:Type}{a:α}{Q:α->Prop},aS (some a) Q=Q a) /\
 (∀ {α:Type}{Q:α->Prop},aS none Q=False) /\
 (∀ {o:Option (Kd×PyData)}{E:En}{i:Nat},here (o::E) i=match (o::E)[i]? with
  | some (some _)=>true
  | _=>false) /\
 (∀ {o:Option (Kd×PyData)}{E:En}{i:Nat},cy (o::E) i=match (o::E)[i]? with
  | some o=>bG o
  | none=>false) /\
 (∀ {k:Kd}{d:PyData},bG (some (k,d))=!k.pin)/\(bG none=true) /\
 (∀ {o:Option (Kd×PyData)}{E:En}{i:Nat},kP (o::E) i=match (o::E)[i]? with
  | some (some (.ow _,.list _))=>true
  | _=>false) /\
 (∀ {o:Option (Kd×PyData)}{E:En}{i:Nat},kF (o::E) i=match (o::E)[i]? with
  | some (some (.sh,_))=>true
  | _=>false) /\
 (∀ {o:Option (Kd×PyData)}{E:En}{i:Nat},cT (o::E) i=match (o::E)[i]? with
  | some (some (k,d))=>if k.fz then some ((o::E).set i (some (.sh,d))) else none
  | _=>none) /\
 (∀ {E:En},cU [] E=some E) /\
 (∀ {i:Nat}{r:List Nat}{E:En},cU (i::r) E=(cT E i).bind (cU r)) /\
 (∀ {o:Option (Kd×PyData)}{E:En}{i:Nat}{Q:En->Kd->PyData->Prop},CY (o::E) i Q=match (o::E)[i]? with
  | some (some (_,d))=>aS (cT (o::E) i) fun E'=>Q E' .sh d
  | _=>False) /\
 (∀ {o:Option (Kd×PyData)}{E:En}{i:Nat}{Q:En->Kd->PyData->Prop},Dl (o::E) i Q=match (o::E)[i]? with
  | some (some (k,d))=>k.pin=false/\Q ((o::E).set i none) k d
  | _=>False) /\
 (∀ {o:Option (Kd×PyData)}{E:En}{i:Nat}{Q:En->Bool->Prop},Dz (o::E) i Q=match (o::E)[i]? with
  | some (some (k,d))=>k.rd=true/\uI d (Q (o::E))
  | _=>False) /\
 (∀ {r:DR}{as:List Arg}{o:Option (Kd×PyData)}{E:En}{os:List (Option PyData)}{Q:En->Kd->PyData->Prop},Dp r as (o::E) os Q=aS (fill as (o::E) os) fun ds=>r ds fun k v=>aS (Ao as (o::E) k v) fun E2=>Q E2 k v) /\
 (∀ {sp:bW}{ms:List Bool}{as:List Arg}{x:XC}{o:Option (Kd×PyData)}{E:En}{os:List (Option PyData)}{Q:En->Kd->PyData->Prop},CG sp ms as x (o::E) os Q=aS (fill as (o::E) os) fun ds=>nF ms as (o::E)=true/\sp ds (fun us k v=>Df ms as (o::E) us k v Q) x) /\
 (∀ {f:DM}{i:Nat}{as:List Arg}{o:Option (Kd×PyData)}{E:En}{os:List (Option PyData)}{Q:En->Kd->PyData->Prop},CF f i as (o::E) os Q=match fill as (o::E) os,(o::E)[i]? with
  | some args,some (some (.ow p,.list ds))=>f ds args fun new v=>Q ((o::E).set i (some (.ow p,.list new))) .sh v
  | _,_=>False) /\
 (∀ {f:Int->Int->Int}{o:Option (Kd×PyData)}{E:En}{i:Nat}{b:Int}{Q:En->Prop},zB f (o::E) i (.int b) Q=match (o::E)[i]? with
  | some (some (_,.int a))=>Q ((o::E).set i (some (.sh,.int (f a b))))
  | _=>False) /\
 (∀ {b:Bool}{Q:Bool->Prop},uI (.bool b) Q=Q b) /\
 (∀ {b:Bool}{Q:Bool->Prop},CQ (.bool b) Q=Q b) /\
 (∀ {i:Int}{Q:Int->Prop},sL (.int i) Q=Q i) /\
 (∀ {ds:List PyData}{Q:Bool->Prop},uI (.list ds) Q=Q (!ds.isEmpty)) /\
 (∀ {ds:List PyData}{Q:List PyData->Prop},CH (.list ds) Q=Q ds) /\
 (∀ {ds:List PyData}{Q:List PyData->Prop},CH (.tuple ds) Q=Q ds) /\
 (∀ {ds:List PyData}{Q:List PyData->Prop},tM (.list ds) Q=Q ds) /\
 (∀ {as:List Arg}{o:Option (Kd×PyData)}{E:En}{k:Kd}{v:PyData},Ao as (o::E) k v=if ((gI as).all (kF (o::E)) || flat k v)=true then some (o::E) else cU (gI as) (o::E)) /\
 (gI []=[])/\(∀ {i:Nat}{r:List Arg},gI (.pk i::r)=i::gI r)/\(∀ {d:DE}{r:List Arg},gI (.ev d::r)=gI r) /\
 (Kd.fz .sh=true)/\(Kd.fz (.ow false)=true)/\(Kd.fz (.dp false)=true)/\(Kd.fz (.dk false)=true)/\(Kd.fz (.dt false)=true) /\
 (Kd.rd .sh=true)/\(∀ {p:Bool},Kd.rd (.ow p)=true)/\(∀ {p:Bool},Kd.rd (.dp p)=true)/\(∀ {p:Bool},Kd.rd (.dk p)=true)/\(∀ {p:Bool},Kd.rd (.dt p)=true) /\
 (Kd.pin .sh=false)/\(∀ {p:Bool},Kd.pin (.ow p)=p)/\(∀ {p:Bool},Kd.pin (.dp p)=p)/\(∀ {p:Bool},Kd.pin (.dk p)=p)/\(∀ {p:Bool},Kd.pin (.dt p)=p) /\
 (∀ {v:PyData},flat .sh v=lf v)/\(∀ {i:Int},lf (.int i)=true)/\(∀ {b:Bool},lf (.bool b)=true)/\(∀ {s:Str},lf (.str s)=true)/\(lf .none=true) /\
 (type_of% Di)/\(type_of% C0)/\(type_of% IG) /\
 (∀ {ms:List Bool}{Q:List PyData->Kd->PyData->Prop}{x:XC},(bH ms Q x).xc=x) /\
 (∀ {ms:List Bool}{Q:List PyData->Kd->PyData->Prop}{x:XC}{o:Option (Kd×PyData)}{E:En},(bH ms Q x).nx (o::E)=aS (fu ms (o::E)) fun us=>Q us .sh .none) /\
 (∀ {ms:List Bool}{Q:List PyData->Kd->PyData->Prop}{x:XC}{o:Option (Kd×PyData)}{E:En}{k:Kd}{v:PyData},(bH ms Q x).rt (o::E) k v=aS (fu ms (o::E)) fun us=>Q us k v) /\
 (∀ {E:En},fu [] E=some [])/\(∀ {ms:List Bool}{es:List PyData}{E:En},fu (true::ms) (some (.ow true,.list es)::E)=(fu ms E).map (.list es::·))/\(∀ {ms:List Bool}{o:Option (Kd×PyData)}{E:En},fu (false::ms) (o::E)=fu ms E) /\
 (∀ {ms:List Bool}{d:PyData}{ds:List PyData},ini (true::ms) (d::ds)=some (.ow true,d)::ini ms ds)/\(∀ {ms:List Bool}{d:PyData}{ds:List PyData},ini (false::ms) (d::ds)=some (.sh,d)::ini ms ds)/\(ini [] []=[]) /\
 (∀ {n:Nat},List.replicate (n + 1) (none:Option (Kd×PyData))=none::List.replicate n none)/\(List.replicate 0 (none:Option (Kd×PyData))=[]) /\
 (∀ {P:Prop},(True/\P)=P)/\(∀ {P:Prop},(P/\True)=P)/\(∀ {α:Type}{a:α},(a=a)=True)/\(∀ {α β:Type}{f:α->β}{a:α},(some a).map f=some (f a))/\(∀ {α β:Type}{f:α->Option β}{a:α},(some a).bind f=f a) /\
 (∀ {α:Type}{p:α->Bool},[].all p=true)/\(∀ {α:Type}{p:α->Bool}{a:α}{l:List α},(a::l).all p=(p a && l.all p))/\(∀ {b:Bool},(true && b)=b)/\(∀ {b:Bool},(false && b)=false)/\(∀ {b:Bool},(true || b)=true)/\(∀ {b:Bool},(false || b)=b)/\(∀ {b:Bool},(b || true)=true)/\((!true)=false)/\((!false)=true) /\
 (∀ {α:Type}{a b:α},(if True then a else b)=a)/\(∀ {α:Type}{a b:α},(if False then a else b)=b)/\(∀ {p:Prop} [Decidable p],(decide p=true)=p)/\((true=false)=False)/\((false=true)=False)/\(∀ {b:Bool},((!b)=true)=(b=false))/\(∀ {p:Prop} [Decidable p],(decide p=false)=¬ p) /\
 (∀ {α:Type}{l:List α},([]:List α)++l=l)/\(∀ {α:Type}{a:α}{l m:List α},(a::l)++m=a::(l++m)) :=
 ⟨rfl,rfl,rfl,rfl,rfl,rfl,rfl,rfl,rfl,(by
  intro o E i
  unfold cy bG
  generalize (o::E)[i]?=z
  rcases z with _ | _ | ⟨k,d⟩ <;> rfl),rfl,rfl,rfl,rfl,rfl,rfl,rfl,rfl,rfl,rfl,rfl,rfl,rfl,(by
  intro f o E i b Q
  unfold zB
  generalize (o::E)[i]?=z
  rcases z with _ | _ | ⟨k,d⟩
  ·rfl
  ·rfl
  ·cases d <;> rfl),rfl,rfl,rfl,rfl,rfl,rfl,rfl,rfl,rfl,rfl,rfl,rfl,rfl,rfl,rfl,rfl,rfl,rfl,rfl,rfl,rfl,rfl,rfl,rfl,rfl,rfl,rfl,rfl,rfl,rfl,rfl,Di,C0,IG,rfl,cj,cj,rfl,rfl,rfl,rfl,rfl,rfl,rfl,rfl,true_and _,and_true _,(by intros;exact eq_self _),rfl,rfl,rfl,(by intros;exact List.all_cons),(by intros;exact Bool.true_and _),(by intros;exact Bool.false_and _),(by intros;exact Bool.true_or _),(by intros;exact Bool.false_or _),(by intros;exact Bool.or_true _),rfl,rfl,if_true ..,if_false ..,(by intros;exact decide_eq_true_eq),(by simp),(by simp),(by simp),(by intros;simp),rfl,rfl⟩
end Dv
namespace Dv
open PySem L2
theorem JY {xs:List PyData}{i:Int}{P:Kd->PyData->Prop}:aI [.list xs,.int i] P=aS (dQ xs i) (P .sh):=by
 show (∃ d,dQ xs i=some d/\P .sh d)=_
 exact cj
theorem J4 {xs:List PyData}{i:Int}{P:Kd->PyData->Prop}:aI [.tuple xs,.int i] P=aS (dQ xs i) (P .sh):=by
 show (∃ d,dQ xs i=some d/\P .sh d)=_
 exact cj
theorem Kl {c:String}{d:PyData}{P:Kd->PyData->Prop}:tB c [d] P=aS (pZ d) fun t=>P .sh (.bool (iJ c t)):=cj
theorem Lv {x:PyData}{l:List PyData}:dQ (x::l) 0=some x:=by
 unfold dQ nh
 simp
theorem LI {x y:PyData}{l:List PyData}:dQ (x::y::l) 1=some y:=by
 unfold dQ nh
 simp
 rw [if_pos (by omega)]
 rfl
theorem LF {n:Nat}:jB (n + 1) 0=some 0:=by
 unfold jB
 simp
theorem Kw {n:Nat}:jB (n + 2) 1=some 1:=by
 unfold jB
 simp
 omega
theorem dx :
 (∀ {x:PyData}{l:List PyData},dQ (x::l) 0=some x)/\(∀ {x y:PyData}{l:List PyData},dQ (x::y::l) 1=some y)/\(∀ {n:Nat},jB (n + 1) 0=some 0)/\(∀ {n:Nat},jB (n + 2) 1=some 1)/\(∀ {n:Nat},jB (n + 1 + 1) 1=some 1) /\
 (∀ {a b:Int}{P:Kd->PyData->Prop},fj [.int a,.int b] P=P .sh (.int (a + b))) /\
 (∀ {a b:List PyData}{P:Kd->PyData->Prop},fj [.list a,.list b] P=(a.length + b.length<=sizeLine/\P (.ow false) (.list (a++b)))) /\
 (∀ {a b:List PyData}{P:Kd->PyData->Prop},fj [.tuple a,.tuple b] P=((a≠[]/\a.length + b.length<=sizeLine)/\P .sh (.tuple (a++b)))) /\
 (∀ {a b:Int}{P:Kd->PyData->Prop},kO [.int a,.int b] P=P .sh (.int (a - b))) /\
 (∀ {a b:Int}{P:Kd->PyData->Prop},jA [.int a,.int b] P=(lQ a b/\P .sh (.int (a * b)))) /\
 (∀ {a:List PyData}{k:Int}{P:Kd->PyData->Prop},jA [.list a,.int k] P=((-(2 ^ 63)<=k/\k < 2 ^ 63/\a.length * k.toNat<=sizeLine)/\P (.ow false) (.list (List.replicate k.toNat a).flatten))) /\
 (∀ {a b:Int}{P:Kd->PyData->Prop},jz [.int a,.int b] P=(0 < b/\P .sh (.int (a % b)))) /\
 (∀ {a b:Int}{P:Kd->PyData->Prop},qX [.int a,.int b] P=(x9 a b/\P .sh (.int (a / b)))) /\
 (∀ {a b:Int}{P:Kd->PyData->Prop},CB [.int a,.int b] P=(B7 a b/\P .sh (.int (a ^ b.toNat)))) /\
 (∀ {a b:Int}{P:Kd->PyData->Prop},sG [.int a,.int b] P=P .sh (.bool (decide (a < b)))) /\
 (∀ {a b:Int}{P:Kd->PyData->Prop},Lx [.int a,.int b] P=P .sh (.bool (decide (a<=b)))) /\
 (∀ {a b:Int}{P:Kd->PyData->Prop},xU [.int a,.int b] P=P .sh (.bool (decide (b < a)))) /\
 (∀ {a b:Int}{P:Kd->PyData->Prop},Gy [.int a,.int b] P=P .sh (.bool (decide (b<=a)))) /\
 (∀ {a:Int}{P:Kd->PyData->Prop},pF [.int a] P=P .sh (.int (-a))) /\
 (∀ {a b:Int}{P:Kd->PyData->Prop},jU [.int a,.int b] P=P .sh (.bool (decide (a=b)))) /\
 (∀ {a b:Str}{P:Kd->PyData->Prop},jU [.str a,.str b] P=P .sh (.bool (decide (a=b)))) /\
 (∀ {a b:Int}{P:Kd->PyData->Prop},mz [.int a,.int b] P=P .sh (.bool !(decide (a=b)))) /\
 (∀ {a b:Str}{P:Kd->PyData->Prop},mz [.str a,.str b] P=P .sh (.bool !(decide (a=b)))) /\
 (∀ {a b:List PyData}{P:Kd->PyData->Prop},jU [.list a,.list b] P=((dl 8 (.list a)=true/\dl 8 (.list b)=true)/\P .sh (.bool (decide (PyData.list a=.list b))))) /\
 (∀ {a b:List PyData}{P:Kd->PyData->Prop},mz [.list a,.list b] P=((dl 8 (.list a)=true/\dl 8 (.list b)=true)/\P .sh (.bool !(decide (PyData.list a=.list b))))) /\
 (∀ {P:Kd->PyData->Prop},eu false [.none,.none] P=P .sh (.bool true))/\(∀ {P:Kd->PyData->Prop},eu true [.none,.none] P=P .sh (.bool false)) /\
 (∀ {i:Int}{P:Kd->PyData->Prop},eu false [.int i,.none] P=P .sh (.bool false))/\(∀ {i:Int}{P:Kd->PyData->Prop},eu true [.int i,.none] P=P .sh (.bool true)) /\
 (∀ {i:List PyData}{P:Kd->PyData->Prop},eu false [.tuple i,.none] P=P .sh (.bool false))/\(∀ {i:List PyData}{P:Kd->PyData->Prop},eu true [.tuple i,.none] P=P .sh (.bool true)) /\
 (∀ {xs:List PyData}{i:Int}{P:Kd->PyData->Prop},aI [.list xs,.int i] P=aS (dQ xs i) (P .sh)) /\
 (∀ {xs:List PyData}{i:Int}{P:Kd->PyData->Prop},aI [.tuple xs,.int i] P=aS (dQ xs i) (P .sh)) /\
 (∀ {d:PyData}{xs:List PyData}{P:Kd->PyData->Prop},gX false [d,.list xs] P=((xs.all (dl 8)=true/\dl 8 d=true)/\P .sh (.bool (decide (d∈xs))))) /\
 (∀ {d:PyData}{xs:List PyData}{P:Kd->PyData->Prop},gX true [d,.list xs] P=((xs.all (dl 8)=true/\dl 8 d=true)/\P .sh (.bool !(decide (d∈xs))))) /\
 (∀ {d:PyData}{xs:List PyData}{P:Kd->PyData->Prop},gX false [d,.tuple xs] P=((xs.all (dl 8)=true/\dl 8 d=true)/\P .sh (.bool (decide (d∈xs))))) /\
 (∀ {d:PyData}{xs:List PyData}{P:Kd->PyData->Prop},gX true [d,.tuple xs] P=((xs.all (dl 8)=true/\dl 8 d=true)/\P .sh (.bool !(decide (d∈xs))))) /\
 (∀ {xs:List PyData}{P:Kd->PyData->Prop},cS [.list xs] P=P .sh (.int xs.length))/\(∀ {xs:List PyData}{P:Kd->PyData->Prop},cS [.tuple xs] P=P .sh (.int xs.length)) /\
 (∀ {xs:List PyData}{P:Kd->PyData->Prop},iM [.list xs] P=P (.ow false) (.list xs))/\(∀ {xs:List PyData}{P:Kd->PyData->Prop},iM [.tuple xs] P=P (.ow false) (.list xs)) /\
 (∀ {xs:List PyData}{P:Kd->PyData->Prop},jl [.list xs] P=P .sh (.tuple xs))/\(∀ {xs:List PyData}{P:Kd->PyData->Prop},jl [.tuple xs] P=P .sh (.tuple xs)) /\
 (∀ {a b:Int}{P:Kd->PyData->Prop},p9 [.int a,.int b] P=P .sh (.int (if b < a then b else a)))/\(∀ {a b:Int}{P:Kd->PyData->Prop},pY [.int a,.int b] P=P .sh (.int (if b > a then b else a))) /\
 (∀ {a:Int}{P:Kd->PyData->Prop},vB [.int a] P=P .sh (.int (if a < 0 then -a else a)))/\(∀ {a:Int}{P:Kd->PyData->Prop},kX [.int a] P=P .sh (.int a))/\(∀ {b:Bool}{P:Kd->PyData->Prop},kX [.bool b] P=P .sh (.int (if b=true then 1 else 0))) /\
 (∀ {j:Int}{P:Kd->PyData->Prop},iu [.int j] P=((0<=j/\j<=1000)/\P (.ow false) (.list (jD 0 j.toNat)))) /\
 (∀ {ds:List PyData}{P:Kd->PyData->Prop},eT ds P=(ds.length<=sizeLine/\P (.ow false) (.list ds)))/\(∀ {ds:List PyData}{P:Kd->PyData->Prop},iZ ds P=(ds.length<=sizeLine/\P .sh (.tuple ds))) /\
 (∀ {xs:List PyData}{P:Kd->PyData->Prop},kQ false false [.list xs] P=P (.ow false) (.list (cutD xs none none)))/\(∀ {xs:List PyData}{a:Int}{P:Kd->PyData->Prop},kQ true false [.list xs,.int a] P=P (.ow false) (.list (cutD xs (some a) none))) /\
 (∀ {xs:List PyData}{b:Int}{P:Kd->PyData->Prop},kQ false true [.list xs,.int b] P=P (.ow false) (.list (cutD xs none (some b))))/\(∀ {xs:List PyData}{a b:Int}{P:Kd->PyData->Prop},kQ true true [.list xs,.int a,.int b] P=P (.ow false) (.list (cutD xs (some a) (some b)))) /\
 (∀ {xs:List PyData}{b:Int}{P:Kd->PyData->Prop},kQ false true [.tuple xs,.int b] P=P .sh (.tuple (cutD xs none (some b)))) /\
 (∀ {j:Int},kE [.int j]=if -(2 ^ 62)<=j/\j < 2 ^ 62 then some (jD 0 j.toNat) else none) /\
 (∀ {i j:Int},AQ [.int i,.int j]=if -(2 ^ 62)<=i/\i < 2 ^ 62/\-(2 ^ 62)<=j/\j < 2 ^ 62 then some (jD i (j - i).toNat) else none) /\
 (∀ {c:String}{d:PyData}{P:Kd->PyData->Prop},tB c [d] P=aS (pZ d) fun t=>P .sh (.bool (iJ c t))) /\
 (∀ {i:Int},pZ (.int i)=some "int")/\(∀ {i:List PyData},pZ (.tuple i)=some "tuple")/\(∀ {i:List PyData},pZ (.list i)=some "list")/\(∀ {b:Bool},pZ (.bool b)=some "bool")/\(pZ .none=some "NoneType") /\
 (iJ "int" "int"=true)/\(iJ "int" "tuple"=false)/\(iJ "tuple" "int"=false)/\(iJ "tuple" "tuple"=true)/\(iJ "bool" "int"=false)/\(iJ "list" "list"=true)/\(iJ "int" "NoneType"=false)/\(iJ "tuple" "NoneType"=false) /\
 (∀ {ds:List PyData}{d:PyData}{P:List PyData->PyData->Prop},dW ds [d] P=(ds.length < sizeLine/\P (ds++[d]) .none)) /\
 (∀ {ds es:List PyData}{P:List PyData->PyData->Prop},EA ds [.list es] P=(ds.length + es.length<=sizeLine/\P (ds++es) .none)) /\
 (∀ {ds:List PyData}{P:List PyData->PyData->Prop},rJ ds [] P=∃ d,ds[ds.length - 1]?=some d/\P ds.dropLast d) /\
 (∀ {ds:List PyData}{i:Int}{P:List PyData->PyData->Prop},rJ ds [.int i] P=((-(2 ^ 63)<=i/\i < 2 ^ 63)/\∃ n d,seqIndex? i ds.length=some n/\ds[n]?=some d/\P (ds.eraseIdx n) d)) /\
 (∀ {i:Nat}{d:PyData}{E:En},cH (.nm i) d E=b8 [i] [d] E)/\(∀ {is:List Nat}{ds:List PyData}{E:En},cH (.tp is) (.tuple ds) E=b8 is ds E) /\
 (∀ {E:En},b8 [] [] E=some E)/\(∀ {i:Nat}{is:List Nat}{d:PyData}{ds:List PyData}{o:Option (Kd×PyData)}{E:En},b8 (i::is) (d::ds) (o::E)=if cy (o::E) i then b8 is ds ((o::E).set i (some (.sh,d))) else none) /\
 (∀ {E:En},bg [] E=some E)/\(∀ {i:Nat}{r:List Nat}{o:Option (Kd×PyData)}{E:En},bg (i::r) (o::E)=if cy (o::E) i then bg r ((o::E).set i none) else none) /\
 (∀ {o:Option (Kd×PyData)}{E:En}{i:Nat}{w v:PyData}{Q:En->Prop},iL.setI (o::E) i w v Q=match (o::E)[i]?,w with
  | some (some (.ow p,.list ds)),.int a=>aS (jB ds.length a) fun n=>Q ((o::E).set i (some (.ow p,.list (ds.set n v))))
  | some (some (.dk p,.dict kvs)),w=>(j7 w=true/\kvs.length < 16777216)/\Q ((o::E).set i (some (.dk p,.dict (putD kvs w v))))
  | some (some (.dt p,.dict (_::kvs))),.tuple ks=>(ks.all j7=true/\kvs.length < 16777216)/\Q ((o::E).set i (some (.dt p,.dict ((.none,.none)::putD kvs (.tuple ks) v))))
  | _,_=>False) /\
 (∀ {ms:List Bool}{as:List Arg}{o:Option (Kd×PyData)}{E:En}{us:List PyData}{k:Kd}{v:PyData}{Q:En->Kd->PyData->Prop},Df ms as (o::E) us k v Q=aS (gZ ms as us (o::E)) fun E2=>aS (pO ms as us E2 k v) fun E3=>Q E3 k v) /\
 (∀ {E:En},gZ [] [] [] E=some E)/\(∀ {ms:List Bool}{a:Arg}{r:List Arg}{us:List PyData}{E:En},gZ (false::ms) (a::r) us E=gZ ms r us E) /\
 (∀ {ms:List Bool}{i:Nat}{r:List Arg}{u:PyData}{us:List PyData}{o:Option (Kd×PyData)}{E:En},gZ (true::ms) (.pk i::r) (u::us) (o::E)=match (o::E)[i]? with
  | some (some (.ow p,.list _))=>if zf u then gZ ms r us ((o::E).set i (some (.ow p,u))) else none
  | _=>none)/\(∀ {l:List PyData},zf (.list l)=true) /\
 (∀ {ms:List Bool}{as:List Arg}{us:List PyData}{o:Option (Kd×PyData)}{E:En}{k:Kd}{v:PyData},pO ms as us (o::E) k v=if ((kept ms as).all (kF (o::E)) || (flat k v && us.all (flat (.ow false))))=true then some (o::E) else cU (kept ms as) (o::E)) /\
 (kept [] []=[])/\(∀ {ms:List Bool}{i:Nat}{r:List Arg},kept (false::ms) (.pk i::r)=i::kept ms r)/\(∀ {ms:List Bool}{d:DE}{r:List Arg},kept (false::ms) (.ev d::r)=kept ms r)/\(∀ {ms:List Bool}{a:Arg}{r:List Arg},kept (true::ms) (a::r)=kept ms r) /\
 (∀ {ms:List Bool}{as:List Arg}{o:Option (Kd×PyData)}{E:En},nF ms as (o::E)=(shape ms as && decide (lent ms as).Nodup && (lent ms as).all (fun i=>!(kept ms as).contains i && (kP (o::E) i)))) /\
 (lent [] []=[])/\(∀ {ms:List Bool}{i:Nat}{r:List Arg},lent (true::ms) (.pk i::r)=i::lent ms r)/\(∀ {ms:List Bool}{a:Arg}{r:List Arg},lent (false::ms) (a::r)=lent ms r) /\
 (shape [] []=true)/\(∀ {ms:List Bool}{i:Nat}{r:List Arg},shape (true::ms) (.pk i::r)=shape ms r)/\(∀ {ms:List Bool}{a:Arg}{r:List Arg},shape (false::ms) (a::r)=shape ms r) /\
 (∀ {i:Nat},List.contains [] i=false)/\(∀ {i j:Nat}{l:List Nat},List.contains (j::l) i=(i == j || List.contains l i))/\(∀ {α:Type},([]:List α).length=0)/\(∀ {α:Type}{a:α}{l:List α},(a::l).length=l.length + 1)/\(sizeLine=16777216) /\
 (∀ {f:DE->Arg},List.map f []=[])/\(∀ {f:DE->Arg}{a:DE}{l:List DE},List.map f (a::l)=f a::List.map f l)/\(∀ {α:Type},(([]:List α).Nodup)=True)/\(∀ {i:Nat},([i]:List Nat).Nodup=True) :=
 ⟨Lv,LI,LF,Kw,Kw,rfl,rfl,rfl,rfl,rfl,rfl,rfl,rfl,rfl,rfl,rfl,rfl,rfl,rfl,rfl,rfl,rfl,rfl,rfl,rfl,(by simp [eu]),(by simp [eu]),(by simp [eu]),(by simp [eu]),(by simp [eu]),(by simp [eu]),JY,J4,
  (by intro d xs P;cases d <;> rfl),(by intro d xs P;cases d <;> rfl),(by intro d xs P;cases d <;> rfl),(by intro d xs P;cases d <;> rfl),rfl,rfl,rfl,rfl,rfl,rfl,rfl,rfl,rfl,rfl,rfl,rfl,rfl,rfl,rfl,rfl,rfl,rfl,rfl,rfl,rfl,Kl,rfl,rfl,rfl,rfl,rfl,(by decide),(by decide),(by decide),(by decide),(by decide),(by decide),(by decide),(by decide),
  rfl,rfl,rfl,rfl,rfl,rfl,rfl,rfl,rfl,rfl,(by
   intro o E i w v Q
   unfold iL.setI
   simp only [cj]
   try rfl),rfl,rfl,rfl,rfl,rfl,rfl,rfl,rfl,rfl,(by intro ms a r;cases a <;> rfl),(by intros;rfl),rfl,rfl,(by intro ms a r;cases a <;> rfl),rfl,rfl,(by intro ms a r;cases a <;> rfl),rfl,(by intros;rw [List.contains_cons]),rfl,rfl,rfl,rfl,rfl,(by simp),(by simp)⟩
end Dv
namespace L2
open PySem PySem.Spec PyProof.Rows
theorem AL {P:Program}{w:World}{K:PySem.W.Frag}{mg mb:Str->Option Value}{CX:ku}{k:Nat}{fa a:Addr}{fd:FuncData}{x:Str}{sp:Sp}{s₁:Shared}{vs:List Value}{ns:List Int}
  (KX:K.In s₁.heap)(hns:s₁.heap.Ns mainGlobals mg)(hb:s₁.heap.Ns builtinsNs mb)(hbb:∀ x:Str,x≠"__name__"->mb x=bootBuiltins x)(hlim:s₁.heap.NoLimit)(hg:s₁.gens=#[])
  (ha:s₁.heap.get? a=some { cls:=.type "list",data:=.seq vs.toArray })(hi:IntsAre vs ns)(hl:ns.length<=sizeLine)(hr:d9 k callerA)
  (F:∀ base:Heap,K.In base->base.Ns mainGlobals mg->bF P w K mg base CX k fa fd [x] sp)(hbind:∀ (s:Shared)(u:Value),BindsTo s fd ⟨[u],[]⟩ [(x,u)])
  (hsp:∀ H:Hp,Ca H->Dv.cQ K H a (ns.map V.int)->sp [.ref a] H (fun v _=>v=.bl true) fun _ _ _=>False)
  (hCX:∀ H e s',CX [] H s₁ (fun _ _ _=>False) e s'->False) :
  codeAny (model P w) callerA (.call (.ref fa) ⟨[.ref a],[]⟩) (fun r s'=>r=.ok (.ret (.bool true))/\OldK s₁.heap s'.heap/\s'.os=s₁.os/\AllBare s'.gens) s₁:=by
 have rv:=tK hi
 have vq:=hi.length
 -- from an abstract heap in which nothing but the script may be tracked
 have core:∀ H:Hp,Ca H->Dv.cQ K H a (ns.map V.int)->dJ P w H s₁.heap->(∀ b,H b≠none->b=a)->(H a≠none->K.lookup a=none) ->
   codeAny (model P w) callerA (.call (.ref fa) ⟨[.ref a],[]⟩) (fun r s'=>r=.ok (.ret (.bool true))/\OldK s₁.heap s'.heap/\s'.os=s₁.os/\AllBare s'.gens) s₁:=by
  intro H hO hS hok hA hK
  have base_of:∀ {b:Addr}{o:Obj},s₁.heap.get? b=some o->H b=none->(l7 s₁.heap H).get? b=some o:=fun e n=>Bx e n
  have noA:∀ {b:Addr}{o:Obj}{es:Array DictEntry}{ep:Nat},s₁.heap.get? b=some o->o.data=.dict es ep->H b=none:=fun {b o es ep} e d=>by
   cases q:H b with
   | none=>rfl
   | some u =>
    have e':b=a:=hA b (by rw [q];simp)
    subst e'
    rw [ha] at e;cases e
    have d':Data.seq vs.toArray _=Data.dict es ep:=d
    cases d'
  have nsK:∀ {b:Addr}{m:Str->Option Value},s₁.heap.Ns b m->(l7 s₁.heap H).Ns b m:=fun {b m} ⟨o,es,ep,e,d,r⟩=>⟨o,es,ep,base_of e (noA e d),d,r⟩
  have hKb:K.In (l7 s₁.heap H):=fun b o e=>base_of (KX b o e) (by
   cases q:H b with
   | none=>rfl
   | some u =>
    have e':b=a:=hA b (by rw [q];simp)
    subst e'
    rw [hK (by rw [q];simp)] at e;cases e)
  have hM:Mod K mg (l7 s₁.heap H):=⟨hKb,nsK hns,⟨mb,nsK hb,hbb⟩,let ⟨mc,h1,h2⟩:=hlim;⟨mc,nsK h1,h2⟩⟩
  have e0:yt P w K mg (l7 s₁.heap H) callerA [] s₁ H:=⟨rfl,hM,fun b o e=>Fq e,Nat.le_of_eq (zj _ _),trivial,fun b hb=>absurd (show b∈([]:List Addr) from hb) (by simp),hok,.of_eq hg⟩
  refine codeAny_mono ((F _ hKb (nsK hns)).run callerA [] s₁ H ⟨[.ref a],[]⟩ [.ref a] [.ref a] _ _ hr e0 (hbind s₁ (.ref a)) (.cons rfl .nil) (hsp H hO hS)) fun r s' h=>?_
  cases r with
  | error e=>exact (hCX H e s' h).elim
  | ok fl =>
   cases fl with
   | next=>exact False.elim h
   | brk=>exact False.elim h
   | cont=>exact False.elim h
   | ret u =>
    obtain ⟨v,H',os,bare,un,hok',r',q⟩:=h
    have q':v=.bl true:=q
    subst q'
    obtain rfl:u=Value.bool true:=r'
    refine ⟨rfl,OldK.of_keep fun b o e=>?_,os,bare⟩
    cases q:H b with
    | none=>exact un.keep b o e q (by intro z;exact absurd (show b∈([]:List Addr) from z) (by simp)) (by simp)
    | some u =>
     rcases hO b with z | ⟨ob,xs,z⟩
     ·rw [q] at z;cases z
     ·have z2:=un.jy b ob _ z
      obtain ⟨e1,_⟩:=hok b _ z
      obtain ⟨e2,_⟩:=hok' b _ z2
      rw [e] at e1;cases e1
      exact e2
 cases hk:K.lookup a with
 | some o =>
  -- the script is one of the module's own objects
  have e:=KX a o hk
  rw [ha] at e
  cases e
  refine core (fun _=>none) (fun _=>.inl rfl) (.inr ⟨vs,_,hk,by rw [vq];exact hl,rv⟩) (fun b u z=>by have z':(none:Option HO)=some u:=z;cases z') (fun b z=>absurd rfl z) fun z=>absurd rfl z
 | none =>
  refine core (fun b=>if b=a then some (.fM { cls:=.type "list",data:=.seq vs.toArray } (.lst (ns.map V.int))) else none) (fun b=>?_) (.inl (.inr ⟨{ cls:=.type "list",data:=.seq vs.toArray },if_pos rfl⟩)) (fun b u z=>?_) (fun b z=>?_) fun _=>hk
  ·by_cases hb:b=a
   ·exact .inr ⟨_,_,if_pos hb⟩
   ·exact .inl (if_neg hb)
  ·by_cases hb:b=a
   ·have z':=(if_pos hb).symm.trans z
    cases z'
    subst hb
    exact ⟨ha,by rw [List.length_map];exact hl,vs,_,rv,ha⟩
   ·have z':=(if_neg hb).symm.trans z
    cases z'
  ·by_cases hb:b=a
   ·exact hb
   ·exact absurd (if_neg hb) z
theorem G3 {l:PySem.W.OpenLaw}{n k:Nat}{q:Program}{loose:List Str}{XP:(Str->Option Value)->Heap->Prop}{YP:World->Heap->Prop}{d:DefRec}{K:Params->PySem.W.Frag}{CX:World->ku}{sp:World->Sp}{x:Str}
  (hn:l.most=some n)(hn2:n<=sizeLine)(hdf:d.params.defaults=[])(hr:d9 k callerA)
  (hY:∀ (w:World)(h:Heap),YP w h->(K w.params).In h)
  (F:∀ (w:World)(mg:Str->Option Value)(fa:Addr)(h:Heap),(K w.params).In h->h.Ns mainGlobals mg->mg d.name=some (.ref fa) ->
   ∃ fd:FuncData,(∀ (s:Shared)(u:Value),BindsTo s fd ⟨[u],[]⟩ [(x,u)]) /\
    ∀ base:Heap,(K w.params).In base->base.Ns mainGlobals mg->bF l.prog w (K w.params) mg base (CX w) k fa fd [x] (sp w))
  (hsp:∀ (w:World)(H:Hp)(a:Addr)(ns:List Int),ns.length<=n->Ca H->Dv.cQ (K w.params) H a (ns.map V.int)->sp w [.ref a] H (fun v _=>v=.bl true) fun _ _ _=>False)
  (hCX:∀ (w:World)(H:Hp)(s:Shared)(e:Value)(s':Shared),CX w [] H s (fun _ _ _=>False) e s'->False) :
  PySem.W.WalkO q loose XP YP l.row.toRowW d [] (fun f vs=>PySem.call f vs):=by
 refine KN.wg hn hdf fun w s₀ s₁ mg mb fa o pm cd doc a vs ns G Y ho hd hcd hmg hobj hints hlen hg=>?_
 have KX:=hY w _ Y
 obtain ⟨fd,hb,hF⟩:=F w mg fa _ KX G.T.g hmg
 exact AL KX G.T.g G.T.b G.T.builtins G.T.nolimit hg hobj hints (Nat.le_trans hlen hn2) hr hF hb (fun H hO hS=>hsp w H a ns hlen hO hS) fun H e s'=>hCX w H s₁ e s'
end L2
namespace Dv
open PySem L2 PySem.W
inductive xJ (K:Frag)(vs:List V)(H:Hp)(Q:VK):Prop
 | mk:∀ (a:Addr)(ns:List Int),(vs=[.ref a])->(cQ K H a (ns.map V.int))->(ns.length<=63)->(∀ H',Q (.bl true) H')->xJ K vs H Q
def Ax (K:Frag):Sp:=fun vs H Q _E3=>xJ K vs H Q
def rL:bW:=fun ds Q x=>∃ ns:List Int,ds=[.list (ns.map .int)]/\ns.length<=63/\Q [] .sh (.bool true)
theorem D8 {mg:Str->Option Value}{K:Frag}{vs:List V}{H:Hp}{Q:VK}{E:XK}(h:Ax K vs H Q E):aD mg K [false] rL vs H Q E:=by
 obtain ⟨a,ns,rfl,r,hl,q⟩:=h
 refine ⟨[.list (ns.map .int)],[],H,fun _ _ r=>r=.bool true,xF,aj.refl _,.sh (.lst r (lT ns)) .nil,⟨ns,rfl,hl,rfl⟩,fun us k r u H' Hm' fp e _ _ _ _ _ o _=>?_,fun _ _ _ _ _ _ z=>z.elim⟩
 cases e
 cases o with
 | sh h=>cases h;exact q H'
theorem AK {l:OpenLaw}{q:Program}{loose:List Str}{XP:(Str->Option Value)->Heap->Prop}{YP:World->Heap->Prop}{d:DefRec}{K:Params->Frag}{k:Nat}(hn:l.most=some 63)(hdf:d.params.defaults=[])(hr:d9 k callerA)
  (hY:∀ (w:World)(h:Heap),YP w h->(K w.params).In h)
  (F:∀ (w:World)(mg:Str->Option Value)(fa:Addr)(h:Heap),(K w.params).In h->h.Ns mainGlobals mg->mg d.name=some (.ref fa) ->
   ∃ fd:FuncData,(∀ (s:Shared)(u:Value),BindsTo s fd ⟨[u],[]⟩ [("script",u)])/\∀ base:Heap,(K w.params).In base->base.Ns mainGlobals mg->bF l.prog w (K w.params) mg base (bT l.prog w) k fa fd ["script"] (aD mg (K w.params) [false] rL)) :
  WalkO q loose XP YP l.row.toRowW d [] (fun f vs=>PySem.call f vs) :=
 L2.G3 (n:=63) (k:=k) (x:="script") (CX:=fun w=>bT l.prog w) (sp:=fun w=>Ax (K w.params)) hn (by decide) hdf hr hY (fun w mg fa h h1 h2 h3=>by
  obtain ⟨fd,hb,hF⟩:=F w mg fa h h1 h2 h3
  exact ⟨fd,hb,fun base g1 g2=>(hF base g1 g2).imp fun vs H Q E z=>D8 z⟩) (fun _ _ a ns hl _ hS=>⟨a,ns,rfl,hS,hl,fun _=>rfl⟩) fun w H s e s' z=>by
  obtain ⟨_,_,_,_,_,_,_,_,_,_,_,_,_,_,z⟩:=z
  exact z.elim
end Dv
namespace Dv
open PySem L2 PySem.W
def qz:DR:=fun ds P=>∃ ps:List (Int×Int),ds=[.list (ps.map pD)]/\ps.length<=1000/\∀ qs:List (Int×Int),qs.Perm ps->P (.ow false) (.list (qs.map pD))
theorem Cp {K:Frag}{H:Hp}:∀ {zs ys:List V},zs.Perm ys->∀ {ps:List (Int×Int)},aA K H ys (ps.map pD)->∃ qs:List (Int×Int),qs.Perm ps/\aA K H zs (qs.map pD):=by
 intro zs ys h
 induction h with
 | nil=>intro ps r;exact ⟨ps,.refl _,r⟩
 | cons x _ ih =>
  intro ps r
  cases ps with
  | nil=>cases r
  | cons p ps =>
   cases r with
   | cons h t =>
    obtain ⟨qs,pq,r'⟩:=ih t
    exact ⟨p::qs,pq.cons _,.cons h r'⟩
 | swap x y l =>
  intro ps r
  match ps,r with
  | p::p2::ps,.cons h (.cons h2 t)=>exact ⟨p2::p::ps,List.Perm.swap _ _ _,.cons h2 (.cons h t)⟩
 | trans _ _ ih1 ih2 =>
  intro ps r
  obtain ⟨q1,p1,r1⟩:=ih2 r
  obtain ⟨q2,p2,r2⟩:=ih1 r1
  exact ⟨q2,p2.trans p1,r2⟩
theorem zT {K:Frag}:cV K qz (zL K):=by
 rintro H Hm vs ds P Q s r ⟨ps,rfl,hn,h⟩ q
 obtain ⟨x,rfl,h1⟩:=dR r
 obtain ⟨a,xs,rfl,ha,r1⟩:=i7 h1
 have l1:xs.length=ps.length:=by rw [r1.len,List.length_map]
 refine ⟨a,xs,rfl,(cQ.mono s ha).sq,fun y hy=>?_,by rw [l1];exact hn,fun zs p pm hp=>?_⟩
 ·obtain ⟨i,hi⟩:=List.getElem?_of_mem hy
  obtain ⟨d,e,r'⟩:=r1.GC hi
  rw [List.getElem?_map] at e
  obtain ⟨p,_,rfl⟩:=Option.map_eq_some_iff.mp e
  cases r' with
  | tup b r2 =>
   obtain ⟨x,y,rfl,h2,h3⟩:=cW r2
   cases h2;cases h3
   exact ⟨_,_,_,rfl,cB.of (s _ _ b)⟩
 ·obtain ⟨qs,pq,r'⟩:=Cp pm r1
  exact bN.nl q s (h qs pq) hp r'
section
variable {X:Cx}{Ex:XK}{π:List Nat}{a:Expr}{p pos:Pos}{as:List Arg}
theorem Im (hm:X.mg "sorted"=none)(S:aU X Ex π [a] as)(hg:Gl X "sorted":=by rfl)(ns:noStar a=true:=by rfl):SE X Ex π (.Call (.Name "sorted" p) [a] [] pos) (ah qz as):=f6 uS zT hg hm PyProof.Rows.boot_sorted (by decide) (by decide) (by rw [List.all_cons,ns];rfl) S
end
end Dv
namespace Dv
open PySem L2 PySem.W PyProof.Rows
/-! ### x += e,of lists -/
theorem tX {M:Model}{A:Around}{E:Value->Shared->Prop}{s:Shared}{a b:Value}{T id:String}{Q:Value->Shared->Prop}(ha:s.TypeIs a T)(hb:s.TypeIs b T)(hl:typeLookup (.type T) (dunderI "add")=pure (some (.builtin id)))(hi:isSeqSlotId id=true)(hfill:fillsNumberSlot (.type T) "add"=pure false)
  (hc:wpAny M A (call (.builtin id) [a,b]) Q E s):wpAny M A (inplaceOp .Add a b) Q E s:=by
 unfold inplaceOp
 refine wpAny_holding ?_
 have hfi:fillsInplaceSlot (.type T) "add" (Operator.Add == .Add)=pure false:=by
  unfold fillsInplaceSlot
  show (typeLookup (.type T) (dunderI "add") >>= fun fi=>pure (fi.isSome && !isSeqSlot fi))=pure false
  rw [hl]
  show (pure ((some (Value.builtin id)).isSome && !isSeqSlotId id):Sem Bool)=pure false
  rw [hi];rfl
 have hsi:seqSlot? (.type T) (dunderI "add")=pure (some (.builtin id)):=PySem.seqSlot_of hl hi
 refine wpAny_bind (wpAny_typeOf ha (wpAny_bind (wpAny_of_eq hfi ?_)))
 show wpAny M A (if false=true then _ else _) Q E s
 rw [if_neg Bool.false_ne_true]
 refine wpAny_bind (binaryOp1_none (nm:="add") ha hb hfill ?_)
 refine wpAny_bind (wpAny_of_eq hsi ?_)
 exact wpAny_bind (wpAny_rule hc)
def LD (K:Frag):DZ:=fun x y H Q=>∃ l b xs zs,x=.ref l/\y=.ref b/\H l=some (.lst xs)/\cQ K H b zs/\xs.length + zs.length<=sizeLine/\Q (.ref l) (upd H l (.lst (xs++zs)))
section
variable {X:Cx}{Ex:XK}
theorem ET:KA X .Add (LD X.K):=by
 intro pins s σ H x y v u Q I rx ry h
 obtain ⟨l,b,xs,zs,rfl,rfl,hH,hB,hz,q⟩:=h
 cases rx
 cases ry
 obtain ⟨z,its,n,r,hl,e⟩:=I.yc hH
 obtain ⟨z2,its2,n2,r2,e2⟩:=hB.get I
 have hl2:=r2.length
 have hsz:its.toArray.size + its2.toArray.size<=sizeLine:=by rw [List.size_toArray,List.size_toArray];omega
 have hlong:¬ (!its.toArray.isEmpty && Builtin.List.listTooLong (its.toArray.size + its2.toArray.size))=true:=by
  rw [u7 hsz,Bool.and_false]
  exact Bool.false_ne_true
 refine tX (T:="list") ⟨_,e,rfl⟩ ⟨_,e2,rfl⟩ F.slot_list_iadd.lookup (by decide +kernel) noFill_list_add ?_
 refine call_meets F.slot_list_iadd ⟨_,e,rfl⟩ F.entry_list_iadd (F.args_list_iadd_2 _ _)
  (AutoSeq1.list___iadd___list_list_0 l its.toArray n b its2.toArray n2 hlong (by rw [List.size_toArray];omega) (by omega)) ⟨e,e2,?_⟩
 refine ⟨.ref l,_,I.xX (its':=its++its2) hH e (by simp) (r.append r2) ?_,rfl,q⟩
 rw [List.length_append]
 omega
theorem Ke {i:Nat}{x:Str}{e:Expr}{pos pos':Pos}{d:DE}(hN:X.N.Nodup)(hi:X.N[i]?=some x)(hl:Loc X.env.scope x)(hf:X.fn x=true\/X.env.scope.names.lookup x=some .local)(h:SE X Ex (aT X) e d):S1 X Ex (.AugAssign (.Name x pos') .Add e pos) (uN sizeLine i d):=by
 intro g D' E σ H Hm F D hx R p nx rt
 obtain ⟨hh,p⟩:=p
 have hh':here E i=true:=by
  unfold kP at hh
  unfold here
  split at hh
  ·rename_i q;rw [q]
  ·cases hh
 obtain ⟨v0,hv0⟩:=ki R hh'
 refine WS.of (HM hN hi hl bx ET hf) ⟨v0,fS (jb (bR hi)) hv0,h g D'.xc E σ H Hm F _ _ hx R p fun E' k v u H' Hm' F' fp p' R' s' T=>?_⟩
 obtain ⟨fz,pp,ds,es,e1,rfl,hlen,p'⟩:=p'
 obtain ⟨Hm2,up,R2,rp⟩:=T.fM R' fz
 obtain ⟨b,zs,rfl,hb,rz⟩:=i7 rp
 obtain ⟨v1,h1,h2⟩:=R2.slot i _ _ e1
 rw [hv0] at h1
 cases h1
 generalize hfi:F' i=fi at h2
 cases h2 with
 | @ow _ a xs _ ha rx =>
  obtain ⟨a',xs',g1,g2,g3,g4,R3⟩:=R2.chg (es:=ds++es) e1 (rx.app rz)
  rw [hv0] at g1
  cases g1
  rw [ha] at g2
  cases g2
  refine ⟨a,b,xs,zs,rfl,rfl,ha,cQ.mono R2.sub hb,by rw [rx.len,rz.len];exact hlen,?_⟩
  show D.nx ((sel (aT X) σ).set i (some (.ref a))) _
  have hsel:(sel (aT X) σ).set i (some (.ref a))=sel (aT X) σ:=by
   refine List.ext_getElem? fun j=>?_
   rw [List.getElem?_set]
   by_cases c:i=j
   ·subst c
    have:=fS (jb (bR hi)) hv0
    rw [if_pos rfl,this,if_pos]
    rcases Nat.lt_or_ge i (sel (aT X) σ).length with z | z
    ·exact z
    ·rw [List.getElem?_eq_none z] at this;cases this
   ·rw [if_neg c]
  rw [hsel]
  exact nx _ _ _ _ _ p' R3 (s'.trans up)
theorem KU (i:Nat){x:Str}{e:Expr}{pos pos':Pos}{d:DE}(hN:X.N.Nodup)(h:SE X Ex (aT X) e d)(hi:X.N[i]?=some x:=by rfl)(hl:Loc X.env.scope x:=by first | exact Or.inl rfl | exact Or.inr rfl)(hf:X.fn x=true\/X.env.scope.names.lookup x=some .local:=by first | exact Or.inl rfl | exact Or.inr rfl):S1 X Ex (.AugAssign (.Name x pos') .Add e pos) (uN sizeLine i d):=Ke hN hi hl hf h
end
end Dv
namespace Dv
open PySem L2 PySem.W
/-! ### a written dict -/
def prs {α:Type}:List α->Option (List (α×α))
 | []=>some []
 | k::v::r=>(prs r).map ((k,v)::·)
 | [_]=>none
noncomputable def IW (kvs:List (PyData×PyData)):List (PyData×PyData):=kvs.foldl (fun acc kv=>putD acc kv.1 kv.2) []
noncomputable def jE:DR:=fun ds P=>∃ kvs,prs ds=some kvs/\(kvs.all fun kv=>j7 kv.1)=true/\kvs.length<=15/\P (.dk false) (.dict (IW kvs))
section
variable {K:Frag}{g:Gh}{E:En}{σ:St}{H H' Hm Hm':Hp}{F:Nat->List Addr}
theorem Rl.Jz (R:Rl K g E σ H Hm F){p:Addr}{o:HO}(A:lF g F H Hm [p]):Rl K g E σ (upd H p o) Hm F where
 len:=R.len
 sub:=fun b u e=>by
  have:b≠p:=fun z=>by rw [z,A.off p List.mem_cons_self] at e;cases e
  rw [au this]
  exact R.sub _ _ e
 slot:=fun i k d e=>by
  obtain ⟨v,h1,h2⟩:=R.slot i k d e
  exact ⟨v,h1,h2.step (aj.refl _) fun a ha=>au fun z=>A.aR p List.mem_cons_self i (z ▸ ha)⟩
 off:=R.off
 bI:=fun i a ha=>by
  obtain ⟨u,hu,n⟩:=R.bI i a ha
  have ne:a≠p:=fun z=>A.aR p List.mem_cons_self i (z ▸ ha)
  exact ⟨u,by rw [au ne];exact hu,n⟩
 aR:=R.aR
 fr:=fun q o hq ho=>by
  have:q≠p:=fun z=>by rw [z,A.new p List.mem_cons_self] at ho;cases ho
  rw [au this]
  exact R.fr q o hq ho
 new:=R.new
 pin:=R.pin
 old:=R.old
theorem sV:∀ {vs:List V}{ds:List PyData}{kvd:List (PyData×PyData)},aA K H vs ds->prs ds=some kvd->(kvd.all fun kv=>j7 kv.1)=true->∃ kvs:List (Key×V),prs vs=some (kvs.map fun kv=>(kV kv.1,kv.2))/\dN K H kvs kvd
 | _,_,kvd,.nil,e,_=>by cases e;exact ⟨[],rfl,.nil⟩
 | _,_,kvd,.cons h .nil,e,_=>by cases e
 | _,_,kvd,.cons (d:=d1) h1 (.cons (d:=d2) h2 r),e,hk=>by
  simp only [prs] at e
  obtain ⟨rest,e1,rfl⟩:=Option.map_eq_some_iff.mp e
  rw [List.all_cons,Bool.and_eq_true] at hk
  obtain ⟨k,rfl⟩:=kU hk.1
  obtain ⟨kvs,e2,q⟩:=sV r e1 hk.2
  rw [nk h1]
  exact ⟨(k,_)::kvs,by simp only [prs,e2];rfl,.cons h2 q⟩
theorem dN.length:∀ {kvs:List (Key×V)}{ds:List (PyData×PyData)},dN K H kvs ds->kvs.length=ds.length
 | _,_,.nil=>rfl
 | _,_,.cons _ r=>congrArg (· + 1) r.length
theorem qm:∀ (kvs:List (Key×V)){kvd:List (PyData×PyData)}{acc:List (Key×V)}{accd:List (PyData×PyData)},dN K H kvs kvd->dN K H acc accd->dN K H (jS acc kvs) (kvd.foldl (fun acc kv=>putD acc kv.1 kv.2) accd)
 | [],kvd,_,_,r,h=>by cases r;exact h
 | (k,v)::kvs,kvd,_,_,r,h=>by
  cases r with
  | cons r t =>
   have:=qm kvs t (h.put k r)
   exact this
end
section
variable {X:Cx}{Ex:XK}{π:List Nat}
theorem WE.mono {e:Expr}{σ:St}{H:Hp}{Q Q':VK}(h:WE X e σ H Q)(q:∀ v H,Q v H->Q' v H):WE X e σ H Q':=fun pins s I=>aG (h pins s I) fun u s1 ⟨x,H1,I1,rx,q1⟩=>⟨x,H1,I1,rx,q _ _ q1⟩
theorem rB {σ:St}:∀ {qs:List (Expr×Expr)}{H:Hp}{Q Q':List (V×V)->Hp->Prop},lJ (qs.map fun q=>(WE X q.1,WE X q.2)) σ H Q->(∀ ps H,Q ps H->Q' ps H)->lJ (qs.map fun q=>(WE X q.1,WE X q.2)) σ H Q'
 | [],_,_,_,h,q=>q _ _ h
 | _::qs,_,_,_,h,q=>WE.mono h fun _ _ h1=>WE.mono h1 fun _ _ h2=>rB (qs:=qs) h2 fun _ _ h3=>q _ _ h3
theorem zu:∀ {ks vs:List Expr}{pos:Pos},ks.length=vs.length->zJ X pos (ks.map some) vs ((ks.zip vs).map fun q=>(WE X q.1,WE X q.2))
 | [],[],_,_=>FP
 | k::ks,v::vs,_,h=>BY bx bx (zu (by simpa using h))
theorem vF {σ:St}:∀ {ks vs es:List Expr}{H:Hp}{Q:List V->Hp->Prop},ks.length=vs.length->prs es=some (ks.zip vs)->qa X es σ H Q->lJ ((ks.zip vs).map fun q=>(WE X q.1,WE X q.2)) σ H fun ps H1=>∃ us,prs us=some ps/\Q us H1
 | [],[],es,H,Q,_,e,h=>by
  match es,e with
  | [],_=>exact ⟨[],rfl,h⟩
  | [_],e=>cases e
  | _::_::r,e =>
   simp only [prs] at e
   obtain ⟨_,_,z⟩:=Option.map_eq_some_iff.mp e
   cases z
 | k::ks,v::vs,es,H,Q,hl,e,h=>by
  match es,e with
  | [],e=>cases e
  | [_],e=>cases e
  | a::b::r,e =>
   simp only [prs] at e
   obtain ⟨rest,e1,z⟩:=Option.map_eq_some_iff.mp e
   cases z
   refine WE.mono h fun x H1 h1=>WE.mono h1 fun y H2 h2=>?_
   have:=vF (ks:=ks) (vs:=vs) (es:=r) (H:=H2) (Q:=fun us H3=>Q (x::y::us) H3) (by simpa using hl) e1 h2
   refine rB this fun ps H3=>?_
   rintro ⟨us,e2,q⟩
   exact ⟨x::y::us,by simp only [prs,e2];rfl,q⟩
theorem xT {ks vs es:List Expr}{as:List Arg}{pos:Pos}(S:aU X Ex π es as)(hl:ks.length=vs.length)(he:prs es=some (ks.zip vs))(h0:ks≠[])(h15:ks.length<=15)(hp:gI as=[]):SE X Ex π (.Dict (ks.map some) vs pos) (ah jE as):=by
 intro g x E σ H Hm F P Q hx R h q
 refine WE.of (Ey (zu hl) (by rw [List.all_map];exact List.all_eq_true.mpr fun _ _=>rfl) (by rw [List.length_map];exact hl) (fun z=>h0 (List.map_eq_nil_iff.mp z)) (by rw [List.length_map];exact h15)) ?_
 intro p hp0
 have sH:=cX (o:=.dK []) hp0
 have R1:=R.grow (H':=upd H p (.dK [])) sH (aj.refl _) (R.sub.trans sH) (fun i a ha=>R.off i a ha) fun _ _=>.inl rfl
 have A:lF g F (upd H p (.dK [])) Hm [p]:=⟨fun a ha=>by rw [List.mem_singleton.mp ha];exact ⟨_,aL,qu⟩,fun a ha=>by rw [List.mem_singleton.mp ha];exact R.qe hp0,fun a ha i=>by rw [List.mem_singleton.mp ha];exact R.fresh hp0,fun a ha=>by rw [List.mem_singleton.mp ha];exact R.gF hp0⟩
 have nM:=A.notM R1
 refine rB (vF hl he (jW (hx.fE A) S (R1.fE A) h (Q:=fun us H2=>H2 p=some (.dK [])/\∀ ps,prs us=some ps->∃ kvs:List (Key×V),ps=kvs.map (fun kv=>(kV kv.1,kv.2))/\kvs.length<=15/\Q (.ref p) (upd H2 p (.dK (jS [] kvs)))) fun E1 os us H1 Hm1 F1 pp R2 s1 G=>?_)) fun ps H2 ⟨us,e,h1,h2⟩=>⟨h1,h2 ps e⟩
 obtain ⟨ds,hf,kvd,e1,e2,e3,E2,ha,pq⟩:=pp
 have z7:aA X.K Hm1 us ds:=jK R2 (aj.refl _) G hf fun i hi=>by rw [hp] at hi;cases hi
 obtain ⟨R3,A3,keep⟩:=Rl.qj A nM R2
 obtain ⟨kvs,e4,kv⟩:=sV z7 e1 e2
 have hE:E2=E1:=by
  unfold Ao at ha
  rw [hp] at ha
  have:cU [] E1=some E1:=rfl
  split at ha
  ·cases ha;rfl
  ·rw [this] at ha;cases ha;rfl
 subst hE
 refine ⟨(keep p List.mem_cons_self).trans aL,fun ps ep=>⟨kvs,?_,by rw [kv.length];exact e3,?_⟩⟩
 ·rw [e4] at ep
  cases ep
  rfl
 ·exact q _ _ _ _ _ Hm1 F1 [p] pq (R3.Jz A3) s1 ⟨.dk aL (qm kvs kv .nil),fun a ha=>A3.off a ha,fun a ha i=>A3.aR a ha i,fun a ha=>A3.new a ha⟩
end
end Dv
namespace Dv
open PySem L2 PySem.W
section
variable {X:Cx}{Ex:XK}{π:List Nat}
theorem Gd {k v:Expr}{as:List Arg}{pos:Pos}(S:aU X Ex π [k,v] as)(hp:gI as=[]:=by rfl):SE X Ex π (.Dict [some k] [v] pos) (ah jE as):=xT (ks:=[k]) (vs:=[v]) S rfl rfl (List.cons_ne_nil _ _) (Nat.le_of_ble_eq_true rfl) hp
theorem G9 {k1 v1 k2 v2 k3 v3:Expr}{as:List Arg}{pos:Pos}(S:aU X Ex π [k1,v1,k2,v2,k3,v3] as)(hp:gI as=[]:=by rfl):SE X Ex π (.Dict [some k1,some k2,some k3] [v1,v2,v3] pos) (ah jE as):=xT (ks:=[k1,k2,k3]) (vs:=[v1,v2,v3]) S rfl rfl (List.cons_ne_nil _ _) (Nat.le_of_ble_eq_true rfl) hp
end
theorem Er {k:PyData}{v:PyData}{P:Kd->PyData->Prop}:jE [k,v] P=(j7 k=true/\P (.dk false) (.dict [(k,v)])):=by
 unfold jE
 refine propext ⟨?_,?_⟩
 ·rintro ⟨kvs,e,h1,h2,h⟩
  cases e
  exact ⟨by simpa using h1,h⟩
 ·rintro ⟨h1,h⟩
  exact ⟨[(k,v)],rfl,by simpa using h1,Nat.le_of_ble_eq_true rfl,h⟩
theorem FF {a b c:Str}{u v w:PyData}{P:Kd->PyData->Prop}(h1:a≠b)(h2:a≠c)(h3:b≠c):jE [.str a,u,.str b,v,.str c,w] P=P (.dk false) (.dict [(.str a,u),(.str b,v),(.str c,w)]):=by
 have e:IW [(.str a,u),(.str b,v),(.str c,w)]=[(.str a,u),(.str b,v),(.str c,w)]:=by
  have n1:PyData.str a≠.str b:=fun z=>h1 (PyData.str.inj z)
  have n2:PyData.str a≠.str c:=fun z=>h2 (PyData.str.inj z)
  have n3:PyData.str b≠.str c:=fun z=>h3 (PyData.str.inj z)
  simp [IW,putD,n1,n2,n3]
 unfold jE
 refine propext ⟨?_,?_⟩
 ·rintro ⟨kvs,z,h1,h2,h⟩
  cases z
  rw [e] at h
  exact h
 ·intro h
  exact ⟨_,rfl,rfl,Nat.le_of_ble_eq_true rfl,by rw [e];exact h⟩
end Dv
namespace PB
open PySem L2 Dv
noncomputable def gD:DS:=aC (lP [1,2] (bE 0)) (aC (aV 3 (nC sizeLine [6] (iT kE [.pk 1]) (.nm 6) (eo) (ah eT []))) (aC (f9 (iE (bE 2)) (.tp [4,5]) (aC (fH (pM dW 3 (bE 4) 5)) (fH (pM dW 3 (bE 5) 4)))) (ji 3)))
noncomputable def gx:DS:=eU (wB (cA (kT (fun i j=>decide (i<=j)) (fun i j=>decide (i < j)) (dC (.int 0)) (bE 1) (ah aI [.pk 0,.ev (dC (.int 0))])))) (mW "NoPlace") (f7)
noncomputable def kN:DS:=aC (lP [2,3] (bE 0)) (aC (aV 4 (zZ (cA (ah jU [.pk 1,.ev (dC (.str "ties"))])) (ah eT []) (ah iu [.pk 2]))) (aC (aV 5 (zZ (cA (ah jU [.pk 1,.ev (dC (.str "places"))])) (ah eT []) (ah iM [.pk 3]))) (cJ (ah fj [.pk 4,.pk 5]))))
noncomputable def kK:DS:=aC (aV 2 (ah pF [.ev (dC (.int 1))])) (aC (f9 (iE (bE 1)) (.nm 3) (aC (eU (wB (cA (kT (fun i j=>decide (i < j)) (fun i j=>decide (i < j)) (bE 2) (bE 3) (ah aI [.pk 0,.ev (dC (.int 0))])))) (cJ (dC (.bool false))) (f7)) (aV 2 (bE 3)))) (cJ (dC (.bool true))))
noncomputable def fG (sp_are_looks:bW):DS:=eU (wB (cA (aX sp_are_looks [false,false] [.pk 0,.pk 1]))) (mW "NoLooks") (f7)
noncomputable def nA:DS:=aC (lP [1,2] (bE 0)) (cJ (ah jU [.ev (ah cS [.pk 2]),.ev (ah kO [.pk 1,.ev (dC (.int 1))])]))
noncomputable def gS (sp_is_tree:bW):DS:=eU (wB (cA (aX sp_is_tree [false] [.pk 0]))) (mW "NoTree") (f7)
noncomputable def ja:DS:=aC (aV 3 (ah eT [])) (aC (aV 4 (ah eT [.ev (ah iZ [.pk 1,.pk 2])])) (aC (mL (xH 4) (aC (lP [5,6] (nE rJ 4 [])) (aC (fH (nE dW 3 [bE 6])) (uN sizeLine 4 (bV [7] (iE (ah aI [.pk 0,.pk 6])) (.nm 7) (cA (ah mz [.pk 7,.pk 5])) (b7 sizeLine (ah iZ [.pk 6,.pk 7]))))))) (cJ (ah jr [.pk 3]))))
noncomputable def kJ (sp_refuse_no_tree sp_refuse_no_place sp_neighbour_lists sp_piece_behind:bW):DS:=aC (fH (aX sp_refuse_no_tree [false] [.pk 0])) (aC (fH (aX sp_refuse_no_place [false,false] [.pk 0,.pk 1])) (aC (aV 2 (aX sp_neighbour_lists [false] [.pk 0])) (cJ (bV [3] (iE (ah aI [.pk 2,.pk 1])) (.nm 3) (eo) (b7 sizeLine (aX sp_piece_behind [false,false,false] [.pk 2,.pk 1,.pk 3]))))))
noncomputable def gr (sp_pieces_at:bW):DS:=cJ (ah jr [.ev (bV [3] (iE (aX sp_pieces_at [false,false] [.pk 0,.pk 2])) (.nm 3) (eo) (b7 sizeLine (ah cS [.ev (bV [4] (iE (bE 1)) (.nm 4) (cA (ah (gX false) [.pk 4,.pk 3])) (b7 sizeLine (bE 4)))])))])
noncomputable def iA (sp_refuse_no_tree sp_refuse_wrong_looks sp_things_of sp_looks_in_pieces:bW):DS:=aC (fH (aX sp_refuse_no_tree [false] [.pk 0])) (aC (fH (aX sp_refuse_wrong_looks [false,false] [.pk 0,.pk 1])) (aC (eU (cA (ah sG [.ev (ah cS [.ev (aX sp_things_of [false,false] [.pk 0,.pk 2])]),.ev (dC (.int 2))])) (cJ (dC .none)) (f7)) (aC (aV 3 (bV [4] (iT kE [.ev (ah aI [.pk 0,.ev (dC (.int 0))])]) (.nm 4) (eo) (b7 sizeLine (aX sp_looks_in_pieces [false,false,false] [.pk 0,.pk 1,.pk 4])))) (aC (eU (cA (ah jU [.pk 2,.ev (dC (.str "all"))])) (cJ (ah qB [.ev (bV [4] (iE (bE 3)) (.nm 4) (eo) (b7 sizeLine (ah aI [.pk 4,.ev (dC (.int 0))])))])) (f7)) (cJ (ah tZ [.ev (bV [4] (iE (bE 3)) (.nm 4) (cA (ah xU [.ev (ah cS [.pk 4]),.ev (dC (.int 1))])) (b7 sizeLine (ah fj [.ev (ah aI [.pk 4,.ev (dC (.int 0))]),.ev (ah aI [.pk 4,.ev (dC (.int 1))])]))),.ev (ah cS [.pk 1])]))))))
end PB
namespace Dv
open PySem L2
/-! ### loops and comprehensions,by what is gone through -/
def A4 (xs:List PyData)(tg:Tg)(b:DS)(D:bY)(E1:En):Prop:=∃ I:Nat->En->Prop,I 0 E1/\(∀ i d E,xs[i]?=some d->I i E->∃ E2,cH tg d E=some E2/\b { D with nx:=I (i + 1) } E2)/\∀ E,I xs.length E->D.nx E
def uJ (cs:List Nat)(xs:List PyData)(tg:Tg)(c:DT)(r:DC)(E1:En)(Q:En->Kd->PyData->Prop):Prop:=∃ (E0:En)(I:Nat->List PyData->En->Prop),bg cs E1=some E0/\I 0 [] E0/\(∀ i d ys E,xs[i]?=some d->I i ys E->∃ E2,cH tg d E=some E2/\c xF E2 fun E3 b=>if b=true then r xF ys E3 (I (i + 1)) else I (i + 1) ys E3)/\∀ ys E,I xs.length ys E->∃ E2,bg cs E=some E2/\Q E2 (.ow false) (.list ys)
def Ku (most:Nat)(cs:List Nat)(xs:List PyData)(tg:Tg)(c:DT)(e:DE)(E1:En)(Q:En->Kd->PyData->Prop):Prop:=∃ (E0:En)(I:Nat->List PyData->En->Prop),bg cs E1=some E0/\I 0 [] E0/\(∀ i d ys E,xs[i]?=some d->I i ys E->∃ E2,cH tg d E=some E2/\c xF E2 fun E3 b=>if b=true then e xF E3 (fun E4 k v=>(∃ p,k=.ow p)/\ys.length < most/\I (i + 1) (ys++[v]) E4) else I (i + 1) ys E3)/\∀ ys E,I xs.length ys E->∃ E2,bg cs E=some E2/\Q E2 (.dp false) (.list ys)
def Ly (xs:List PyData)(tg:Tg)(c:DT)(r:DC)(x:XC)(ys:List PyData)(E1:En)(Q:List PyData->En->Prop):Prop:=∃ I:Nat->List PyData->En->Prop,I 0 ys E1/\(∀ i d ys E,xs[i]?=some d->I i ys E->∃ E2,cH tg d E=some E2/\c x E2 fun E3 b=>if b=true then r x ys E3 (I (i + 1)) else I (i + 1) ys E3)/\∀ ys E,I xs.length ys E->Q ys E
theorem dy :
 (∀ {it:DI}{tg:Tg}{b:DS}{D:bY}{o:Option (Kd×PyData)}{E:En},f9 it tg b D (o::E)=it D.xc (o::E) fun E1 xs=>A4 xs tg b D E1) /\
 (∀ {cs:List Nat}{it:DI}{tg:Tg}{c:DT}{r:DC}{x:XC}{o:Option (Kd×PyData)}{E:En}{Q:En->Kd->PyData->Prop},bV cs it tg c r x (o::E) Q=it x (o::E) fun E1 xs=>uJ cs xs tg c r E1 Q) /\
 (∀ {most:Nat}{cs:List Nat}{it:DI}{tg:Tg}{c:DT}{e:DE}{x:XC}{o:Option (Kd×PyData)}{E:En}{Q:En->Kd->PyData->Prop},nC most cs it tg c e x (o::E) Q=it x (o::E) fun E1 xs=>Ku most cs xs tg c e E1 Q) /\
 (∀ {it:DI}{tg:Tg}{c:DT}{r:DC}{x:XC}{ys:List PyData}{o:Option (Kd×PyData)}{E:En}{Q:List PyData->En->Prop},LC it tg c r x ys (o::E) Q=it x (o::E) fun E1 xs=>Ly xs tg c r x ys E1 Q):=⟨rfl,rfl,rfl,rfl⟩
theorem Ej {a b:DS}{D:bY}{E:En}(h:aC a b D E):qT a b D E:=⟨b D,h,fun _ z=>z⟩
theorem rT {i:Nat}{z:Option (Kd×PyData)}:∀ {cs:List Nat}{E E0:En},i∉cs->bg cs (E.set i none)=some E0->bg cs (E.set i z)=some (E0.set i z)
 | [],E,E0,_,h=>by
  have h:E.set i none=E0:=Option.some.inj h
  show some _=some _
  rw [<- h,List.set_set]
 | c::cs,E,E0,n,h=>by
  have nc:i≠c:=fun e=>n (e ▸ List.mem_cons_self)
  have ns:i∉cs:=fun m=>n (List.mem_cons_of_mem _ m)
  have ho:∀ y:Option (Kd×PyData),cy (E.set i y) c=cy E c:=fun y=>by
   unfold cy
   rw [List.getElem?_set_ne nc]
  unfold bg at h ⊢
  rw [ho] at h ⊢
  split at h
  ·rename_i hc
   rw [if_pos hc]
   rw [List.set_comm _ _ nc] at h ⊢
   exact rT ns h
  ·cases h
theorem vI:∀ {cs:List Nat}{ds:List PyData}{E E' E0:En},cs.Nodup->bg cs E=some E0->bg cs E'=some E0->b8 cs ds E=b8 cs ds E'
 | [],ds,E,E',E0,_,h,h'=>by
  have h:E=E0:=Option.some.inj h
  have h':E'=E0:=Option.some.inj h'
  rw [h,h']
 | c::cs,[],E,E',E0,_,h,h'=>rfl
 | c::cs,d::ds,E,E',E0,nd,h,h'=>by
  have n1:=(List.nodup_cons.mp nd).1
  unfold bg at h h'
  unfold b8
  split at h
  ·rename_i hc
   split at h'
   ·rename_i hc'
    rw [if_pos hc,if_pos hc']
    exact vI (List.nodup_cons.mp nd).2 (rT n1 h) (rT n1 h')
   ·cases h'
  ·cases h
theorem wN {cs:List Nat}{ds:List PyData}{E E' E0:En}(nd:jY cs=true)(h:bg cs E=some E0)(h':bg cs E'=some E0):b8 cs ds E=b8 cs ds E':=vI (ie nd) h h'
theorem oZ {tg:Tg}{cs:List Nat}{d:PyData}{E E' E0:En}(hs:tg.slots=cs)(nd:jY cs=true)(h:bg cs E=some E0)(h':bg cs E'=some E0):cH tg d E=cH tg d E':=by
 subst hs
 cases tg with
 | nm i=>exact wN nd h h'
 | tp is =>
  cases d with
  | tuple ds=>exact wN nd h h'
  | _=>rfl
theorem jI:∀ {cs:List Nat}{E E0:En},cs.Nodup->bg cs E=some E0->bg cs E0=some E0/\∀ c∈cs,E0[c]?=some none
 | [],E,E0,_,h=>⟨rfl,fun _ z=>by cases z⟩
 | c::cs,E,E0,nd,h=>by
  have n1:=(List.nodup_cons.mp nd).1
  have n2:=(List.nodup_cons.mp nd).2
  unfold bg at h
  split at h
  ·rename_i hc
   obtain ⟨h1,h2⟩:=jI n2 h
   have hlen:c < E.length:=by
    unfold cy at hc
    rcases Nat.lt_or_ge c E.length with z | z
    ·exact z
    ·rw [List.getElem?_eq_none z] at hc;cases hc
   have hcl:∀ {cs:List Nat}{E E0:En},c∉cs->bg cs E=some E0->E0[c]?=E[c]?:=by
    intro cs
    induction cs with
    | nil=>intro E E0 _ h;cases h;rfl
    | cons a cs ih =>
     intro E E0 n h
     unfold bg at h
     split at h
     ·rw [ih (fun m=>n (List.mem_cons_of_mem _ m)) h,List.getElem?_set_ne (fun e=>n (by rw [e];exact List.mem_cons_self))]
     ·cases h
   have e0:E0[c]?=some none:=by rw [hcl n1 h,List.getElem?_set_self hlen]
   refine ⟨?_,fun x hx=>?_⟩
   ·unfold bg
    rw [if_pos (by unfold cy;rw [e0])]
    have:E0.set c none=E0:=by
     refine List.ext_getElem? fun j=>?_
     by_cases e:c=j
     ·subst e
      have:c < E0.length:=by
       rcases Nat.lt_or_ge c E0.length with z | z
       ·exact z
       ·rw [List.getElem?_eq_none z] at e0;cases e0
      rw [List.getElem?_set_self this,e0]
     ·rw [List.getElem?_set_ne e]
    rw [this]
    exact h1
   ·cases hx with
    | head=>exact e0
    | tail _ m=>exact h2 x m
  ·cases h
theorem av {α:Type}{l:List α}{i:Nat}{a:α}(ha:l[i]?=some a):i < l.length:=by
 rcases Nat.lt_or_ge i l.length with z | z
 ·exact z
 ·rw [List.getElem?_eq_none z] at ha;cases ha
theorem take_snoc {α:Type}{l:List α}{i:Nat}{a:α}(ha:l[i]?=some a):l.take (i + 1)=l.take i++[a]:=by rw [List.take_add_one,ha];rfl
theorem zW {α:Type}{l:List α}{enc:α->PyData}{cs:List Nat}{tg:Tg}{e:DE}{most:Nat}{E1 E0:En}{Q:En->Kd->PyData->Prop}(g:α->PyData)(h0:bg cs E1=some E0)(h2:∀ a,a∈l->∀ I:En->PyData->Prop,(∀ E4,bg cs E4=some E0->I E4 (g a))->∃ E2,cH tg (enc a) E0=some E2/\e xF E2 (fun E4 k v=>(∃ p,k=.ow p)/\I E4 v))
  (h3:Q E0 (.dp false) (.list (l.map g)))(hl:l.length<=most)(hs:tg.slots=cs:=by rfl)(nd:jY cs=true:=by rfl):Ku most cs (l.map enc) tg eo e E1 Q:=by
 obtain ⟨hc0,_⟩:=jI (ie nd) h0
 refine ⟨E0,fun i ys E=>ys=(l.take i).map g/\bg cs E=some E0,h0,⟨rfl,hc0⟩,?_,?_⟩
 ·rintro i d ys E hd ⟨rfl,hE⟩
  rw [List.getElem?_map] at hd
  obtain ⟨a,ha,rfl⟩:=Option.map_eq_some_iff.mp hd
  have hi:=av ha
  obtain ⟨E2,hE2,hb⟩:=h2 a (List.mem_of_getElem? ha) (fun E4 v=>((l.take i).map g).length < most/\((l.take i).map g++[v]=(l.take (i + 1)).map g/\bg cs E4=some E0)) (fun E4 hE4=>by
   refine ⟨?_,?_,hE4⟩
   ·rw [List.length_map,List.length_take];omega
   ·rw [take_snoc ha,List.map_append];rfl)
  exact ⟨E2,(oZ hs nd hE hc0).trans hE2,hb⟩
 ·rintro ys E ⟨rfl,hE⟩
  rw [List.length_map,List.take_length]
  exact ⟨E0,hE,h3⟩
theorem n5 {α:Type}{l:List α}{enc:α->PyData}{tg:Tg}{b:DS}{D:bY}{E1:En}(I:Nat->En->Prop)(h0:I 0 E1)(hs:∀ i a E,l[i]?=some a->I i E->∃ E2,cH tg (enc a) E=some E2/\b { D with nx:=I (i + 1) } E2)(he:∀ E,I l.length E->D.nx E):A4 (l.map enc) tg b D E1:=by
 refine ⟨I,h0,fun i d E hd hi=>?_,by rw [List.length_map];exact he⟩
 rw [List.getElem?_map] at hd
 obtain ⟨a,ha,rfl⟩:=Option.map_eq_some_iff.mp hd
 exact hs i a E ha hi
theorem yb {α:Type}{l:List α}{enc:α->PyData}{cs:List Nat}{tg:Tg}{c:DT}{r:DC}{E1:En}{Q:En->Kd->PyData->Prop}(E0:En)(I:Nat->List PyData->En->Prop)(h0:bg cs E1=some E0)(h1:I 0 [] E0)(hs:∀ i a ys E,l[i]?=some a->I i ys E->∃ E2,cH tg (enc a) E=some E2/\c xF E2 fun E3 b=>if b=true then r xF ys E3 (I (i + 1)) else I (i + 1) ys E3)
  (he:∀ ys E,I l.length ys E->∃ E2,bg cs E=some E2/\Q E2 (.ow false) (.list ys)):uJ cs (l.map enc) tg c r E1 Q:=by
 refine ⟨E0,I,h0,h1,fun i d ys E hd hi=>?_,by rw [List.length_map];exact he⟩
 rw [List.getElem?_map] at hd
 obtain ⟨a,ha,rfl⟩:=Option.map_eq_some_iff.mp hd
 exact hs i a ys E ha hi
theorem z8 {n i k:Nat}(h:(List.range n)[i]?=some k):i < n/\k=i:=by
 have hi:=av h
 rw [List.length_range] at hi
 rw [List.getElem?_range hi] at h
 cases h
 exact ⟨hi,rfl⟩
theorem IL {n:Nat}{enc:Nat->PyData}{tg:Tg}{b:DS}{D:bY}{E1:En}(I:Nat->En->Prop)(h0:I 0 E1)(hs:∀ i E,i < n->I i E->∃ E2,cH tg (enc i) E=some E2/\b { D with nx:=I (i + 1) } E2)(he:∀ E,I n E->D.nx E):A4 ((List.range n).map enc) tg b D E1 :=
 n5 I h0 (fun i a E ha hi=>by obtain ⟨l,rfl⟩:=z8 ha;exact hs a E l hi) (by rw [List.length_range];exact he)
theorem EE {α:Type}{l:List α}{enc:α->PyData}{cs:List Nat}{tg:Tg}{e:DE}{most:Nat}{E1 E0:En}{Q:En->Kd->PyData->Prop}(S:En->Prop)(g:α->PyData)(h0:bg cs E1=some E0)(hS:S E0)(h2:∀ a,a∈l->∀ E0',S E0'->∀ I:En->PyData->Prop,(∀ E4 E5,bg cs E4=some E5->S E5->I E4 (g a))->∃ E2,cH tg (enc a) E0'=some E2/\e xF E2 (fun E4 k v=>k.fz=true/\I E4 v))
  (h3:∀ E0',S E0'->Q E0' (.ow false) (.list (l.map g)))(hl:l.length<=most)(hs:tg.slots=cs:=by rfl)(nd:jY cs=true:=by rfl):uJ cs (l.map enc) tg eo (b7 most e) E1 Q:=by
 obtain ⟨hc0,_⟩:=jI (ie nd) h0
 refine ⟨E0,fun i ys E=>ys=(l.take i).map g/\∃ E5,bg cs E=some E5/\S E5,h0,⟨rfl,E0,hc0,hS⟩,?_,?_⟩
 ·rintro i d ys E hd ⟨rfl,E5,hE,hS5⟩
  rw [List.getElem?_map] at hd
  obtain ⟨a,ha,rfl⟩:=Option.map_eq_some_iff.mp hd
  have hi:=av ha
  obtain ⟨hc5,_⟩:=jI (ie nd) hE
  obtain ⟨E2,hE2,hb⟩:=h2 a (List.mem_of_getElem? ha) E5 hS5 (fun E4 v=>((l.take i).map g).length < most/\((l.take i).map g++[v]=(l.take (i + 1)).map g/\∃ E5,bg cs E4=some E5/\S E5)) (fun E4 E6 hE4 hS6=>by
   refine ⟨?_,?_,E6,hE4,hS6⟩
   ·rw [List.length_map,List.length_take];omega
   ·rw [take_snoc ha,List.map_append];rfl)
  exact ⟨E2,(oZ hs nd hE hc5).trans hE2,hb⟩
 ·rintro ys E ⟨rfl,E5,hE,hS5⟩
  rw [List.length_map,List.take_length]
  exact ⟨E5,hE,h3 E5 hS5⟩
theorem Fj {α:Type}{l:List α}{enc:α->PyData}{cs:List Nat}{tg:Tg}{c:DT}{e:DE}{most:Nat}{E1 E0:En}{Q:En->Kd->PyData->Prop}(S:En->Prop)(g:α->Option PyData)(h0:bg cs E1=some E0)(hS:S E0)(h2:∀ a,a∈l->∀ E0',S E0'->∀ I:En->Option PyData->Prop,(∀ E4 E5,bg cs E4=some E5->S E5->I E4 (g a))->∃ E2,cH tg (enc a) E0'=some E2/\c xF E2 fun E3 b=>if b=true then e xF E3 (fun E4 k v=>k.fz=true/\I E4 (some v)) else I E3 none)
  (h3:∀ E0',S E0'->Q E0' (.ow false) (.list (l.filterMap g)))(hl:l.length<=most)(hs:tg.slots=cs:=by rfl)(nd:jY cs=true:=by rfl):uJ cs (l.map enc) tg c (b7 most e) E1 Q:=by
 obtain ⟨hc0,_⟩:=jI (ie nd) h0
 refine ⟨E0,fun i ys E=>ys=(l.take i).filterMap g/\∃ E5,bg cs E=some E5/\S E5,h0,⟨rfl,E0,hc0,hS⟩,?_,?_⟩
 ·rintro i d ys E hd ⟨rfl,E5,hE,hS5⟩
  rw [List.getElem?_map] at hd
  obtain ⟨a,ha,rfl⟩:=Option.map_eq_some_iff.mp hd
  have hi:=av ha
  obtain ⟨hc5,_⟩:=jI (ie nd) hE
  have hlen:((l.take i).filterMap g).length < most:=by
   have:=List.length_filterMap_le g (l.take i)
   rw [List.length_take] at this
   omega
  obtain ⟨E2,hE2,hb⟩:=h2 a (List.mem_of_getElem? ha) E5 hS5 (fun E4 o=>match o with
   | some v=>((l.take i).filterMap g).length < most/\((l.take i).filterMap g++[v]=(l.take (i + 1)).filterMap g/\∃ E5,bg cs E4=some E5/\S E5)
   | none=>(l.take i).filterMap g=(l.take (i + 1)).filterMap g/\∃ E5,bg cs E4=some E5/\S E5) (fun E4 E6 hE4 hS6=>by
   cases hg:g a with
   | none =>
    refine ⟨?_,E6,hE4,hS6⟩
    rw [take_snoc ha,List.filterMap_append,List.filterMap_cons,hg]
    exact (List.append_nil _).symm
   | some v =>
    refine ⟨hlen,?_,E6,hE4,hS6⟩
    rw [take_snoc ha,List.filterMap_append,List.filterMap_cons,hg]
    rfl)
  exact ⟨E2,(oZ hs nd hE hc5).trans hE2,hb⟩
 ·rintro ys E ⟨rfl,E5,hE,hS5⟩
  rw [List.length_map,List.take_length]
  exact ⟨E5,hE,h3 E5 hS5⟩
theorem gb {α:Type}{l:List α}{enc:α->PyData}{cs:List Nat}{tg:Tg}{e:DE}{most:Nat}{E1 E0:En}{Q:En->Kd->PyData->Prop}(g:α->PyData)(h0:bg cs E1=some E0)(h2:∀ a,a∈l->∀ I:En->PyData->Prop,(∀ E4,bg cs E4=some E0->I E4 (g a))->∃ E2,cH tg (enc a) E0=some E2/\e xF E2 (fun E4 k v=>k.fz=true/\I E4 v))
  (h3:Q E0 (.ow false) (.list (l.map g)))(hl:l.length<=most)(hs:tg.slots=cs:=by rfl)(nd:jY cs=true:=by rfl):uJ cs (l.map enc) tg eo (b7 most e) E1 Q :=
 EE (·=E0) g h0 rfl (fun a ha E0' e I hI=>by subst e;exact h2 a ha I fun E4 h=>hI E4 _ h rfl) (fun E0' e=>by subst e;exact h3) hl hs nd
theorem lD {α:Type}{l:List α}{enc:α->PyData}{cs:List Nat}{tg:Tg}{c:DT}{e:DE}{most:Nat}{E1 E0:En}{Q:En->Kd->PyData->Prop}(g:α->Option PyData)(h0:bg cs E1=some E0)(h2:∀ a,a∈l->∀ I:En->Option PyData->Prop,(∀ E4,bg cs E4=some E0->I E4 (g a))->∃ E2,cH tg (enc a) E0=some E2/\c xF E2 fun E3 b=>if b=true then e xF E3 (fun E4 k v=>k.fz=true/\I E4 (some v)) else I E3 none)
  (h3:Q E0 (.ow false) (.list (l.filterMap g)))(hl:l.length<=most)(hs:tg.slots=cs:=by rfl)(nd:jY cs=true:=by rfl):uJ cs (l.map enc) tg c (b7 most e) E1 Q :=
 Fj (·=E0) g h0 rfl (fun a ha E0' e I hI=>by subst e;exact h2 a ha I fun E4 h=>hI E4 _ h rfl) (fun E0' e=>by subst e;exact h3) hl hs nd
end Dv
namespace Dv
open PySem L2
/-! ### data by numbers -/
abbrev iD (n:Nat):PyData:=.int (n:Int)
abbrev nD (l:List Nat):PyData:=.list (l.map iD)
abbrev fX (e:Nat×Nat):PyData:=.tuple [iD e.1,iD e.2]
abbrev wD (m:Nat)(es:List (Nat×Nat)):PyData:=.tuple [iD m,.tuple (es.map fX)]
theorem Gp {n:Nat}:jD 0 n=(List.range n).map iD:=by
 unfold jD
 refine List.map_congr_left fun i _=>?_
 rw [Int.zero_add]
theorem HZ {n:Nat}:jD 1 n=(List.range n).map fun i=>iD (i + 1):=by
 unfold jD
 refine List.map_congr_left fun i _=>?_
 show PyData.int _=PyData.int _
 congr 1
 omega
theorem vz {xs:List PyData}{i:Nat}:dQ xs (i:Int)=xs[i]?:=by
 unfold dQ nh
 rw [if_pos (by omega)]
 split
 ·exact rfl
 ·rw [List.getElem?_eq_none (by omega)];rfl
theorem Ab {n i:Nat}(h:i < n):jB n (i:Int)=some i:=by
 unfold jB
 rw [if_pos (by omega),if_pos (by omega)]
 rfl
theorem EZ {n i:Nat}{Q:Nat->Prop}(h:i < n)(q:Q i):aS (jB n (i:Int)) Q:=by rw [Ab h];exact q
theorem qp {α β:Type}{o:Option α}{f:α->β}{Q:β->Prop}:aS (o.map f) Q=aS o fun a=>Q (f a):=by cases o <;> rfl
theorem nK {α:Type}{l:List α}{f:α->PyData}{i:Nat}{Q:PyData->Prop}:aS (dQ (l.map f) (i:Int)) Q=aS l[i]? fun a=>Q (f a):=by rw [vz,List.getElem?_map,qp]
theorem zU {α:Type}{l:List α}{f:α->PyData}{a:Nat}:cutD (l.map f) (some (a:Int)) none=(l.drop a).map f:=by
 unfold cutD
 have e1:HT.aO (l.map f).length 0 (some (a:Int))=min a (l.map f).length:=HT.oj _ _ a
 have e2:HT.aO (l.map f).length (l.map f).length none=(l.map f).length:=rfl
 rw [e1,e2,List.length_map,<- List.map_drop,<- List.map_take]
 congr 1
 rw [List.take_of_length_le (by rw [List.length_drop];omega)]
 rcases Nat.le_total a l.length with h | h
 ·rw [Nat.min_eq_left h]
 ·rw [Nat.min_eq_right h,List.drop_length,List.drop_of_length_le h]
theorem qy {α:Type}{l:List α}{f:α->PyData}{b:Nat}:cutD (l.map f) none (some (b:Int))=(l.take b).map f:=by
 unfold cutD
 have e1:HT.aO (l.map f).length (l.map f).length (some (b:Int))=min b (l.map f).length:=HT.oj _ _ b
 have e2:HT.aO (l.map f).length 0 none=0:=rfl
 rw [e1,e2,List.length_map,List.drop_zero,Nat.sub_zero,<- List.map_take]
 congr 1
 rcases Nat.le_total b l.length with h | h
 ·rw [Nat.min_eq_left h]
 ·rw [Nat.min_eq_right h,List.take_length,List.take_of_length_le h]
theorem u9 {α:Type}{l:List α}{f:α->PyData}{a b:Nat}:cutD (l.map f) (some (a:Int)) (some (b:Int))=((l.take b).drop a).map f:=by
 unfold cutD
 have e1:HT.aO (l.map f).length 0 (some (a:Int))=min a (l.map f).length:=HT.oj _ _ a
 have e2:HT.aO (l.map f).length (l.map f).length (some (b:Int))=min b (l.map f).length:=HT.oj _ _ b
 rw [e1,e2,List.length_map,<- List.map_drop,<- List.map_take]
 congr 1
 rw [List.drop_take]
 rcases Nat.le_total a l.length with h | h
 ·rw [Nat.min_eq_left h]
  rcases Nat.le_total b l.length with g | g
  ·rw [Nat.min_eq_left g]
  ·rw [Nat.min_eq_right g,List.take_of_length_le (by rw [List.length_drop];omega),List.take_of_length_le (by rw [List.length_drop];omega)]
 ·rw [Nat.min_eq_right h,List.drop_length,List.drop_of_length_le h,List.take_nil,List.take_nil]
theorem oW {α:Type}{l:List α}{f:α->PyData}:jj (l.map f)=l.zipIdx.map fun p=>.tuple [iD p.2,f p.1]:=by
 unfold jj
 rw [List.zipIdx_map,List.map_map]
 rfl
theorem zip_map {α β:Type}{l:List α}{m:List β}{f:α->PyData}{g:β->PyData}:((l.map f).zip (m.map g)).map (fun p=>PyData.tuple [p.1,p.2])=(l.zip m).map fun p=>.tuple [f p.1,g p.2]:=by
 rw [List.zip_map,List.map_map]
 rfl
theorem xQ {α:Type}{l:List α}{f:α->PyData}{Q:PyData->Prop}:aS (dQ (l.map f) 0) Q=aS l[0]? fun a=>Q (f a):=nK (i:=0)
theorem xD {α:Type}{l:List α}{f:α->PyData}{Q:PyData->Prop}:aS (dQ (l.map f) 1) Q=aS l[1]? fun a=>Q (f a):=nK (i:=1)
theorem cN {α:Type}{o:Option α}{a:α}{Q:α->Prop}(h:o=some a)(q:Q a):aS o Q:=by rw [h];exact q
theorem vm {a b:Nat}:(a:Int) % (b:Int)=((a % b:Nat):Int):=(Int.natCast_emod a b).symm
theorem vA {a b:Nat}:(a:Int) / (b:Int)=((a / b:Nat):Int):=(Int.natCast_ediv a b).symm
theorem xr {a b:Nat}:((a:Int) < (b:Int))=(a < b):=propext Int.ofNat_lt
theorem wI {a b:Nat}:((a:Int)<=(b:Int))=(a<=b):=propext Int.ofNat_le
theorem cast_eq {a b:Nat}:((a:Int)=(b:Int))=(a=b):=propext Int.ofNat_inj
theorem cast_pos {a:Nat}:((0:Int) < (a:Int))=(0 < a):=propext Int.natCast_pos
theorem Dt {a b:Nat}:(if b < a then (b:Int) else (a:Int))=((min a b:Nat):Int):=by split <;> omega
theorem De {a b:Nat}:(if a < b then (b:Int) else (a:Int))=((max a b:Nat):Int):=by split <;> omega
theorem DA {a b:Nat}:(if b > a then (b:Int) else (a:Int))=((max a b:Nat):Int):=by split <;> omega
theorem qI {ds:List PyData}:lf (.tuple ds)=ds.all lf:=rR ds
theorem wA {p:Bool}{ds:List PyData}:flat (.ow p) (.list ds)=ds.all lf:=rfl
theorem pS {α β:Type}{l:List α}{f:α->β}{p:β->Bool}:(l.map f).all p=l.all fun a=>p (f a):=by rw [List.all_map];rfl
theorem AU {α:Type}{l:List α}:(l.all fun _=>true)=true:=by rw [List.all_eq_true];exact fun _ _=>rfl
theorem yO {n:Nat}:lf (iD n)=true:=rfl
theorem uM {e:Nat×Nat}:lf (fX e)=true:=rfl
theorem DW {m:Nat}{es:List (Nat×Nat)}:lf (wD m es)=true:=by
 rw [qI]
 show (lf (iD m) && (lf (.tuple (es.map fX)) && true))=true
 rw [qI,pS]
 simp [yO,uM]
theorem Ky:type_of% @qI/\type_of% @wA/\type_of% @pS/\type_of% @AU/\type_of% @yO/\type_of% @uM/\type_of% @DW/\(decide True=true)/\(∀ {ds:List PyData},lf (.list ds)=false)/\(∀ {α:Type}{l m:List α}{p:α->Bool},(l++m).all p=(l.all p && m.all p)):=⟨@qI,@wA,@pS,@AU,@yO,@uM,@DW,rfl,rfl,(by intros;exact List.all_append)⟩
theorem dz:(type_of% Ky)/\type_of% @Gp/\type_of% @HZ/\type_of% @nK/\type_of% @xQ/\type_of% @xD/\type_of% @qp/\type_of% @zU/\type_of% @qy/\type_of% @u9/\type_of% @oW/\type_of% @zip_map/\type_of% @vm/\type_of% @vA/\type_of% @xr/\type_of% @wI/\type_of% @cast_eq/\type_of% @cast_pos/\type_of% @cj/\type_of% @Dt/\type_of% @De/\type_of% @DA /\
 (∀ {α β:Type}{f:α->β}{l:List α},(l.map f).length=l.length)/\(∀ {n:Nat},(List.range n).length=n)/\(∀ {n:Nat},(n:Int).toNat=n) :=
 ⟨Ky,@Gp,@HZ,@nK,@xQ,@xD,@qp,@zU,@qy,@u9,@oW,@zip_map,@vm,@vA,@xr,@wI,@cast_eq,@cast_pos,@cj,@Dt,@De,@DA,(by intros;exact List.length_map ..),(by intros;exact List.length_range),(by intros;exact Int.toNat_natCast _)⟩
end Dv
namespace Dv
open PySem L2
/-! ### built-ins on lists of natural numbers -/
theorem gJ {α β:Type}(f:α->β){l:List α}:∀ {m:List β},m.Perm (l.map f)->∃ l':List α,l'.Perm l/\m=l'.map f:=by
 have:∀ {a b:List β},a.Perm b->∀ l:List α,b=l.map f->∃ l':List α,l'.Perm l/\a=l'.map f:=by
  intro a b h
  induction h with
  | nil=>intro l e;exact ⟨l,.refl _,e⟩
  | cons x _ ih =>
   intro l e
   cases l with
   | nil=>cases e
   | cons y l =>
    rw [List.map_cons,List.cons.injEq] at e
    obtain ⟨l',p,e'⟩:=ih l e.2
    exact ⟨y::l',p.cons _,by rw [e.1,e',List.map_cons]⟩
  | swap x y z =>
   intro l e
   match l,e with
   | [],e=>cases e
   | [_],e=>rw [List.map_cons,List.cons.injEq] at e;cases e.2
   | u::v::l,e =>
    rw [List.map_cons,List.map_cons,List.cons.injEq,List.cons.injEq] at e
    exact ⟨v::u::l,List.Perm.swap _ _ _,by rw [List.map_cons,List.map_cons,e.1,e.2.1,e.2.2]⟩
  | trans _ _ ih1 ih2 =>
   intro l e
   obtain ⟨l1,p1,e1⟩:=ih2 l e
   obtain ⟨l2,p2,e2⟩:=ih1 l1 e1
   exact ⟨l2,p2.trans p1,e2⟩
 intro m h
 exact this h l rfl
theorem nQ {ns:List Nat}{P:Kd->PyData->Prop}(h:ns.length < 64)(q:∀ ms:List Nat,ms.Perm ns->ms.Pairwise (·<=·)->P (.ow false) (nD ms)):jr [nD ns] P:=by
 refine ⟨ns.map (fun n:Nat=>(n:Int)),by rw [List.map_map];rfl,by rw [List.length_map];exact h,fun ms p s=>?_⟩
 obtain ⟨l,hl,rfl⟩:=gJ _ p
 rw [List.pairwise_map] at s
 have:=q l hl (List.Pairwise.imp (S:=(·<=·)) (fun {a b} h=>by omega) s)
 rw [List.map_map]
 exact this
theorem Eo {ps:List (Nat×Nat)}{P:Kd->PyData->Prop}(h:ps.length<=1000)(q:∀ qs:List (Nat×Nat),qs.Perm ps->P (.ow false) (.list (qs.map fX))):qz [.list (ps.map fX)] P:=by
 refine ⟨ps.map (fun e:Nat×Nat=>((e.1:Int),(e.2:Int))),by rw [List.map_map];rfl,by rw [List.length_map];exact h,fun ms p=>?_⟩
 obtain ⟨l,hl,rfl⟩:=gJ _ p
 have:=q l hl
 rw [List.map_map]
 exact this
theorem DP:∀ {ns:List Nat},(ns.map (fun n:Nat=>(n:Int))).sum=((ns.sum:Nat):Int)
 | []=>rfl
 | n::ns=>by rw [List.map_cons,List.sum_cons,List.sum_cons,DP,Int.natCast_add]
theorem Io {ns:List Nat}{P:Kd->PyData->Prop}(q:P .sh (iD ns.sum)):yU [nD ns] P:=⟨ns.map (fun n:Nat=>(n:Int)),by rw [List.map_map];rfl,by rw [DP];exact q⟩
theorem wH {ns:List Nat}{P:Kd->PyData->Prop}(h:ns≠[])(q:∀ m:Nat,m∈ns->(∀ n∈ns,m<=n)->P .sh (iD m)):qB [nD ns] P:=by
 refine ⟨ns.map (fun n:Nat=>(n:Int)),by rw [List.map_map];rfl,fun e=>h (List.map_eq_nil_iff.mp e),fun M hM le=>?_⟩
 obtain ⟨m,hm,rfl⟩:=List.mem_map.mp hM
 exact q m hm fun n hn=>by have:=le _ (List.mem_map.mpr ⟨n,hn,rfl⟩);omega
theorem EV {ns:List Nat}{d:PyData}{P:Kd->PyData->Prop}(h:ns=[]->P .sh d)(q:∀ m:Nat,m∈ns->(∀ n∈ns,m<=n)->P .sh (iD m)):tZ [nD ns,d] P:=by
 refine ⟨ns.map (fun n:Nat=>(n:Int)),d,by rw [List.map_map];rfl,fun e=>h (List.map_eq_nil_iff.mp e),fun M hM le=>?_⟩
 obtain ⟨m,hm,rfl⟩:=List.mem_map.mp hM
 exact q m hm fun n hn=>by have:=le _ (List.mem_map.mpr ⟨n,hn,rfl⟩);omega
theorem jT {a b:Nat}:iD a=iD b↔a=b:=⟨fun h=>by cases h;rfl,fun h=>by rw [h]⟩
end Dv
namespace Gr
inductive R (E:Nat->Nat->Prop) (p:Nat):Nat->Nat->Prop
 | zero:R E p 0 p
 | step {d x y:Nat}:R E p d x->E x y->R E p (d + 1) y
def lC (E:Nat->Nat->Prop) (p x d:Nat):Prop:=R E p d x/\∀ e,e < d->¬ R E p e x
section
variable {E:Nat->Nat->Prop}{p:Nat}
theorem lC.eq {x d e:Nat}(h:lC E p x d)(g:lC E p x e):d=e:=by
 rcases Nat.lt_trichotomy d e with l | l | l
 ·exact absurd h.1 (g.2 d l)
 ·exact l
 ·exact absurd g.1 (h.2 e l)
theorem Az:∀ (n:Nat){x d:Nat},d<=n->R E p d x->∃ e,e<=d/\lC E p x e
 | 0,x,d,l,h=>by
  obtain rfl:d=0:=by omega
  exact ⟨0,Nat.le_refl _,h,fun e he=>absurd he (Nat.not_lt_zero e)⟩
 | n + 1,x,d,l,h=>by
  by_cases c:∃ e,e < d/\R E p e x
  ·obtain ⟨e,he,hr⟩:=c
   obtain ⟨e',h1,h2⟩:=Az n (show e<=n by omega) hr
   exact ⟨e',by omega,h2⟩
  ·exact ⟨d,Nat.le_refl _,h,fun e he hr=>c ⟨e,he,hr⟩⟩
open Classical in
noncomputable def dst (E:Nat->Nat->Prop) (p x:Nat):Nat:=if h:∃ d,lC E p x d then Classical.choose h else 0
theorem qE {x d:Nat}(h:lC E p x d):dst E p x=d:=by
 have h':∃ d,lC E p x d:=⟨d,h⟩
 unfold dst
 rw [dif_pos h']
 exact (Classical.choose_spec h').eq h
theorem Hh {x d:Nat}(h:R E p d x):lC E p x (dst E p x):=by
 obtain ⟨e,_,g⟩:=Az d (Nat.le_refl _) h
 rw [qE g]
 exact g
theorem R.trans {q:Nat}{d e x:Nat}(h:R E p d q)(g:R E q e x):R E p (d + e) x:=by
 induction g with
 | zero=>exact h
 | step _ s ih=>exact ih.step s
theorem R.head {q d x:Nat}(h:E p q)(g:R E q d x):R E p (1 + d) x:=R.trans (R.step .zero h) g
theorem R.symm (sy:∀ x y,E x y->E y x){d x:Nat}(h:R E p d x):R E x d p:=by
 induction h with
 | zero=>exact .zero
 | step _ s ih =>
  have:=R.head (sy _ _ s) ih
  rwa [Nat.add_comm] at this
structure mD (E:Nat->Nat->Prop) (p r:Nat)(f:Nat->Option Nat)(cY:List Nat):Prop where
 sound:∀ x d,f x=some d->lC E p x d
 upto:∀ x d,d<=r->R E p d x->∃ e,f x=some e
 low:∀ x d,f x=some d->d<=r
 cY:∀ x,x∈cY↔f x=some r
structure gO (E:Nat->Nat->Prop) (r:Nat)(f:Nat->Option Nat)(cY:List Nat)(g:Nat->Option Nat)(reached:List Nat):Prop where
 ext:∀ x d,f x=some d->g x=some d
 new:∀ x d,g x=some d->f x=some d\/(f x=none/\d=r + 1/\∃ h,h∈cY/\E h x)
 got:∀ x,x∈reached↔(f x=none/\g x=some (r + 1))
theorem mD.start:mD E p 0 (fun x=>if x=p then some 0 else none) [p]:=by
 refine ⟨fun x d h=>?_,fun x d l h=>?_,fun x d h=>?_,fun x=>?_⟩
 ·by_cases c:x=p
  ·rw [if_pos c] at h
   cases h
   rw [c]
   exact ⟨.zero,fun e he=>absurd he (Nat.not_lt_zero e)⟩
  ·rw [if_neg c] at h
   cases h
 ·obtain rfl:d=0:=by omega
  cases h
  exact ⟨0,if_pos rfl⟩
 ·by_cases c:x=p
  ·rw [if_pos c] at h
   cases h
   exact Nat.le_refl _
  ·rw [if_neg c] at h
   cases h
 ·rw [List.mem_singleton]
  constructor
  ·intro e
   exact if_pos e
  ·intro h
   by_cases c:x=p
   ·exact c
   ·rw [if_neg c] at h
    cases h
theorem gO.start {r:Nat}{f:Nat->Option Nat}{cY:List Nat}:gO E r f cY f []:=by
 refine ⟨fun x d h=>h,fun x d h=>.inl h,fun x=>?_⟩
 constructor
 ·intro h
  cases h
 ·rintro ⟨h1,h2⟩
  rw [h1] at h2
  cases h2
theorem gO.put {r:Nat}{f g:Nat->Option Nat}{cY reached:List Nat}{h y:Nat}(B:gO E r f cY g reached)(he:h∈cY)(hy:E h y)(n:g y=none):gO E r f cY (fun x=>if x=y then some (r + 1) else g x) (reached++[y]):=by
 have fy:f y=none:=by
  cases e:f y with
  | none=>rfl
  | some d =>
   rw [B.ext y d e] at n
   cases n
 refine ⟨fun x d e=>?_,fun x d e=>?_,fun x=>?_⟩
 ·by_cases c:x=y
  ·rw [c,fy] at e
   cases e
  ·show (if x=y then _ else _)=_
   rw [if_neg c]
   exact B.ext x d e
 ·by_cases c:x=y
  ·rw [if_pos c] at e
   cases e
   rw [c]
   exact .inr ⟨fy,rfl,h,he,hy⟩
  ·rw [if_neg c] at e
   exact B.new x d e
 ·rw [List.mem_append,List.mem_singleton,B.got x]
  constructor
  ·rintro (⟨h1,h2⟩ | rfl)
   ·refine ⟨h1,?_⟩
    by_cases c:x=y
    ·exact if_pos c
    ·show (if x=y then _ else _)=_
     rw [if_neg c]
     exact h2
   ·exact ⟨fy,if_pos rfl⟩
  ·rintro ⟨h1,h2⟩
   by_cases c:x=y
   ·exact .inr c
   ·rw [if_neg c] at h2
    exact .inl ⟨h1,h2⟩
theorem gO.none {r:Nat}{f g:Nat->Option Nat}{cY reached:List Nat}(B:gO E r f cY g reached){x:Nat}(h:g x=.none):f x=.none:=by
 cases e:f x with
 | none=>rfl
 | some d =>
  rw [B.ext x d e] at h
  cases h
theorem gO.at {r:Nat}{f g:Nat->Option Nat}{cY reached:List Nat}(B:gO E r f cY g reached)(A:mD E p r f cY){h:Nat}(he:h∈cY):g h=some r:=B.ext h r ((A.cY h).mp he)
theorem mD.next {r:Nat}{f g:Nat->Option Nat}{cY reached:List Nat}(A:mD E p r f cY)(B:gO E r f cY g reached)(all:∀ h,h∈cY->∀ x,E h x->g x≠none):mD E p (r + 1) g reached:=by
 refine ⟨fun x d e=>?_,fun x d l h=>?_,fun x d e=>?_,fun x=>?_⟩
 ·rcases B.new x d e with h | ⟨h1,rfl,h,he,hx⟩
  ·exact A.sound x d h
  ·have rh:=(A.sound h r ((A.cY h).mp he)).1
   refine ⟨rh.step hx,fun e he hr=>?_⟩
   obtain ⟨d,hd⟩:=A.upto x e (by omega) hr
   rw [h1] at hd
   cases hd
 ·by_cases c:d<=r
  ·obtain ⟨e,he⟩:=A.upto x d c h
   exact ⟨e,B.ext x e he⟩
  ·obtain rfl:d=r + 1:=by omega
   cases h with
   | @step _ y _ hy hyx =>
    obtain ⟨e,he⟩:=A.upto y r (Nat.le_refl _) hy
    have el:=A.low y e he
    by_cases ce:e=r
    ·have:=all y ((A.cY y).mpr (ce ▸ he)) x hyx
     cases e':g x with
     | none=>exact absurd e' this
     | some d=>exact ⟨d,rfl⟩
    ·obtain ⟨e',he'⟩:=A.upto x (e + 1) (by omega) ((A.sound y e he).1.step hyx)
     exact ⟨e',B.ext x e' he'⟩
 ·rcases B.new x d e with h | ⟨_,rfl,_⟩
  ·have:=A.low x d h
   omega
  ·exact Nat.le_refl _
 ·rw [B.got x]
  constructor
  ·exact fun h=>h.2
  ·intro h
   refine ⟨?_,h⟩
   rcases B.new x (r + 1) h with h' | ⟨h',_⟩
   ·have:=A.low x _ h'
    omega
   ·exact h'
theorem mD.done {r:Nat}{f:Nat->Option Nat}(A:mD E p r f []):∀ {d x:Nat},R E p d x->∃ e,f x=some e:=by
 intro d x h
 induction h with
 | zero=>exact A.upto p 0 (Nat.zero_le _) .zero
 | @step d x y _ hxy ih =>
  obtain ⟨e,he⟩:=ih
  have el:=A.low x e he
  have ne:e≠r:=fun c=>by
   have:=(A.cY x).mpr (c ▸ he)
   cases this
  exact A.upto y (e + 1) (by omega) ((A.sound x e he).1.step hxy)
theorem mD.val {r:Nat}{f:Nat->Option Nat}(A:mD E p r f []){x d:Nat}(h:R E p d x):f x=some (dst E p x):=by
 obtain ⟨e,he⟩:=A.done h
 rw [he,qE (A.sound x e he)]
end
def cnt (f:Nat->Option Nat):Nat->Nat
 | 0=>0
 | m + 1=>cnt f m + (if f m=none then 1 else 0)
theorem vG {f g:Nat->Option Nat}(h:∀ x,g x=none->f x=none):∀ m,cnt g m<=cnt f m
 | 0=>Nat.le_refl _
 | m + 1=>by
  have:=vG h m
  unfold cnt
  by_cases c:g m=none
  ·rw [if_pos c,if_pos (h m c)]
   omega
  ·rw [if_neg c]
   omega
theorem A8 {f g:Nat->Option Nat}(h:∀ x,g x=none->f x=none){y:Nat}(fy:f y=none)(gy:g y≠none):∀ m,y < m->cnt g m < cnt f m
 | 0,l=>absurd l (Nat.not_lt_zero _)
 | m + 1,l=>by
  unfold cnt
  by_cases c:y=m
  ·have:=vG h m
   rw [<- c,if_neg gy,if_pos fy,c]
   omega
  ·have:=A8 h fy gy m (by omega)
   by_cases c:g m=none
   ·rw [if_pos c,if_pos (h m c)]
    omega
   ·rw [if_neg c]
    omega
def aB (es:List (Nat×Nat)) (x y:Nat):Prop:=(x,y)∈es\/(y,x)∈es
theorem cz {es:List (Nat×Nat)} (x y:Nat)(h:aB es x y):aB es y x:=h.elim .inr .inl
def dD (m:Nat)(es:List (Nat×Nat)):Prop:=∀ p,p < m->∀ x,x < m->∃ d,R (aB es) p d x
theorem FJ {m:Nat}{es:List (Nat×Nat)}(h:∀ k,0 < k->k < m->∃ p,p < k/\(p,k)∈es):dD m es:=by
 have z:∀ n x,x < n->x < m->∃ d,R (aB es) x d 0:=by
  intro n
  induction n with
  | zero=>exact fun x h _=>absurd h (Nat.not_lt_zero _)
  | succ n ih =>
   intro x hx hm
   by_cases c:x=0
   ·rw [c]
    exact ⟨0,.zero⟩
   ·obtain ⟨q,hq,he⟩:=h x (by omega) hm
    obtain ⟨d,hd⟩:=ih q (by omega) (by omega)
    exact ⟨1 + d,R.head (.inr he) hd⟩
 intro p hp x hx
 obtain ⟨d,hd⟩:=z (p + 1) p (by omega) hp
 obtain ⟨e,he⟩:=z (x + 1) x (by omega) hx
 exact ⟨d + e,hd.trans (he.symm cz)⟩
theorem um {m:Nat}{es fs:List (Nat×Nat)}{nm:Nat->Nat}(h:dD m es)(onto:∀ x,x < m->∃ a,a < m/\nm a=x)(e:∀ a b,(a,b)∈es->aB fs (nm a) (nm b)):dD m fs:=by
 intro p hp x hx
 obtain ⟨a,ha,rfl⟩:=onto p hp
 obtain ⟨b,hb,rfl⟩:=onto x hx
 obtain ⟨d,hd⟩:=h a ha b hb
 have go:∀ {d b:Nat},R (aB es) a d b->R (aB fs) (nm a) d (nm b):=by
  intro d b hd
  induction hd with
  | zero=>exact .zero
  | step _ s ih =>
   refine R.step ih ?_
   rcases s with s | s
   ·exact e _ _ s
   ·exact cz _ _ (e _ _ s)
 exact ⟨d,go hd⟩
end Gr
namespace Gr
theorem ff:∀ (m:Nat)(l:List Nat),l.Nodup->(∀ x∈l,x < m)->l.length<=m
 | 0,[],_,_=>Nat.le_refl _
 | 0,x::_,_,h=>absurd (h x (List.mem_cons_self ..)) (Nat.not_lt_zero _)
 | m + 1,l,nd,h=>by
  have h1:(l.erase m).length<=m:=ff m (l.erase m) (nd.sublist (List.erase_sublist ..)) fun x hx=>by
   have:=(nd.mem_erase_iff.mp hx)
   have:=h x this.2
   omega
  have h2:l.length<=(l.erase m).length + 1:=by
   rw [List.length_erase]
   split <;> omega
  omega
def nb (x:Nat)(e:Nat×Nat):Option Nat:=if e.1=x then some e.2 else if e.2=x then some e.1 else none
def bO (es:List (Nat×Nat)) (x:Nat):List Nat:=es.filterMap (nb x)
theorem qV {x y:Nat}{e:Nat×Nat}(h:nb x e=some y):e=(x,y)\/e=(y,x):=by
 obtain ⟨a,b⟩:=e
 unfold nb at h
 by_cases c:a=x
 ·rw [if_pos c] at h
  cases h
  rw [c]
  exact .inl rfl
 ·rw [if_neg c] at h
  by_cases c2:b=x
  ·rw [if_pos c2] at h
   cases h
   rw [c2]
   exact .inr rfl
  ·rw [if_neg c2] at h
   cases h
theorem cF {es:List (Nat×Nat)}{x y:Nat}:y∈bO es x↔aB es x y:=by
 unfold bO
 rw [List.mem_filterMap]
 constructor
 ·rintro ⟨e,he,h⟩
  rcases qV h with rfl | rfl
  ·exact .inl he
  ·exact .inr he
 ·rintro (h | h)
  ·exact ⟨_,h,if_pos rfl⟩
  ·refine ⟨_,h,?_⟩
   show (if y=x then some x else if x=x then some y else none)=some y
   by_cases c:y=x
   ·rw [if_pos c,c]
   ·rw [if_neg c,if_pos rfl]
theorem wL {es fs:List (Nat×Nat)}{x:Nat}:bO (es++fs) x=bO es x++bO fs x:=List.filterMap_append ..
structure Good (m:Nat)(es:List (Nat×Nat)):Prop where
 lt:∀ e∈es,e.1 < e.2/\e.2 < m
 nd:es.Nodup
theorem Good.b9 {m:Nat}{es:List (Nat×Nat)}(g:Good m es){x y:Nat}(h:aB es x y):x < m/\y < m:=by
 rcases h with h | h
 ·have:x < y/\y < m:=g.lt _ h
  omega
 ·have:y < x/\x < m:=g.lt _ h
  omega
theorem Good.mZ {m:Nat}{es:List (Nat×Nat)}(g:Good m es) (x:Nat):(bO es x).Nodup:=by
 unfold bO List.Nodup
 rw [List.pairwise_filterMap]
 refine List.Pairwise.imp_of_mem ?_ g.nd
 intro a b ha hb ne y hy z hz e
 subst e
 rcases qV hy with rfl | rfl <;> rcases qV hz with rfl | rfl
 ·exact ne rfl
 ·have h1:x < y/\y < m:=g.lt _ ha
  have h2:y < x/\x < m:=g.lt _ hb
  omega
 ·have h1:y < x/\x < m:=g.lt _ ha
  have h2:x < y/\y < m:=g.lt _ hb
  omega
 ·exact ne rfl
theorem Good.jf {m:Nat}{es:List (Nat×Nat)}(g:Good m es) (x:Nat):(bO es x).length<=m:=ff m _ (g.mZ x) fun y hy=>(g.b9 (cF.mp hy)).2
theorem Good.perm {m:Nat}{es fs:List (Nat×Nat)}(p:fs.Perm es)(g:Good m es):Good m fs:=⟨fun e h=>g.lt e (p.mem_iff.mp h),p.nodup_iff.mpr g.nd⟩
theorem zx {m:Nat}{es fs:List (Nat×Nat)}(p:fs.Perm es)(h:dD m es):dD m fs:=um (nm:=id) h (fun x hx=>⟨x,hx,rfl⟩) fun a b h=>.inl (p.mem_iff.mpr h)
def tE (ms:List Nat)(e:Nat×Nat):Nat×Nat:=(min (ms.getD e.1 0) (ms.getD e.2 0),max (ms.getD e.1 0) (ms.getD e.2 0))
theorem getD_inj {ms:List Nat}(nd:ms.Nodup){a b:Nat}(ha:a < ms.length)(hb:b < ms.length)(e:ms.getD a 0=ms.getD b 0):a=b:=by
 rw [List.getD_eq_getElem?_getD,List.getD_eq_getElem?_getD,List.getElem?_eq_getElem ha,List.getElem?_eq_getElem hb] at e
 have e':ms[a]=ms[b]:=e
 rcases Nat.lt_trichotomy a b with l | l | l
 ·exact absurd e' (List.pairwise_iff_getElem.mp nd a b ha hb l)
 ·exact l
 ·exact absurd e'.symm (List.pairwise_iff_getElem.mp nd b a hb ha l)
theorem yq {m:Nat}{ps:List (Nat×Nat)}{ms:List Nat}(pm:ms.Perm (List.range m))(g:Good m ps):Good m (ps.map (tE ms)):=by
 have nd:ms.Nodup:=pm.nodup_iff.mpr List.nodup_range
 have ln:ms.length=m:=by rw [pm.length_eq,List.length_range]
 have lt:∀ a,a < m->ms.getD a 0 < m:=fun a ha=>by
  have h:a < ms.length:=by omega
  rw [List.getD_eq_getElem?_getD,List.getElem?_eq_getElem h]
  exact List.mem_range.mp (pm.mem_iff.mp (List.getElem_mem h))
 refine ⟨fun e he=>?_,?_⟩
 ·obtain ⟨⟨a,b⟩,hp,rfl⟩:=List.mem_map.mp he
  have h:a < b/\b < m:=g.lt _ hp
  have h1:=lt a (by omega)
  have h2:=lt b (by omega)
  have ne:ms.getD a 0≠ms.getD b 0:=fun e=>by
   have:=getD_inj nd (by omega) (by omega) e
   omega
  show min (ms.getD a 0) (ms.getD b 0) < max (ms.getD a 0) (ms.getD b 0)/\max (ms.getD a 0) (ms.getD b 0) < m
  omega
 ·refine List.Pairwise.map _ ?_ (List.Pairwise.imp_of_mem (S:=fun x y=>x≠y/\(x.1 < x.2/\x.2 < m)/\(y.1 < y.2/\y.2 < m)) (fun {a b} ha hb h=>⟨h,g.lt _ ha,g.lt _ hb⟩) g.nd)
  rintro ⟨a,b⟩ ⟨c,d⟩ ⟨ne,h1,h2⟩ e
  have h1:a < b/\b < m:=h1
  have h2:c < d/\d < m:=h2
  have e1:min (ms.getD a 0) (ms.getD b 0)=min (ms.getD c 0) (ms.getD d 0):=congrArg Prod.fst e
  have e2:max (ms.getD a 0) (ms.getD b 0)=max (ms.getD c 0) (ms.getD d 0):=congrArg Prod.snd e
  have e3:(ms.getD a 0=ms.getD c 0/\ms.getD b 0=ms.getD d 0)\/(ms.getD a 0=ms.getD d 0/\ms.getD b 0=ms.getD c 0):=by omega
  rcases e3 with ⟨p,q⟩ | ⟨p,q⟩
  ·have r1:=getD_inj nd (by omega) (by omega) p
   have r2:=getD_inj nd (by omega) (by omega) q
   subst r1
   subst r2
   exact ne rfl
  ·have r1:=getD_inj nd (by omega) (by omega) p
   have r2:=getD_inj nd (by omega) (by omega) q
   omega
theorem yJ {m:Nat}{ps:List (Nat×Nat)}{ms:List Nat}(pm:ms.Perm (List.range m))(h:dD m ps):dD m (ps.map (tE ms)):=by
 refine um (nm:=fun a=>ms.getD a 0) h (fun x hx=>?_) fun a b he=>?_
 ·obtain ⟨i,hi⟩:=List.getElem?_of_mem (pm.mem_iff.mpr (List.mem_range.mpr hx))
  have li:=(List.getElem?_eq_some_iff.mp hi).1
  rw [pm.length_eq,List.length_range] at li
  refine ⟨i,li,?_⟩
  show ms.getD i 0=x
  rw [List.getD_eq_getElem?_getD,hi]
  rfl
 ·have hm:tE ms (a,b)∈ps.map (tE ms):=List.mem_map.mpr ⟨_,he,rfl⟩
  show aB _ (ms.getD a 0) (ms.getD b 0)
  have e:tE ms (a,b)=(min (ms.getD a 0) (ms.getD b 0),max (ms.getD a 0) (ms.getD b 0)):=rfl
  rw [e] at hm
  rcases Nat.le_total (ms.getD a 0) (ms.getD b 0) with l | l
  ·rw [Nat.min_eq_left l,Nat.max_eq_right l] at hm
   exact .inl hm
  ·rw [Nat.min_eq_right l,Nat.max_eq_left l] at hm
   exact .inr hm
end Gr
namespace Gr
section
variable {E:Nat->Nat->Prop}{p:Nat}
theorem lC.pred {x d:Nat}(h:lC E p x (d + 1)):∃ y,lC E p y d/\E y x:=by
 obtain ⟨h1,h2⟩:=h
 cases h1 with
 | @step _ y _ hy hyx =>
  refine ⟨y,⟨hy,fun e he hr=>?_⟩,hyx⟩
  exact h2 (e + 1) (by omega) (hr.step hyx)
end
end Gr
namespace Gr
def fh:Nat->Nat
 | 0=>0
 | b + 1=>fh b + b
theorem ve {a b:Nat}(h:a<=b):fh a<=fh b:=by
 induction b with
 | zero =>
  obtain rfl:a=0:=by omega
  exact Nat.le_refl _
 | succ b ih =>
  by_cases c:a=b + 1
  ·rw [c]
   exact Nat.le_refl _
  ·exact Nat.le_trans (ih (by omega)) (Nat.le_add_right _ _)
theorem wM:∀ m,2 * fh m<=m * m
 | 0=>Nat.le_refl _
 | m + 1=>by
  have:=wM m
  show 2 * (fh m + m)<=(m + 1) * (m + 1)
  rw [Nat.mul_add,Nat.add_mul,Nat.mul_add]
  omega
def ix (e:Nat×Nat):Nat:=fh e.2 + e.1
theorem Ja {e f:Nat×Nat}(he:e.1 < e.2)(hf:f.1 < f.2)(h:ix e=ix f):e=f:=by
 obtain ⟨a,b⟩:=e
 obtain ⟨c,d⟩:=f
 unfold ix at h
 dsimp only at he hf h
 have key:∀ {a b c d:Nat},a < b->b < d->fh b + a < fh d + c:=fun {a b c d} h1 h2=>by
  have:=ve (a:=b + 1) (b:=d) (by omega)
  have e:fh (b + 1)=fh b + b:=rfl
  omega
 rcases Nat.lt_trichotomy b d with l | l | l
 ·have:=key (c:=c) he l
  omega
 ·subst l
  rw [show a=c by omega]
 ·have:=key (c:=a) hf l
  omega
theorem BF {m:Nat}{ps:List (Nat×Nat)}(g:Good m ps):2 * ps.length<=m * m:=by
 have h:=ff (fh m) (ps.map ix) ?_ ?_
 ·rw [List.length_map] at h
  have:=wM m
  omega
 ·unfold List.Nodup
  rw [List.pairwise_map]
  exact List.Pairwise.imp_of_mem (fun {e f} he hf ne h=>ne (Ja (g.lt e he).1 (g.lt f hf).1 h)) g.nd
 ·intro x hx
  obtain ⟨e,he,rfl⟩:=List.mem_map.mp hx
  have l:=g.lt e he
  have:=ve (a:=e.2 + 1) (b:=m) (by omega)
  have e2:fh (e.2 + 1)=fh e.2 + e.2:=rfl
  unfold ix
  omega
end Gr
namespace PB
open PySem L2 Dv
/-! ### places and how far they are -/
theorem D9 {α:Type}{m k:Nat}{f:Nat->α}{v:α}:((List.range m).map f).set k v=(List.range m).map fun i=>if i=k then v else f i:=by
 refine List.ext_getElem? fun j=>?_
 rw [List.getElem?_set,List.length_map,List.length_range,List.getElem?_map,List.getElem?_map]
 by_cases h:j < m
 ·rw [List.getElem?_range h]
  by_cases c:k=j
  ·subst c;rw [if_pos rfl,if_pos h];simp
  ·rw [if_neg c];simp [Ne.symm c]
 ·rw [List.getElem?_eq_none (by rw [List.length_range];omega)]
  by_cases c:k=j
  ·subst c;rw [if_pos rfl,if_neg h];rfl
  ·rw [if_neg c];rfl
theorem D5 {α:Type}{m k:Nat}{f:Nat->α}(h:k < m):((List.range m).map f)[k]?=some (f k):=by rw [List.getElem?_map,List.getElem?_range h];rfl
def KG (f:DM) (i n:Nat)(E1:En)(w:PyData)(Q:En->Kd->PyData->Prop):Prop:=∃ a p ds m es k d E2,w=.int a/\E1[i]?=some (some (.dp p,.list ds))/\jB ds.length a=some m/\ds[m]?=some (.list es)/\E1[n]?=some (some (k,d))/\i≠n/\cT E1 n=some E2/\f es [d] fun new v=>Q (E2.set i (some (.dp p,.list (ds.set m (.list new))))) .sh v
theorem qL {f:DM}{i n:Nat}{j:DE}{x:XC}{o:Option (Kd×PyData)}{E:En}{Q:En->Kd->PyData->Prop}:pM f i j n x (o::E) Q=(here (o::E) i=true/\j x (o::E) fun E1 _ w=>KG f i n E1 w Q):=rfl
theorem qg {i n a m:Nat}{p:Bool}{E:En}{g:Nat->List PyData}{d:PyData}{Q:En->Kd->PyData->Prop}(h1:E[i]?=some (some (.dp p,.list ((List.range m).map fun i=>.list (g i)))))(h2:E[n]?=some (some (.sh,d)))(ne:i≠n)(ha:a < m)(hs:(g a).length < 16777216)(q:Q (E.set i (some (.dp p,.list ((List.range m).map fun k=>.list (if k=a then g k++[d] else g k))))) .sh .none):KG dW i n E (iD a) Q:=by
 refine ⟨a,p,_,a,g a,.sh,d,E,rfl,h1,?_,D5 ha,h2,ne,?_,?_⟩
 ·rw [List.length_map,List.length_range];exact Ab ha
 ·have:=uP (E:=E) (is:=[n]) (by simp [kF,h2])
  unfold cU at this
  cases e:cT E n with
  | none=>rw [e] at this;cases this
  | some E2=>rw [e] at this;exact this
 ·refine ⟨hs,?_⟩
  show Q (E.set i (some (.dp p,.list (((List.range m).map fun i=>PyData.list (g i)).set a (.list (g a++[d])))))) .sh .none
  rw [D9]
  have e:((List.range m).map fun k=>if k=a then PyData.list (g a++[d]) else .list (g k))=(List.range m).map fun k=>PyData.list (if k=a then g k++[d] else g k):=by
   refine List.map_congr_left fun k _=>?_
   by_cases c:k=a
   ·rw [if_pos c,if_pos c,c]
   ·rw [if_neg c,if_neg c]
  rw [e]
  exact q
abbrev Bd (m:Nat)(es:List (Nat×Nat)):PyData:=.list ((List.range m).map fun i=>nD (Gr.bO es i))
def rP:bW:=fun ds Q x=>∃ m es,ds=[wD m es]/\m<=60/\Gr.Good m es/\Q [] (.dp false) (Bd m es)
theorem Ge:∀ ds Q x,rP ds Q x->gD (bH [false] Q x) (ini [false] ds++List.replicate 6 none):=by
 rintro _ Q x ⟨m,es,rfl,hm,gd,q⟩
 unfold gD
 simp only [dv,dw,dx,dy,dz,Nat.reduceBEq]
 rw [if_pos (by omega)]
 refine cN rfl (zW (fun _=>PyData.list []) rfl (fun a ha I hI=>?_) ?_ (by rw [List.length_range];omega))
 ·simp only [dv,dw,dx,dy,dz,Nat.reduceBEq]
  exact ⟨by omega,⟨false,rfl⟩,hI _ rfl⟩
 ·simp only [dv,dw,dx,dy,dz,Nat.reduceBEq]
  refine n5 (fun i E=>∃ o4 o5:Option (Kd×PyData),E=[some (.sh,wD m es),some (.sh,iD m),some (.sh,.tuple (es.map fX)),some (.dp false,Bd m (es.take i)),o4,o5,none]/\bG o4=true/\bG o5=true) ⟨none,none,rfl,rfl,rfl⟩ ?_ ?_
  ·rintro i ⟨a,b⟩ _ hi ⟨o4,o5,rfl,ho4,ho5⟩
   have hab:=gd.lt _ (List.mem_of_getElem? hi)
   have hab:a < b/\b < m:=hab
   simp only [dv,dw,dx,dy,dz,Nat.reduceBEq,ho4,ho5,qL]
   have hn:∀ k,(Gr.bO (es.take i) k).length < 1000:=fun k=>by
    have g2:Gr.Good m (es.take i):=⟨fun e he=>gd.lt e (List.mem_of_mem_take he),List.Sublist.nodup (List.take_sublist _ _) gd.nd⟩
    have:=g2.jf k
    omega
   refine qg (g:=fun k=>(Gr.bO (es.take i) k).map iD) rfl rfl (by omega) (by omega) (by rw [List.length_map];have:=hn a;omega) ?_
   simp only [dv,dw,dx,dy,dz,Nat.reduceBEq,ho4,ho5,qL]
   refine qg (g:=fun k=>if k=a then (Gr.bO (es.take i) k).map iD++[iD b] else (Gr.bO (es.take i) k).map iD) rfl rfl (by omega) (by omega) (by rw [if_neg (by omega),List.length_map];have:=hn b;omega) ?_
   refine ⟨some (.sh,iD a),some (.sh,iD b),?_,rfl,rfl⟩
   simp only [List.set_cons_succ,List.set_cons_zero]
   have e:∀ k,(if k=b then (if k=a then (Gr.bO (es.take i) k).map iD++[iD b] else (Gr.bO (es.take i) k).map iD)++[iD a] else if k=a then (Gr.bO (es.take i) k).map iD++[iD b] else (Gr.bO (es.take i) k).map iD)=(Gr.bO (es.take (i + 1)) k).map iD:=fun k=>by
    rw [take_snoc hi,Gr.wL,List.map_append]
    unfold Gr.bO
    rw [List.filterMap_cons,List.filterMap_nil]
    unfold Gr.nb
    simp only
    by_cases c:k=a
    ·subst c
     rw [if_neg (by omega),if_pos rfl,if_pos rfl]
     rfl
    ·by_cases c2:k=b
     ·subst c2
      rw [if_pos rfl,if_neg c,if_neg (Ne.symm c),if_pos rfl]
      rfl
     ·rw [if_neg c2,if_neg c,if_neg (Ne.symm c),if_neg (Ne.symm c2)]
      exact (List.append_nil _).symm
   rw [List.map_congr_left fun k _=>congrArg PyData.list (e k)]
  ·rintro _ ⟨o4,o5,rfl,ho4,ho5⟩
   rw [List.take_length]
   simp only [dv,dw,dx,dy,dz,Nat.reduceBEq]
   exact q
theorem xm {l:List Nat}{y:Nat}:nD (l++[y])=.list (l.map iD++[iD y]):=by
 show PyData.list ((l++[y]).map iD)=_
 rw [List.map_append]
 rfl
end PB
namespace PB
open PySem L2 Dv
structure gc (m:Nat)(es:List (Nat×Nat)):Prop where
 pos:1<=m
 le:m<=60
 gd:Gr.Good m es
 cn:Gr.dD m es
theorem gc.few {m:Nat}{es:List (Nat×Nat)}(W:gc m es):es.length<=1800:=by
 have h:=Gr.BF W.gd
 have:=Nat.mul_le_mul W.le W.le
 omega
noncomputable abbrev aR (es:List (Nat×Nat)) (p x:Nat):Nat:=Gr.dst (Gr.aB es) p x
def su:bW:=fun ds Q x=>∃ m es,∃ p:Int,ds=[wD m es,.int p]/\(0<=p/\p < m->Q [] .sh .none)/\(¬ (0<=p/\p < m)->x "NoPlace" .none)
theorem HD:∀ ds Q x,su ds Q x->gx (bH [false,false] Q x) (ini [false,false] ds++List.replicate 0 none):=by
 rintro _ Q x ⟨m,es,p,rfl,q,r⟩
 unfold gx
 simp only [dv,dw,dx,dy,dz,Nat.reduceBEq]
 split
 ·rename_i h
  split
  ·rename_i h2
   exact r fun z=>h2 z.2
  ·rename_i h2
   exact q ⟨h,Decidable.of_not_not h2⟩
 ·rename_i h
  exact r fun z=>h z.1
/-! things -/
abbrev Th:=Nat ⊕ (Nat×Nat)
def tP:Th->PyData
 | .inl x=>iD x
 | .inr e=>fX e
def TV (m:Nat):Th->Prop
 | .inl x=>x < m
 | .inr e=>e.1 < m/\e.2 < m
noncomputable def td (es:List (Nat×Nat)) (p:Nat):Th->Nat
 | .inl x=>aR es p x
 | .inr e=>min (aR es p e.1) (aR es p e.2)
def aK (k:Str) (m:Nat)(es:List (Nat×Nat)):List Th:=(if k="ties" then [] else (List.range m).map Sum.inl)++(if k="places" then [] else es.map Sum.inr)
theorem Cd {k:Str}{m:Nat}{es:List (Nat×Nat)}(g:Gr.Good m es):∀ t∈aK k m es,TV m t:=by
 intro t ht
 rcases List.mem_append.mp ht with h | h
 ·split at h
  ·cases h
  ·obtain ⟨x,hx,rfl⟩:=List.mem_map.mp h
   exact List.mem_range.mp hx
 ·split at h
  ·cases h
  ·obtain ⟨e,he,rfl⟩:=List.mem_map.mp h
   have:=g.lt e he
   exact ⟨by show e.1 < m;omega,this.2⟩
theorem sD {k:Str}{m:Nat}{es:List (Nat×Nat)}(W:gc m es):(aK k m es).length<=1860:=by
 unfold aK
 have:=W.few
 have:=W.le
 rw [List.length_append]
 split <;> split <;> simp <;> omega
def rY:bW:=fun ds Q x=>∃ m es k,ds=[wD m es,.str k]/\gc m es/\Q [] (.ow false) (.list ((aK k m es).map tP))
theorem Jd:∀ ds Q x,rY ds Q x->kN (bH [false,false] Q x) (ini [false,false] ds++List.replicate 4 none):=by
 rintro _ Q x ⟨m,es,k,rfl,W,q⟩
 have e:(aK k m es).map tP=(if k="ties" then [] else (List.range m).map iD)++(if k="places" then [] else es.map fX):=by
  unfold aK
  rw [List.map_append]
  congr 1
  ·split
   ·rfl
   ·rw [List.map_map];rfl
  ·split
   ·rfl
   ·rw [List.map_map];rfl
 have hm:=W.le
 have hf:=W.few
 unfold kN
 simp only [dv,dw,dx,dy,dz,Nat.reduceBEq]
 rw [e] at q
 by_cases c1:k="ties"
 ·by_cases c2:k="places"
  ·subst c1;exact absurd c2 (by decide)
  ·simp only [if_pos c1,if_neg c2,dv,dw,dx,dy,dz,Nat.reduceBEq] at q ⊢
   exact ⟨by omega,by omega,q⟩
 ·by_cases c2:k="places"
  ·simp only [if_neg c1,if_pos c2,dv,dw,dx,dy,dz,Nat.reduceBEq,List.append_nil] at q ⊢
   exact ⟨⟨by omega,by omega⟩,by omega,by omega,q⟩
  ·simp only [if_neg c1,if_neg c2,dv,dw,dx,dy,dz,Nat.reduceBEq] at q ⊢
   exact ⟨⟨by omega,by omega⟩,by omega,q⟩
/-! looks -/
def rising (l:List Nat):Prop:=l.Pairwise (· < ·)
theorem lM {l:List Nat}{m:Nat}(h:rising l)(lt:∀ x∈l,x < m):l.length<=m:=Gr.ff m l (h.imp fun h=>Nat.ne_of_lt h) lt
structure eF (m:Nat)(ls:List Nat):Prop where
 up:rising ls
 lt:∀ l∈ls,l < m
theorem eF.len {m:Nat}{ls:List Nat}(h:eF m ls):ls.length<=m:=lM h.up h.lt
def gK (m:Nat) (last:Int):List Int->Bool
 | []=>true
 | l::ls=>decide (last < l) && decide (l < m) && gK m l ls
def qO:bW:=fun ds Q x=>∃ m es,∃ ls:List Int,ds=[wD m es,.list (ls.map .int)]/\Q [] .sh (.bool (gK m (-1) ls))
theorem HH:∀ ds Q x,qO ds Q x->kK (bH [false,false] Q x) (ini [false,false] ds++List.replicate 2 none):=by
 rintro _ Q x ⟨m,es,ls,rfl,q⟩
 unfold kK
 simp only [dv,dw,dx,dy,dz,Nat.reduceBEq]
 refine n5 (fun i E=>∃ (last:Int)(o:Option (Kd×PyData)),E=[some (.sh,wD m es),some (.sh,.list (ls.map .int)),some (.sh,.int last),o]/\bG o=true/\gK m (-1) ls=gK m last (ls.drop i)) ⟨-1,none,rfl,rfl,rfl⟩ ?_ ?_
 ·rintro i l _ hi ⟨last,o,rfl,ho,e⟩
  have hd:ls.drop i=l::ls.drop (i + 1):=by
   rw [List.drop_eq_getElem_cons (av hi)]
   rw [List.getElem?_eq_getElem (av hi)] at hi
   rw [Option.some.inj hi]
  rw [hd,gK] at e
  simp only [dv,dw,dx,dy,dz,Nat.reduceBEq,ho]
  split
  ·rename_i h1
   split
   ·rename_i h2
    rw [e,decide_eq_false h2,Bool.and_false,Bool.false_and] at q
    exact q
   ·rename_i h2
    refine ⟨l,_,rfl,rfl,?_⟩
    rw [e,decide_eq_true h1,decide_eq_true (Decidable.of_not_not h2),Bool.true_and,Bool.true_and]
  ·rename_i h1
   rw [e,decide_eq_false h1,Bool.false_and,Bool.false_and] at q
   exact q
 ·rintro _ ⟨last,o,rfl,ho,e⟩
  rw [List.drop_length,gK] at e
  rw [e] at q
  simp only [dv,dw,dx,dy,dz,Nat.reduceBEq]
  exact q
theorem sY {m:Nat}:∀ {ls:List Nat}{last:Int},gK m last (ls.map fun n:Nat=>(n:Int))=true↔(ls.Pairwise (· < ·)/\(∀ l∈ls,l < m)/\∀ l∈ls,last < (l:Int))
 | [],last=>by simp [gK]
 | a::ls,last=>by
  rw [List.map_cons,gK,Bool.and_eq_true,Bool.and_eq_true,decide_eq_true_eq,decide_eq_true_eq,sY,List.pairwise_cons]
  constructor
  ·rintro ⟨⟨h1,h2⟩,h3,h4,h5⟩
   refine ⟨⟨fun b hb=>by have:=h5 b hb;omega,h3⟩,fun l hl=>?_,fun l hl=>?_⟩
   ·rcases List.mem_cons.mp hl with rfl | hl
    ·omega
    ·exact h4 l hl
   ·rcases List.mem_cons.mp hl with rfl | hl
    ·exact h1
    ·have:=h5 l hl;omega
  ·rintro ⟨⟨h1,h2⟩,h3,h4⟩
   have:=h3 a List.mem_cons_self
   exact ⟨⟨h4 a List.mem_cons_self,by omega⟩,h2,fun l hl=>h3 l (List.mem_cons_of_mem _ hl),fun l hl=>by have:=h1 l hl;omega⟩
theorem yX {m:Nat}{ls:List Nat}(h:eF m ls):gK m (-1) (ls.map fun n:Nat=>(n:Int))=true:=sY.mpr ⟨h.up,h.lt,fun l _=>by omega⟩
theorem EK {ls:List Nat}:nD ls=.list ((ls.map fun n:Nat=>(n:Int)).map .int):=by
 show PyData.list _=_
 rw [List.map_map]
 rfl
def pG:bW:=fun ds Q x=>∃ m es,∃ ls:List Int,ds=[wD m es,.list (ls.map .int)]/\(gK m (-1) ls=true->Q [] .sh .none)/\(gK m (-1) ls=false->x "NoLooks" .none)
theorem II:∀ ds Q x,pG ds Q x->fG qO (bH [false,false] Q x) (ini [false,false] ds++List.replicate 0 none):=by
 rintro _ Q x ⟨m,es,ls,rfl,q,r⟩
 unfold fG
 simp only [dv,dw,dx,dy,dz,Nat.reduceBEq]
 refine ⟨m,es,ls,rfl,?_⟩
 simp only [dv,dw,dx,dy,dz,Nat.reduceBEq]
 split
 ·rename_i h
  exact r h
 ·rename_i h
  exact q (by simpa using h)
theorem GV {m:Nat}{es:List (Nat×Nat)}{ls:List Nat}{Q:List PyData->Kd->PyData->Prop}{x:XC}(h:eF m ls)(q:Q [] .sh .none):pG [wD m es,nD ls] Q x:=⟨m,es,ls.map fun n:Nat=>(n:Int),by rw [EK],fun _=>q,fun z=>by rw [yX h] at z;cases z⟩
/-! codes -/
noncomputable def cL (es:List (Nat×Nat))(ls:List Nat)(t:Th):List Nat:=ls.map fun p=>td es p t
end PB
namespace PB
open PySem L2 Dv
/-! ### things asked for -/
/-! ### what is heard -/
def iS:List Nat->List Nat->Nat
 | a::as,b::bs=>(if a=b then 0 else 1) + iS as bs
 | _,_=>0
end PB
namespace PB
open PySem L2 Dv
def ng (cs:List (List Nat)):List Nat:=cs.zipIdx.flatMap fun p=>(cs.drop (p.2 + 1)).map fun o=>iS p.1 o
theorem j9 {cs:List (List Nat)}{n:Nat}:n∈ng cs↔∃ (i j:Nat)(a b:List Nat),i < j/\cs[i]?=some a/\cs[j]?=some b/\n=iS a b:=by
 unfold ng
 rw [List.mem_flatMap]
 constructor
 ·rintro ⟨⟨a,i⟩,h1,h2⟩
  obtain ⟨b,h3,rfl⟩:=List.mem_map.mp h2
  rw [List.mem_zipIdx_iff_getElem?] at h1
  obtain ⟨j,hj⟩:=List.mem_iff_getElem?.mp h3
  rw [List.getElem?_drop] at hj
  exact ⟨i,i + 1 + j,a,b,by omega,h1,hj,rfl⟩
 ·rintro ⟨i,j,a,b,l,h1,h2,rfl⟩
  refine ⟨(a,i),List.mem_zipIdx_iff_getElem?.mpr h1,List.mem_map.mpr ⟨b,?_,rfl⟩⟩
  refine List.mem_iff_getElem?.mpr ⟨j - (i + 1),?_⟩
  rw [List.getElem?_drop]
  show cs[i + 1 + (j - (i + 1))]?=_
  rw [show i + 1 + (j - (i + 1))=j from by omega]
  exact h2
def gP (cs:List (List Nat))(d:PyData):Prop:=(ng cs=[]/\d=.none)\/∃ s:Nat,d=iD s/\s∈ng cs/\∀ n∈ng cs,s<=n
theorem gW {α:Type}{f:α->PyData}{p:α->Bool}:∀ {l:List α},(l.filterMap fun t=>if p t=true then some (f t) else none)=(l.filter p).map f
 | []=>rfl
 | a::l=>by
  rw [List.filterMap_cons,List.filter_cons]
  cases h:p a with
  | true=>simp only [if_true];rw [gW];rfl
  | false=>simp only [if_neg (Bool.false_ne_true)];exact gW
end PB
namespace PB
open PySem L2 Dv
noncomputable def gQ:DS:=cJ (pC (ah (tB "int") [.pk 0]) (sr (ah (tB "bool") [.pk 0])))
noncomputable def g9:DS:=aC (aV 2 (ah iM [.ev (ah (kQ false true) [.pk 0,.pk 1])])) (aC (f9 (xK (ah (kQ true true) [.pk 0,.pk 1,.ev (dC (.int 63))])) (.tp [3,4]) (iL 2 (ah jz [.pk 3,.pk 1]) (ah fj [.ev (ah jA [.ev (ah aI [.pk 2,.ev (ah jz [.pk 3,.pk 1])]),.ev (dC (.int 31))]),.pk 4]))) (ji 2))
noncomputable def iO:DS:=aC (aV 2 (dC (.int 0))) (qT (eU (cA (ah xU [.ev (ah cS [.pk 0]),.ev (dC (.int 0))])) (aV 2 (ah fj [.ev (ah aI [.pk 0,.ev (ah jz [.pk 1,.ev (ah cS [.pk 0])])]),.ev (ah qX [.pk 1,.ev (ah cS [.pk 0])])])) (f7)) (aC (aV 3 (dC (.int 0))) (qT (eU (cA (uC (ah sG [.pk 2,.ev (dC (.int 0))]) (ah Gy [.pk 2,.ev (ah CB [.ev (dC (.int 10)),.ev (dC (.int 18))])]))) (aV 3 (ah vB [.pk 2])) (f7)) (cJ (ah eT [.pk 3,.ev (ah jz [.ev (ah fj [.ev (ah jA [.ev (ah jz [.pk 2,.ev (dC (.int 2147483629))]),.ev (dC (.int 69621))]),.ev (ah jA [.ev (ah jA [.ev (dC (.int 40009)),.ev (ah fj [.pk 1,.ev (dC (.int 1))])]),.ev (ah fj [.pk 1,.ev (dC (.int 3))])])]),.ev (dC (.int 2147483629))])])))))
noncomputable def iQ:DS:=aC (eU (cA (ah xU [.ev (ah aI [.pk 0,.ev (dC (.int 0))]),.ev (dC (.int 0))])) (aC (aV 2 (ah jz [.ev (ah aI [.pk 0,.ev (dC (.int 0))]),.pk 1])) (aC (iL 0 (dC (.int 0)) (ah qX [.ev (ah aI [.pk 0,.ev (dC (.int 0))]),.pk 1])) (ji 2))) (f7)) (aC (iL 0 (dC (.int 1)) (ah jz [.ev (ah fj [.ev (ah jA [.ev (ah aI [.pk 0,.ev (dC (.int 1))]),.ev (dC (.int 48271))]),.ev (dC (.int 12820163))]),.ev (dC (.int 2147483647))])) (cJ (ah jz [.ev (ah qX [.ev (ah jz [.ev (ah jA [.ev (ah jz [.ev (ah jA [.ev (ah aI [.pk 0,.ev (dC (.int 1))]),.ev (ah aI [.pk 0,.ev (dC (.int 1))])]),.ev (dC (.int 2147483629))]),.ev (dC (.int 69621))]),.ev (dC (.int 2147483587))]),.ev (dC (.int 8))]),.pk 1])))
noncomputable def ir (sp_law_take:bW):DS:=aC (aV 3 (ah iM [.pk 1])) (cJ (bV [4] (iT kE [.pk 2]) (.nm 4) (eo) (b7 sizeLine (nE rJ 3 [aX sp_law_take [true,false] [.pk 0,.ev (ah cS [.pk 3])]]))))
noncomputable def iK (sp_law_take sp_law_named:bW):DS:=aC (aV 2 (ah fj [.ev (dC (.int 1)),.ev (aX sp_law_take [true,false] [.pk 0,.pk 1])])) (aC (aV 3 (aX sp_law_take [true,false] [.pk 0,.ev (dC (.int 6))])) (aC (aV 4 (ah eT [])) (aC (f9 (iT AQ [.ev (dC (.int 1)),.pk 2]) (.nm 5) (aC (aV 6 (ah eT [.ev (ah kO [.pk 5,.ev (dC (.int 1))]),.ev (dC (.int 0)),.ev (aX sp_law_take [true,false] [.pk 0,.pk 5]),.ev (ah pY [.ev (dC (.int 0)),.ev (ah kO [.ev (ah kO [.pk 5,.ev (dC (.int 1))]),.ev (aX sp_law_take [true,false] [.pk 0,.ev (dC (.int 3))])])]),.ev (aX sp_law_take [true,false] [.pk 0,.ev (ah p9 [.pk 5,.ev (dC (.int 3))])])])) (fH (nE dW 4 [ah iZ [.ev (ah aI [.ev (ah fj [.pk 6,.ev (ah eT [.ev (ah qX [.ev (ah kO [.pk 5,.ev (dC (.int 1))]),.ev (dC (.int 2))])])]),.pk 3]),.pk 5]])))) (cJ (aX sp_law_named [true,false,false] [.pk 0,.pk 2,.pk 4])))))
noncomputable def gB (sp_law_some:bW):DS:=aC (aV 3 (aX sp_law_some [true,false,false] [.pk 0,.ev (ah iu [.pk 1]),.pk 1])) (cJ (ah iZ [.pk 1,.ev (ah jl [.ev (ah qz [.ev (bV [4,5] (iE (bE 2)) (.tp [4,5]) (eo) (b7 sizeLine (ah iZ [.ev (ah p9 [.ev (ah aI [.pk 3,.pk 4]),.ev (ah aI [.pk 3,.pk 5])]),.ev (ah pY [.ev (ah aI [.pk 3,.pk 4]),.ev (ah aI [.pk 3,.pk 5])])])))])])]))
noncomputable def gY (sp_law_take:bW):DS:=aC (aV 2 (aX sp_law_take [true,false] [.pk 0,.ev (dC (.int 6))])) (cJ (bV [3] (iT kE [.pk 1]) (.nm 3) (cA (ah sG [.ev (aX sp_law_take [true,false] [.pk 0,.ev (dC (.int 6))]),.ev (ah aI [.ev (ah eT [.ev (dC (.int 0)),.ev (dC (.int 1)),.ev (dC (.int 2)),.ev (dC (.int 3)),.ev (dC (.int 5)),.ev (dC (.int 6))]),.pk 2])])) (b7 sizeLine (bE 3))))
noncomputable def iz:DS:=aC (aV 1 (nC sizeLine [4] (iT kE [.ev (ah aI [.pk 0,.ev (dC (.int 0))])]) (.nm 4) (eo) (ah eT []))) (aC (f9 (iE (ah aI [.pk 0,.ev (dC (.int 1))])) (.tp [2,3]) (aC (fH (pM dW 1 (bE 2) 3)) (fH (pM dW 1 (bE 3) 2)))) (cJ (bV [4] (iE (bE 1)) (.nm 4) (eo) (b7 sizeLine (ah jr [.pk 4])))))
noncomputable def gR:DS:=aC (aV 2 (ah jE [.ev (bE 1),.ev (dC (.int 0))])) (aC (aV 3 (ah eT [.pk 1])) (aC (mL (cA (ah xU [.ev (ah cS [.pk 3]),.ev (dC (.int 0))])) (aC (aV 4 (ah eT [])) (aC (f9 (iE (bE 3)) (.nm 5) (f9 (iE (ah aI [.pk 0,.pk 5])) (.nm 6) (eU (cA (ah (gX true) [.pk 6,.pk 2])) (aC (iL 2 (bE 6) (ah fj [.ev (ah aI [.pk 2,.pk 5]),.ev (dC (.int 1))])) (fH (nE dW 4 [bE 6]))) (f7)))) (aV 3 (bE 4))))) (ji 2)))
noncomputable def iI:DS:=aC (eU (cA (ah (tB "tuple") [.pk 1])) (cJ (ah jl [.ev (bV [2] (iE (bE 0)) (.nm 2) (eo) (b7 sizeLine (ah p9 [.ev (ah aI [.pk 2,.ev (ah aI [.pk 1,.ev (dC (.int 0))])]),.ev (ah aI [.pk 2,.ev (ah aI [.pk 1,.ev (dC (.int 1))])])])))])) (f7)) (cJ (ah jl [.ev (bV [2] (iE (bE 0)) (.nm 2) (eo) (b7 sizeLine (ah aI [.pk 2,.pk 1])))]))
noncomputable def gw:DS:=aC (aV 2 (ah iu [.ev (ah aI [.pk 0,.ev (dC (.int 0))])])) (cJ (ah aI [.ev (ah jE [.ev (dC (.str "places")),.ev (bE 2),.ev (dC (.str "ties")),.ev (ah iM [.ev (ah aI [.pk 0,.ev (dC (.int 1))])]),.ev (dC (.str "all")),.ev (ah fj [.pk 2,.ev (ah iM [.ev (ah aI [.pk 0,.ev (dC (.int 1))])])])]),.pk 1]))
noncomputable def g8 (sp_law_near sp_law_steps sp_law_things sp_law_code:bW):DS:=aC (aV 3 (aX sp_law_near [false] [.pk 0])) (aC (aV 4 (bV [5] (iE (bE 1)) (.nm 5) (eo) (b7 sizeLine (aX sp_law_steps [false,false] [.pk 3,.pk 5])))) (cJ (bV [5] (iE (aX sp_law_things [false,false] [.pk 0,.pk 2])) (.nm 5) (eo) (b7 sizeLine (aX sp_law_code [false,false] [.pk 4,.pk 5])))))
noncomputable def gp:DS:=cJ (ah cS [.ev (bV [2] (iT kE [.ev (ah cS [.pk 0])]) (.nm 2) (cA (ah mz [.ev (ah aI [.pk 0,.pk 2]),.ev (ah aI [.pk 1,.pk 2])])) (b7 sizeLine (bE 2)))])
noncomputable def gU (sp_law_unlike:bW):DS:=aC (aV 1 (dC .none)) (aC (f9 (iT kE [.ev (ah cS [.pk 0])]) (.nm 2) (f9 (iE (ah (kQ false true) [.pk 0,.pk 2])) (.nm 3) (aC (aV 4 (aX sp_law_unlike [false,false] [.ev (ah aI [.pk 0,.pk 2]),.pk 3])) (eU (cA (uC (ah (eu false) [.pk 1,.ev (dC .none)]) (ah sG [.pk 4,.pk 1]))) (aV 1 (bE 4)) (f7))))) (ji 1))
noncomputable def fD:DS:=aC (aV 3 (ah eT [])) (aC (f9 (iT kE [.ev (ah aI [.pk 0,.ev (dC (.int 0))])]) (.nm 4) (aC (aV 5 (ah iu [.ev (ah aI [.pk 0,.ev (dC (.int 0))])])) (aC (f9 (iE (ah aI [.pk 0,.ev (dC (.int 1))])) (.tp [6,7]) (eU (cA (ah (gX true) [.pk 4,.ev (ah iZ [.pk 6,.pk 7])])) (aC (aV 8 (ah aI [.pk 5,.pk 7])) (aV 5 (bV [11] (iE (bE 5)) (.nm 11) (eo) (b7 sizeLine (zZ (cA (ah jU [.pk 11,.pk 8])) (ah aI [.pk 5,.pk 6]) (bE 11)))))) (f7))) (aC (aV 9 (bV [11,12] (iE (ah aI [.pk 0,.ev (dC (.int 1))])) (.tp [11,12]) (cA (ah (gX false) [.pk 4,.ev (ah iZ [.pk 11,.pk 12])])) (b7 sizeLine (ah aI [.pk 5,.ev (ah kO [.ev (ah fj [.pk 11,.pk 12]),.pk 4])])))) (aC (aV 10 (ah jr [.ev (bV [11] (iE (bE 9)) (.nm 11) (eo) (b7 sizeLine (ah cS [.ev (bV [12] (iE (bE 1)) (.nm 12) (cA (pC (ah mz [.pk 12,.pk 4]) (ah jU [.ev (ah aI [.pk 5,.pk 12]),.pk 11]))) (b7 sizeLine (bE 12)))])))])) (aC (fH (nE dW 3 [ah yU [.ev (ah (kQ false true) [.pk 10,.ev (dC (.int 2))])]])) (eU (cA (ah jU [.pk 2,.ev (dC (.str "all"))])) (iL 3 (ah pF [.ev (dC (.int 1))]) (ah aI [.pk 10,.ev (dC (.int 0))])) (eU (cA (ah sG [.ev (ah cS [.pk 10]),.ev (dC (.int 2))])) (iL 3 (ah pF [.ev (dC (.int 1))]) (ah cS [.pk 1])) (f7))))))))) (cJ (ah qB [.pk 3])))
noncomputable def l9 (sp_law_cells sp_law_pool sp_law_tree sp_law_take sp_law_looks sp_law_least sp_law_codes sp_law_by_pieces sp_tree_strength sp_law_whole:bW):DS:=aC (aV 1 (aX sp_law_cells [false,false] [.pk 0,.ev (dC (.int 3))])) (aC (f9 (iT kE [.ev (ah pY [.ev (dC (.int 1)),.ev (ah cS [.pk 1])])]) (.nm 2) (aC (aV 3 (aX sp_law_pool [false,false] [.pk 1,.pk 2])) (aC (aV 4 (aX sp_law_tree [true,false] [.pk 3,.ev (ah aI [.ev (ah eT [.ev (dC (.int 16)),.ev (dC (.int 60))]),.ev (ah kX [.ev (ah jU [.ev (aX sp_law_take [true,false] [.pk 3,.ev (dC (.int 8))]),.ev (dC (.int 0))])])])])) (f9 (iE (ah eT [.ev (dC (.str "places")),.ev (dC (.str "ties")),.ev (dC (.str "all"))])) (.nm 5) (aC (aV 6 (aX sp_law_looks [true,false] [.pk 3,.ev (ah aI [.pk 4,.ev (dC (.int 0))])])) (qT (eU (cA (ah sG [.ev (ah aI [.pk 4,.ev (dC (.int 0))]),.ev (dC (.int 31))])) (aV 7 (aX sp_law_least [false] [.ev (aX sp_law_codes [false,false,false] [.pk 4,.pk 6,.pk 5])])) (aV 7 (aX sp_law_by_pieces [false,false,false] [.pk 4,.pk 6,.pk 5]))) (aC (aV 8 (ah iM [.pk 6])) (f9 (iT kE [.ev (dC (.int 2))]) (.nm 9) (aC (aV 10 (aX sp_tree_strength [false,false,false] [.pk 4,.pk 8,.pk 5])) (eU (cA (uC (ah mz [.pk 10,.pk 7]) (uC (ah mz [.pk 8,.pk 6]) (pC (ah (eu true) [.pk 7,.ev (dC .none)]) (sr (aX sp_law_whole [false] [.pk 10])))))) (cJ (dC (.bool false))) (f7))))))))))) (cJ (dC (.bool true))))
end PB
namespace PB
open PySem L2 Dv
/-! ### the draws of the trees' laws -/
abbrev jt (a b:Int):PyData:=.list [.int a,.int b]
def fB:bW:=fun ds Q x=>∃ (a b:Int) (m:Nat),ds=[jt a b,iD m]/\0 < m/\m < 2 ^ 200/\0<=b/\b < 2147483647/\∀ (r:Nat) a' b',r < m->0<=b'->b' < 2147483647->Q [jt a' b'] .sh (iD r)
theorem FA:∀ ds Q x,fB ds Q x->iQ (bH [true,false] Q x) (ini [true,false] ds++List.replicate 1 none):=by
 rintro _ Q x ⟨a,b,m,rfl,h1,h2,h3,h4,q⟩
 unfold iQ
 simp only [dv,dw,dx]
 have hm:(0:Int) < m:=by omega
 have r0:∀ z:Int,∃ r:Nat,r < m/\z % (m:Int)=(r:Int):=fun z=>by
  have e1:=Int.emod_nonneg z (by omega:(m:Int)≠0)
  have e2:=Int.emod_lt_of_pos z hm
  exact ⟨(z % m).toNat,by omega,by omega⟩
 split
 ·obtain ⟨r,hr,e⟩:=r0 a
  refine ⟨hm,⟨hm,?_⟩,?_⟩
  ·have:(m:Int) < ((2 ^ 200:Nat):Int):=Int.ofNat_lt.mpr h2
   have:((2 ^ 200:Nat):Int) < 115792089237316195423570985008687907853269984665640564039457584007913129639936:=by decide
   omega
  ·rw [e]
   exact q r _ _ hr h3 h4
 ·have c1:0<=(b * 48271 + 12820163) % 2147483647:=Int.emod_nonneg _ (by decide)
  have c2:(b * 48271 + 12820163) % 2147483647 < 2147483647:=Int.emod_lt_of_pos _ (by decide)
  generalize (b * 48271 + 12820163) % 2147483647=y at *
  have c3:0<=y * y % 2147483629:=Int.emod_nonneg _ (by decide)
  have c4:y * y % 2147483629 < 2147483629:=Int.emod_lt_of_pos _ (by decide)
  refine ⟨.inr (by omega),by omega,.inl (by omega),by omega,.inr (by omega),by omega,⟨by omega,by omega⟩,hm,?_⟩
  obtain ⟨r,hr,e⟩:=r0 (y * y % 2147483629 * 69621 % 2147483587 / 8)
  rw [e]
  exact q r _ _ hr c1 c2
def nR:bW:=fun ds Q x=>∃ (cs:List Int) (k:Nat),ds=[.list (cs.map .int),iD k]/\cs.length<=10/\k<=10/\∀ a b:Int,0<=b->b < 2147483647->Q [] (.ow false) (jt a b)
theorem Ff:∀ ds Q x,nR ds Q x->iO (bH [false,false] Q x) (ini [false,false] ds++List.replicate 2 none):=by
 rintro _ Q x ⟨cs,k,rfl,h1,h2,q⟩
 unfold iO
 simp only [dv,dw,dx]
 refine ⟨fun E=>∃ cell:Int,E=[some (.sh,.list (cs.map .int)),some (.sh,iD k),some (.sh,.int cell),none],?_,?_⟩
 ·simp only [dv,dw,dx]
  split
  ·rename_i h
   rw [List.length_map] at h ⊢
   have hl:0 < cs.length:=by omega
   refine ⟨h,?_⟩
   rw [<- Int.natCast_emod,nK,List.getElem?_eq_getElem (Nat.mod_lt _ hl)]
   exact ⟨⟨h,by omega⟩,_,rfl⟩
  ·exact ⟨0,rfl⟩
 ·rintro _ ⟨cell,rfl⟩
  simp only [dv,dw,dx]
  refine Ej ?_
  simp only [dv,dw,dx]
  have e1:=Int.emod_nonneg cell (by decide:(2147483629:Int)≠0)
  have e2:=Int.emod_lt_of_pos cell (by decide:(0:Int) < 2147483629)
  have e3:=Int.emod_nonneg (cell % 2147483629 * 69621 + 40009 * ((k:Int) + 1) * (k + 3)) (by decide:(2147483629:Int)≠0)
  have e4:=Int.emod_lt_of_pos (cell % 2147483629 * 69621 + 40009 * ((k:Int) + 1) * (k + 3)) (by decide:(0:Int) < 2147483629)
  have fin:∀ z:Int,0 < (2147483629:Int)/\lQ (cell % 2147483629) 69621/\lQ 40009 ((k:Int) + 1)/\lQ (40009 * ((k:Int) + 1)) ((k:Int) + 3)/\0 < (2147483629:Int)/\0 + 1 + 1<=16777216/\Q [] (Kd.ow false) (PyData.list [PyData.int z,PyData.int ((cell % 2147483629 * 69621 + 40009 * ((k:Int) + 1) * ((k:Int) + 3)) % 2147483629)]):=fun z=>⟨by omega,.inr (by omega),.inl (by omega),.inr (by omega),by omega,by omega,q _ _ e3 (by omega)⟩
  split
  ·exact fin _
  ·refine ⟨⟨by decide,by decide,by decide⟩,?_⟩
   split
   ·exact fin _
   ·exact fin _
def lz:bW:=fun ds Q x=>∃ (ns:List Int) (m:Nat),ds=[.list (ns.map .int),iD m]/\0 < m/\m<=10/\∀ cs:List Int,cs.length<=m->Q [] (.ow false) (.list (cs.map .int))
theorem BP:∀ ds Q x,lz ds Q x->g9 (bH [false,false] Q x) (ini [false,false] ds++List.replicate 3 none):=by
 rintro _ Q x ⟨ns,m,rfl,h0,h1,q⟩
 unfold g9
 simp only [dv,dw,dx,dy,qy,List.length_map,show (63:Int)=((63:Nat):Int) from rfl,u9,oW]
 have hm:(0:Int) < m:=by omega
 refine n5 (fun i E=>∃ (cs:List Int)(a b:Option (Kd×PyData)),E=[some (.sh,.list (ns.map .int)),some (.sh,iD m),some (.ow false,.list (cs.map .int)),a,b]/\bG a=true/\bG b=true/\cs.length=min m ns.length) ?_ ?_ ?_
 ·exact ⟨ns.take m,none,none,rfl,rfl,rfl,List.length_take⟩
 ·rintro i ⟨d,k⟩ E hi ⟨cs,a,b,rfl,ha,hb,hl⟩
  have hi:=av hi
  rw [List.length_zipIdx,List.length_drop,List.length_take] at hi
  have hk:k % m < cs.length:=by have:=Nat.mod_lt k h0;omega
  simp only [dv,dw,dx,ha,hb,dz]
  refine ⟨h0,cN (List.getElem?_eq_getElem hk) ⟨.inr (by omega),h0,EZ hk ⟨cs.set (k % m) (cs[k % m] * 31 + d),some (.sh,iD k),some (.sh,.int d),by rw [List.map_set],rfl,rfl,by rw [List.length_set];exact hl⟩⟩⟩
 ·rintro _ ⟨cs,a,b,rfl,ha,hb,hl⟩
  simp only [dv,dw,dx]
  exact q cs (by omega)
def oq:bW:=fun ds Q x=>∃ (a b:Int)(ns:List Nat) (k:Nat),ds=[jt a b,nD ns,iD k]/\k<=ns.length/\ns.length<=1000/\0<=b/\b < 2147483647/\∀ (ms rest:List Nat) a' b',ms.length=k->(ms++rest).Perm ns->0<=b'->b' < 2147483647->Q [jt a' b'] (.ow false) (nD ms)
theorem qC:∀ (rs:List Nat){j:Nat}(h:j < rs.length),([rs[j]]++rs.eraseIdx j).Perm rs
 | [],_,h=>by cases h
 | r::rs,0,_=>by rw [List.eraseIdx_cons_zero];exact List.Perm.refl _
 | r::rs,j + 1,h=>by
  rw [List.eraseIdx_cons_succ]
  have ih:=qC rs (j:=j) (by rw [List.length_cons] at h;omega)
  exact (List.Perm.swap _ _ _).trans (ih.cons _)
theorem sU {f:Nat->PyData}:∀ {rs:List Nat}{j:Nat},(rs.map f).eraseIdx j=(rs.eraseIdx j).map f
 | [],_=>rfl
 | r::rs,0=>rfl
 | r::rs,j + 1=>by
  rw [List.map_cons,List.eraseIdx_cons_succ,List.eraseIdx_cons_succ,List.map_cons,sU]
theorem Es {r n:Nat}(h:r < n):seqIndex? (r:Int) n=some r:=by
 unfold seqIndex?
 simp
 omega
theorem EW:∀ ds Q x,oq ds Q x->ir fB (bH [true,false,false] Q x) (ini [true,false,false] ds++List.replicate 2 none):=by
 rintro _ Q x ⟨a,b,ns,k,rfl,h0,h1,h2,h3,q⟩
 unfold ir
 simp only [dv,dw,dx,dy,dz,Nat.reduceBEq]
 rw [if_pos (by omega)]
 refine cN rfl ?_
 refine yb _ (fun i ys E=>∃ (a b:Int)(ms rest:List Nat)(o:Option (Kd×PyData)),ys=ms.map iD/\E=[some (.ow true,jt a b),some (.sh,nD ns),some (.sh,iD k),some (.ow false,nD rest),o]/\bG o=true/\ms.length=i/\(ms++rest).Perm ns/\0<=b/\b < 2147483647) rfl ⟨a,b,[],ns,_,rfl,rfl,rfl,rfl,List.Perm.refl _,h2,h3⟩ ?_ ?_
 ·rintro i j ys E hi ⟨a,b,ms,rest,o,rfl,rfl,ho,hm,hp,h2,h3⟩
  have hi:=av hi
  rw [List.length_range] at hi
  have hl:=hp.length_eq
  rw [List.length_append] at hl
  have hr:0 < rest.length:=by omega
  simp only [dv,dw,dx,ho,dz]
  refine ⟨a,b,rest.length,rfl,hr,by omega,h2,h3,fun r a' b' hr' h2' h3'=>?_⟩
  simp only [dv,dw,dx,dz]
  refine ⟨⟨by omega,by omega⟩,r,iD rest[r],Es hr',by rw [List.getElem?_map,List.getElem?_eq_getElem hr'];rfl,by omega,a',b',ms++[rest[r]],rest.eraseIdx r,some (.sh,iD j),by rw [List.map_append];rfl,by rw [sU],rfl,by rw [List.length_append,hm];rfl,?_,h2',h3'⟩
  rw [List.append_assoc]
  exact (List.Perm.append_left ms (qC rest hr')).trans hp
 ·rintro ys E ⟨a,b,ms,rest,o,rfl,rfl,ho,hm,hp,h2,h3⟩
  simp only [dv,dw,dx,ho,dz]
  rw [List.length_range] at hm
  exact q ms rest _ _ hm hp h2 h3
theorem uf {ms:List Nat}{m:Nat}(pm:ms.Perm (List.range m)){a:Nat}(ha:a < m):ms[a]?=some (ms.getD a 0)/\ms.getD a 0 < m:=by
 have h:a < ms.length:=by rw [pm.length_eq,List.length_range];exact ha
 have e:ms.getD a 0=ms[a]:=by rw [List.getD_eq_getElem?_getD,List.getElem?_eq_getElem h];rfl
 rw [e]
 exact ⟨List.getElem?_eq_getElem h,List.mem_range.mp (pm.mem_iff.mp (List.getElem_mem h))⟩
def k9:bW:=fun ds Q x=>∃ (a b:Int) (m:Nat)(ps:List (Nat×Nat)),ds=[jt a b,iD m,.list (ps.map fX)]/\1<=m/\m<=60/\Gr.Good m ps/\Gr.dD m ps/\ps.length<=1000/\0<=b/\b < 2147483647/\∀ es a' b',gc m es->es.length=ps.length->0<=b'->b' < 2147483647->Q [jt a' b'] .sh (wD m es)
theorem Bp:∀ ds Q x,k9 ds Q x->gB oq (bH [true,false,false] Q x) (ini [true,false,false] ds++List.replicate 3 none):=by
 rintro _ Q x ⟨a,b,m,ps,rfl,h0,h1,gd,cn,few,h2,h3,q⟩
 unfold gB
 simp only [dv,dw,dx,dy,dz,Nat.reduceBEq]
 refine ⟨⟨by omega,by omega⟩,⟨a,b,List.range m,m,rfl,by rw [List.length_range];exact Nat.le_refl _,by rw [List.length_range];omega,h2,h3,fun ms rest a' b' hm hp h2 h3=>?_⟩⟩
 have pm:ms.Perm (List.range m):=by
  have:=hp.length_eq
  rw [List.length_append,hm,List.length_range] at this
  have e:rest=[]:=List.eq_nil_of_length_eq_zero (by omega)
  rw [e,List.append_nil] at hp
  exact hp
 simp only [dv,dw,dx,dy,dz,Nat.reduceBEq]
 refine gb (fun e=>fX (Gr.tE ms e)) rfl (fun e he I hI=>?_) ?_ (by omega)
 ·have hl:=gd.lt e he
  have g1:=uf pm (by omega:e.1 < m)
  have g2:=uf pm hl.2
  simp only [dv,dw,dx,dy,dz,Nat.reduceBEq,g1.1,g2.1]
  exact ⟨by omega,hI _ rfl⟩
 ·simp only [dv,dw,dx,dy,dz,Nat.reduceBEq]
  have e:ps.map (fun e=>fX (Gr.tE ms e))=(ps.map (Gr.tE ms)).map fX:=by rw [List.map_map];rfl
  rw [e]
  refine Eo (by rw [List.length_map];exact few) fun qs pq=>?_
  simp only [dv,dw,dx,dy,dz,Nat.reduceBEq]
  refine ⟨by omega,q qs _ _ ⟨h0,h1,?_,?_⟩ ?_ h2 h3⟩
  ·exact Gr.Good.perm pq (Gr.yq pm gd)
  ·exact Gr.zx pq (Gr.yJ pm cn)
  ·rw [pq.length_eq,List.length_map]
/-! a drawn tree -/
def n6:bW:=fun ds Q x=>∃ (a b:Int) (mo:Nat),ds=[jt a b,iD mo]/\0 < mo/\mo<=60/\0<=b/\b < 2147483647/\∀ m es a' b',m<=mo->gc m es->es.length + 1=m->0<=b'->b' < 2147483647->Q [jt a' b'] .sh (wD m es)
structure Up (i:Nat)(ps:List (Nat×Nat)):Prop where
 len:ps.length=i
 at':∀ (k:Nat)(e:Nat×Nat),ps[k]?=some e->e.2=k + 1/\e.1<=k
theorem Up.snoc {i p:Nat}{ps:List (Nat×Nat)}(h:Up i ps)(hp:p<=i):Up (i + 1) (ps++[(p,i + 1)]):=by
 refine ⟨by rw [List.length_append,h.len];rfl,fun k e he=>?_⟩
 rw [List.getElem?_append] at he
 split at he
 ·exact h.at' k e he
 ·rename_i hk
  rw [List.getElem?_singleton] at he
  split at he
  ·rename_i h0
   cases he
   have:=h.len
   show i + 1=k + 1/\p<=k
   omega
  ·cases he
theorem Up.mem {i:Nat}{ps:List (Nat×Nat)}(h:Up i ps){e:Nat×Nat}(he:e∈ps):e.1 < e.2/\e.2<=i:=by
 obtain ⟨k,hk⟩:=List.mem_iff_getElem?.mp he
 have:=h.at' k e hk
 have:=av hk
 have:=h.len
 omega
theorem Up.good {m:Nat}{ps:List (Nat×Nat)}(h:Up (m - 1) ps)(hm:1<=m):Gr.Good m ps:=by
 refine ⟨fun e he=>?_,?_⟩
 ·have:=h.mem he
  omega
 ·refine List.pairwise_iff_getElem.mpr fun i j hi hj l e=>?_
  have h1:=h.at' i _ (List.getElem?_eq_getElem hi)
  have h2:=h.at' j _ (List.getElem?_eq_getElem hj)
  rw [e] at h1
  omega
theorem Up.conn {m:Nat}{ps:List (Nat×Nat)}(h:Up (m - 1) ps):Gr.dD m ps:=by
 refine Gr.FJ fun k h0 hk=>?_
 have hl:k - 1 < ps.length:=by rw [h.len];omega
 have:=h.at' (k - 1) _ (List.getElem?_eq_getElem hl)
 refine ⟨ps[k - 1].1,by omega,?_⟩
 have e:(ps[k - 1].1,k)=ps[k - 1]:=Prod.ext rfl (by show k=ps[k - 1].2;omega)
 rw [e]
 exact List.getElem_mem hl
theorem Eh:∀ ds Q x,n6 ds Q x->iK fB k9 (bH [true,false] Q x) (ini [true,false] ds++List.replicate 5 none):=by
 rintro _ Q x ⟨a,b,mo,rfl,h0,h1,h2,h3,q⟩
 unfold iK
 simp only [dv,dw,dx,dy,dz,Nat.reduceBEq]
 refine ⟨a,b,mo,rfl,h0,by omega,h2,h3,fun r a b hr h2 h3=>?_⟩
 simp only [dv,dw,dx,dy,dz,Nat.reduceBEq]
 refine ⟨a,b,6,rfl,by omega,by omega,h2,h3,fun sh a b hsh h2 h3=>?_⟩
 simp only [dv,dw,dx,dy,dz,Nat.reduceBEq]
 refine ⟨by omega,?_⟩
 have e1:(1:Int) + (r:Int)=((r + 1:Nat):Int):=by omega
 rw [e1,if_pos (by omega)]
 refine cN rfl ?_
 have e2:(((r + 1:Nat):Int) - 1).toNat=r:=by omega
 rw [e2]
 refine n5 (fun i E=>∃ (a b:Int)(ps:List (Nat×Nat))(o o2:Option (Kd×PyData)),E=[some (.ow true,jt a b),some (.sh,iD mo),some (.sh,iD (r + 1)),some (.sh,iD sh),some (.ow false,.list (ps.map fX)),o,o2]/\bG o=true/\bG o2=true/\Up i ps/\0<=b/\b < 2147483647) ?_ ?_ ?_
 ·exact ⟨a,b,[],none,none,rfl,rfl,rfl,⟨rfl,fun k e h=>by cases h⟩,h2,h3⟩
 ·rintro i k _ hi ⟨a,b,ps,o,o2,rfl,ho,ho2,up,h2,h3⟩
  have hi':=av hi
  rw [List.getElem?_range (by rw [List.length_range] at hi';exact hi')] at hi
  cases hi
  rw [List.length_range] at hi'
  simp only [dv,dw,dx,dy,dz,Nat.reduceBEq,ho]
  refine ⟨a,b,i + 1,rfl,by omega,by omega,h2,h3,fun r1 a b hr1 h2 h3=>?_⟩
  simp only [dv,dw,dx,dy,dz,Nat.reduceBEq,ho2]
  refine ⟨a,b,3,rfl,by omega,by omega,h2,h3,fun r2 a b hr2 h2 h3=>?_⟩
  have e3:((i + 1:Nat):Int) - 1=(i:Int):=by omega
  have e4:(if (3:Int) < ((i + 1:Nat):Int) then (3:Int) else ((i + 1:Nat):Int))=((min (i + 1) 3:Nat):Int):=by split <;> omega
  simp only [dv,dw,dx,dy,dz,Nat.reduceBEq,ho2,e3,e4]
  refine ⟨a,b,min (i + 1) 3,rfl,by omega,by omega,h2,h3,fun r3 a b hr3 h2 h3=>?_⟩
  simp only [dv,dw,dx,dy,dz,Nat.reduceBEq,ho2,e3,vz]
  refine ⟨by omega,⟨by omega,by omega⟩,by omega,by omega,?_⟩
  have hin:∀ z∈[PyData.int (i:Int),PyData.int 0,iD r1,PyData.int (if (i:Int) - (r2:Int) > 0 then (i:Int) - (r2:Int) else 0),iD r3,PyData.int ((i:Int) / 2)],∃ p:Nat,p<=i/\z=iD p:=by
   intro z hz
   simp only [List.mem_cons,List.not_mem_nil,or_false] at hz
   rcases hz with rfl | rfl | rfl | rfl | rfl | rfl
   ·exact ⟨i,by omega,rfl⟩
   ·exact ⟨0,by omega,rfl⟩
   ·exact ⟨r1,by omega,rfl⟩
   ·exact ⟨i - r2,by omega,by congr 1;split <;> omega⟩
   ·exact ⟨r3,by omega,rfl⟩
   ·exact ⟨i / 2,by omega,by congr 1⟩
  have hlen:[PyData.int (i:Int),PyData.int 0,iD r1,PyData.int (if (i:Int) - (r2:Int) > 0 then (i:Int) - (r2:Int) else 0),iD r3,PyData.int ((i:Int) / 2)].length=6:=rfl
  generalize [PyData.int (i:Int),PyData.int 0,iD r1,PyData.int (if (i:Int) - (r2:Int) > 0 then (i:Int) - (r2:Int) else 0),iD r3,PyData.int ((i:Int) / 2)]=L at hin hlen ⊢
  have hs:sh < L.length:=by omega
  obtain ⟨p,hp,ep⟩:=hin _ (List.getElem_mem hs)
  refine cN (List.getElem?_eq_getElem hs) ⟨by omega,by rw [up.len];omega,a,b,ps++[(p,i + 1)],_,_,by rw [ep,List.map_append];rfl,rfl,rfl,up.snoc hp,h2,h3⟩
 ·rintro _ ⟨a,b,ps,o,o2,rfl,ho,ho2,up,h2,h3⟩
  simp only [dv,dw,dx,dy,dz,Nat.reduceBEq]
  rw [List.length_range] at up
  refine ⟨a,b,r + 1,ps,rfl,by omega,by omega,Up.good (m:=r + 1) up (by omega),Up.conn (m:=r + 1) up,by rw [up.len];omega,h2,h3,fun es a' b' W hl h2 h3=>?_⟩
  simp only [dv,dw,dx,dy,dz,Nat.reduceBEq]
  exact q _ es _ _ (by omega) W (by rw [hl,up.len]) h2 h3
/-! drawn looks -/
def lI:bW:=fun ds Q x=>∃ (a b:Int) (m:Nat),ds=[jt a b,iD m]/\m<=60/\0<=b/\b < 2147483647/\∀ ls a' b',eF m ls->0<=b'->b' < 2147483647->Q [jt a' b'] (.ow false) (nD ls)
theorem Bt:∀ ds Q x,lI ds Q x->gY fB (bH [true,false] Q x) (ini [true,false] ds++List.replicate 2 none):=by
 rintro _ Q x ⟨a,b,m,rfl,h1,h2,h3,q⟩
 unfold gY
 simp only [dv,dw,dx,dy,dz,Nat.reduceBEq]
 refine ⟨a,b,6,rfl,by omega,by omega,h2,h3,fun pt a b hpt h2 h3=>?_⟩
 simp only [dv,dw,dx,dy,dz,Nat.reduceBEq]
 rw [if_pos (by omega)]
 refine cN rfl ?_
 refine yb _ (fun i ys E=>∃ (a b:Int)(ls:List Nat)(o:Option (Kd×PyData)),ys=ls.map iD/\E=[some (.ow true,jt a b),some (.sh,iD m),some (.sh,iD pt),o]/\bG o=true/\rising ls/\(∀ l∈ls,l < i)/\0<=b/\b < 2147483647) rfl ⟨a,b,[],none,rfl,rfl,rfl,List.Pairwise.nil,(fun _ h=>absurd h List.not_mem_nil),h2,h3⟩ ?_ ?_
 ·rintro i j ys E hi ⟨a,b,ls,o,rfl,rfl,ho,hr,hl,h2,h3⟩
  have hi':=av hi
  rw [List.length_range] at hi'
  rw [List.getElem?_range hi'] at hi
  cases hi
  simp only [dv,dw,dx,dy,dz,Nat.reduceBEq,ho]
  refine ⟨a,b,6,rfl,by omega,by omega,h2,h3,fun r a b hr' h2 h3=>?_⟩
  simp only [dv,dw,dx,dy,dz,Nat.reduceBEq,ho,vz]
  refine ⟨by omega,?_⟩
  rw [show [PyData.int 0,PyData.int 1,PyData.int 2,PyData.int 3,PyData.int 5,PyData.int 6]=[0,1,2,3,5,6].map iD from rfl,List.getElem?_map,qp]
  have hlt:pt < [0,1,2,3,5,6].length:=hpt
  refine cN (List.getElem?_eq_getElem hlt) ?_
  simp only [dv,dw,dx,dy,dz,Nat.reduceBEq]
  split
  ·refine ⟨?_,a,b,ls++[i],_,by rw [List.map_append];rfl,rfl,rfl,?_,?_,h2,h3⟩
   ·have:=lM hr hl
    omega
   ·exact List.pairwise_append.mpr ⟨hr,List.pairwise_singleton ..,fun x hx y hy=>by cases List.mem_singleton.mp hy;exact hl x hx⟩
   ·intro l hl'
    rcases List.mem_append.mp hl' with h | h
    ·have:=hl l h;omega
    ·cases List.mem_singleton.mp h;omega
  ·exact ⟨a,b,ls,_,rfl,rfl,rfl,hr,(fun l h=>by have:=hl l h;omega),h2,h3⟩
 ·rintro ys E ⟨a,b,ls,o,rfl,rfl,ho,hr,hl,h2,h3⟩
  simp only [dv,dw,dx,dy,dz,Nat.reduceBEq,ho]
  exact q ls _ _ ⟨hr,fun l h=>by have:=hl l h;rw [List.length_range] at this;exact this⟩ h2 h3
end PB
namespace PB
open PySem L2 Dv
/-! ### counting by places -/
def Dq (a b:List Nat) (i:Nat):Bool:=match a[i]?,b[i]? with
 | some x,some y=>!decide (x=y)
 | _,_=>false
theorem u5 {n:Nat}{p:Nat->Bool}:((List.range (n + 1)).filter p).length=(if p 0=true then 1 else 0) + ((List.range n).filter fun i=>p (i + 1)).length:=by
 rw [List.range_succ_eq_map,List.filter_cons,List.filter_map,]
 split
 ·rw [List.length_cons,List.length_map,Nat.add_comm];rfl
 ·rw [List.length_map,Nat.zero_add];rfl
theorem xq:∀ {a b:List Nat},iS a b=((List.range a.length).filter (Dq a b)).length
 | [],h=>by cases h <;> rfl
 | x::a,[]=>by
  show 0=_
  symm
  rw [List.length_eq_zero_iff,List.filter_eq_nil_iff]
  intro i _
  unfold Dq
  simp
 | x::a,y::b=>by
  rw [iS,xq,List.length_cons,u5]
  congr 1
  unfold Dq
  show (if x=y then 0 else 1)=if (!decide (x=y))=true then 1 else 0
  by_cases c:x=y <;> simp [c]
theorem ud:∀ {a b:List Nat},iS a b=iS b a
 | [],[]=>rfl
 | [],_::_=>rfl
 | _::_,[]=>rfl
 | x::a,y::b=>by
  rw [iS,iS,ud]
  congr 1
  by_cases c:x=y
  ·subst c;rfl
  ·rw [if_neg c,if_neg (Ne.symm c)]
end PB
namespace PB
open PySem L2 Dv
def Ir (n:Nat)(a b:List Nat):List Nat:=(List.range n).filter fun k=>decide (¬ a.getD k 0=b.getD k 0)
theorem getD_get {l:List Nat}{k:Nat}(h:k < l.length):l[k]?=some (l.getD k 0):=by
 rw [List.getElem?_eq_getElem h,List.getD_eq_getElem?_getD,List.getElem?_eq_getElem h]
 rfl
theorem FN {a b:List Nat}(h:a.length=b.length):(Ir a.length a b).length=iS a b:=by
 rw [xq]
 unfold Ir
 congr 1
 refine List.filter_congr fun k hk=>?_
 have hk:=List.mem_range.mp hk
 unfold Dq
 rw [getD_get hk,getD_get (by omega:k < b.length)]
 simp only
 rw [decide_not]
theorem Ad {es:List (Nat×Nat)}{ls:List Nat}{t:Th}:(cL es ls t).length=ls.length:=List.length_map ..
end PB
namespace Gr
noncomputable abbrev ds (es:List (Nat×Nat)) (p x:Nat):Nat:=dst (aB es) p x
section
variable {m:Nat}{es:List (Nat×Nat)}
theorem dD.is (cn:dD m es){p x:Nat}(hp:p < m)(hx:x < m):lC (aB es) p x (ds es p x):=let ⟨_,h⟩:=cn p hp x hx;Hh h
theorem bJ {p:Nat}:ds es p p=0:=qE ⟨.zero,fun e he=>absurd he (Nat.not_lt_zero e)⟩
theorem dD.le (cn:dD m es){p x d:Nat}(hp:p < m)(hx:x < m)(h:R (aB es) p d x):ds es p x<=d:=by
 rcases Nat.lt_or_ge d (ds es p x) with l | l
 ·exact absurd h ((cn.is hp hx).2 d l)
 ·exact l
theorem dD.fh (cn:dD m es){p x y:Nat}(hp:p < m)(hx:x < m)(hy:y < m):ds es p y<=ds es p x + ds es x y:=cn.le hp hy ((cn.is hp hx).1.trans (cn.is hx hy).1)
theorem dD.sy (cn:dD m es){p x:Nat}(hp:p < m)(hx:x < m):ds es p x=ds es x p:=by
 have h1:=cn.le hx hp ((cn.is hp hx).1.symm cz)
 have h2:=cn.le hp hx ((cn.is hx hp).1.symm cz)
 omega
theorem dD.zero (cn:dD m es){p x:Nat}(hp:p < m)(hx:x < m)(h:ds es p x=0):x=p:=by
 have:=(cn.is hp hx).1
 rw [h] at this
 cases this
 rfl
theorem dD.lO (cn:dD m es){p x y:Nat}(hp:p < m)(hx:x < m)(hy:y < m)(h:aB es x y):ds es p y<=ds es p x + 1:=cn.le hp hy ((cn.is hp hx).1.step h)
theorem dD.pred (cn:dD m es)(gd:Good m es){p x:Nat}(hp:p < m)(hx:x < m)(h:x≠p):∃ y,y < m/\aB es x y/\ds es p y + 1=ds es p x:=by
 have hI:=cn.is hp hx
 cases e:ds es p x with
 | zero=>exact absurd (cn.zero hp hx e) h
 | succ d =>
  rw [e] at hI
  obtain ⟨y,hy,a⟩:=hI.pred
  exact ⟨y,(gd.b9 a).1,cz _ _ a,by rw [show ds es p y=d from qE hy]⟩
structure Tree (m:Nat)(es:List (Nat×Nat)):Prop where
 gd:Good m es
 cn:dD m es
 len:es.length + 1=m
def iR (x y:Nat):Nat×Nat:=(min x y,max x y)
theorem lE (gd:Good m es){x y:Nat}(h:aB es x y):iR x y∈es:=by
 rcases h with h | h
 ·have:=gd.lt _ h
  have:x < y/\y < m:=this
  have e:iR x y=(x,y):=by unfold iR;rw [Nat.min_eq_left (by omega),Nat.max_eq_right (by omega)]
  rw [e]
  exact h
 ·have:=gd.lt _ h
  have:y < x/\x < m:=this
  have e:iR x y=(y,x):=by unfold iR;rw [Nat.min_eq_right (by omega),Nat.max_eq_left (by omega)]
  rw [e]
  exact h
theorem sub_len' {α:Type} [DecidableEq α]{l:List α}(nd:l.Nodup):∀ {k:List α},(∀ x∈l,x∈k)->l.length<=k.length:=by
 induction l with
 | nil=>intro k _;exact Nat.zero_le _
 | cons a l ih =>
  intro k h
  have ha:=h a List.mem_cons_self
  have nd':=List.nodup_cons.mp nd
  have:=ih nd'.2 (k:=k.erase a) fun x hx=>(List.mem_erase_of_ne fun e=>nd'.1 (by rw [<- e];exact hx)).mpr (h x (List.mem_cons_of_mem _ hx))
  rw [List.length_erase_of_mem ha] at this
  have:=List.length_pos_of_mem ha
  rw [List.length_cons]
  omega
theorem GZ {α:Type} [DecidableEq α]{l k:List α}(nd:l.Nodup)(h:∀ x∈l,x∈k)(hl:k.length<=l.length):∀ x∈k,x∈l:=by
 intro x hx
 by_cases c:x∈l
 ·exact c
 ·exfalso
  have:=sub_len' nd (k:=k.erase x) fun y hy=>(List.mem_erase_of_ne fun e=>c (by rw [<- e];exact hy)).mpr (h y hy)
  rw [List.length_erase_of_mem hx] at this
  have:=List.length_pos_of_mem hx
  omega
open Classical in
theorem Tree.cY (T:Tree m es){p:Nat}(hp:p < m):∃ par:Nat->Nat,(∀ x,x < m->x≠p->par x < m/\aB es x (par x)/\ds es p (par x) + 1=ds es p x)/\∀ x y,aB es x y->(x≠p/\y=par x)\/(y≠p/\x=par y):=by
 have ch:∀ x,∃ y,x < m->x≠p->y < m/\aB es x y/\ds es p y + 1=ds es p x:=fun x=>by
  by_cases c:x < m/\x≠p
  ·obtain ⟨y,h1,h2,h3⟩:=T.cn.pred T.gd hp c.1 c.2
   exact ⟨y,fun _ _=>⟨h1,h2,h3⟩⟩
  ·exact ⟨0,fun h1 h2=>absurd ⟨h1,h2⟩ c⟩
 have ⟨par,hpar⟩:∃ par:Nat->Nat,∀ x,x < m->x≠p->par x < m/\aB es x (par x)/\ds es p (par x) + 1=ds es p x:=⟨fun x=>Classical.choose (ch x),fun x h1 h2=>Classical.choose_spec (ch x) h1 h2⟩
 refine ⟨par,hpar,fun x y h=>?_⟩
 have two:∀ {a b c d:Nat},iR a b=iR c d->(a=c/\b=d)\/(a=d/\b=c):=fun {a b c d} e=>by
  have e1:min a b=min c d:=congrArg Prod.fst e
  have e2:max a b=max c d:=congrArg Prod.snd e
  omega
 have mem:∀ z,z∈(List.range m).filter (fun x=>decide (x≠p))↔z < m/\z≠p:=fun z=>by rw [List.mem_filter,List.mem_range,decide_eq_true_eq]
 have nd0:((List.range m).filter fun x=>decide (x≠p)).Nodup:=List.Sublist.nodup List.filter_sublist List.nodup_range
 have len:es.length<=(((List.range m).filter fun x=>decide (x≠p)).map fun x=>iR x (par x)).length:=by
  rw [List.length_map]
  have:=sub_len' (l:=List.range m) List.nodup_range (k:=p::(List.range m).filter fun x=>decide (x≠p)) fun x hx=>by
   by_cases c:x=p
   ·rw [c];exact List.mem_cons_self
   ·exact List.mem_cons_of_mem _ ((mem x).mpr ⟨List.mem_range.mp hx,c⟩)
  rw [List.length_range,List.length_cons] at this
  have:=T.len
  omega
 have nd:(((List.range m).filter fun x=>decide (x≠p)).map fun x=>iR x (par x)).Nodup:=by
  refine List.Pairwise.map _ (R:=fun a b=>a≠b/\(a < m/\a≠p)/\(b < m/\b≠p)) (fun a b hab e=>?_) (List.Pairwise.imp_of_mem (R:=fun a b=>a≠b) (fun {a b} ha hb h=>⟨h,(mem a).mp ha,(mem b).mp hb⟩) nd0)
  obtain ⟨ne,ha,hb⟩:=hab
  obtain ⟨_,_,h1⟩:=hpar a ha.1 ha.2
  obtain ⟨_,_,h2⟩:=hpar b hb.1 hb.2
  rcases two e with ⟨z,_⟩ | ⟨z1,z2⟩
  ·exact ne z
  ·rw [z2] at h1
   rw [<- z1] at h2
   omega
 have inn:=GZ nd (fun e he=>by
  obtain ⟨z,hz,rfl⟩:=List.mem_map.mp he
  obtain ⟨h1,h2⟩:=(mem z).mp hz
  exact lE T.gd (hpar z h1 h2).2.1) len
 obtain ⟨z,hz,e⟩:=List.mem_map.mp (inn _ (lE T.gd h))
 have hz:=(mem z).mp hz
 rcases two e with ⟨e1,e2⟩ | ⟨e1,e2⟩
 ·subst e1
  exact .inl ⟨hz.2,e2.symm⟩
 ·subst e1
  exact .inr ⟨hz.2,e2.symm⟩
theorem Tree.near (T:Tree m es){p x y:Nat}(hp:p < m)(h:aB es x y):ds es p x=ds es p y + 1\/ds es p y=ds es p x + 1:=by
 obtain ⟨par,h1,h2⟩:=T.cY hp
 obtain ⟨hx,hy⟩:=T.gd.b9 h
 rcases h2 x y h with ⟨n,rfl⟩ | ⟨n,rfl⟩
 ·exact .inl (h1 x hx n).2.2.symm
 ·exact .inr (h1 y hy n).2.2.symm
theorem Tree.one (T:Tree m es){p x y z:Nat}(hp:p < m)(h:aB es x y)(g:aB es x z)(hy:ds es p x=ds es p y + 1)(hz:ds es p x=ds es p z + 1):y=z:=by
 obtain ⟨par,h1,h2⟩:=T.cY hp
 obtain ⟨hx,hy'⟩:=T.gd.b9 h
 have hz':=(T.gd.b9 g).2
 have key:∀ w,aB es x w->w < m->ds es p x=ds es p w + 1->w=par x:=fun w a hw e=>by
  rcases h2 x w a with ⟨_,r⟩ | ⟨n,r⟩
  ·exact r
  ·have:=(h1 w hw n).2.2
   rw [<- r] at this
   omega
 rw [key y h hy' hy,key z g hz' hz]
def aY (es:List (Nat×Nat)) (p n x:Nat):Prop:=ds es n x + 1=ds es p x
theorem Tree.sN (T:Tree m es){p n x:Nat}(hx:x < m)(h:aB es p n):aY es p n x\/ds es n x=ds es p x + 1:=by
 obtain ⟨hp,hn⟩:=T.gd.b9 h
 have:=T.near hx h
 unfold aY
 rw [T.cn.sy hn hx,T.cn.sy hp hx]
 omega
theorem Tree.je (T:Tree m es){p n k x:Nat}(hx:x < m)(h:aB es p n)(g:aB es p k)(hn:aY es p n x)(hk:aY es p k x):n=k:=by
 obtain ⟨hp,hn'⟩:=T.gd.b9 h
 have hk':=(T.gd.b9 g).2
 unfold aY at hn hk
 rw [T.cn.sy hn' hx,T.cn.sy hp hx] at hn
 rw [T.cn.sy hk' hx,T.cn.sy hp hx] at hk
 exact T.one hx h g (by omega) (by omega)
theorem Tree.some (T:Tree m es){p x:Nat}(hp:p < m)(hx:x < m)(ne:x≠p):∃ n,aB es p n/\aY es p n x:=by
 obtain ⟨n,hn,a,e⟩:=T.cn.pred T.gd hx hp (Ne.symm ne)
 refine ⟨n,a,?_⟩
 unfold aY
 rw [T.cn.sy hn hx,T.cn.sy hp hx]
 exact e
theorem Tree.jg (T:Tree m es){p n x y:Nat}(hp:p < m)(hn:n < m)(h:aB es p n)(hb:aY es p n x)(a:aB es x y)(ne:y≠p):aY es p n y:=by
 obtain ⟨hx,hy⟩:=T.gd.b9 a
 unfold aY at hb ⊢
 rcases T.sN hy h with z | z
 ·exact z
 ·exfalso
  have h1:=T.near hp a
  have h2:=T.near hn a
  have e1:ds es p y + 1=ds es p x:=by omega
  have e2:ds es n y=ds es n x + 1:=by omega
  by_cases c:x=n
  ·subst c
   rw [bJ] at hb
   exact ne (T.cn.zero hp hy (by omega))
  ·obtain ⟨z,hz,b,e3⟩:=T.cn.pred T.gd hn hx c
   have h5:=T.cn.fh hp hn hz
   have h6:ds es p n=1:=by
    have:=T.near hp h
    rw [bJ] at this
    omega
   have h7:=T.near hp b
   have:=T.one hp a b (by omega) (by omega)
   subst this
   omega
theorem Tree.dn (T:Tree m es){p n:Nat}(hp:p < m)(h:aB es p n):ds es p n=1:=by
 have:=T.near hp h
 rw [bJ] at this
 omega
theorem Tree.uT (T:Tree m es){p n x:Nat}(hp:p < m)(hx:x < m)(h:aB es p n)(hb:aY es p n x)(ne:x≠n):∃ y,y < m/\aB es y x/\aY es p n y/\ds es p x=ds es p y + 1/\ds es n y + 1=ds es n x:=by
 obtain ⟨_,hn⟩:=T.gd.b9 h
 obtain ⟨y,hy,a,e⟩:=T.cn.pred T.gd hn hx ne
 have h1:=T.cn.fh hp hn hy
 have h2:=T.dn hp h
 have h3:=T.near hp a
 unfold aY at hb ⊢
 exact ⟨y,hy,cz _ _ a,by omega,by omega,e⟩
theorem i6 (T:Tree m es){p n:Nat}(hp:p < m)(h:aB es p n):aY es p n n:=by
 unfold aY
 rw [bJ,T.dn hp h]
theorem Tree.par (T:Tree m es){x u d v:Nat}(hx:x < m)(h:R (aB es) u d v):(ds es x v) % 2=(ds es x u + d) % 2:=by
 induction h with
 | zero=>rfl
 | step _ a ih =>
  have:=T.near hx a
  omega
theorem Tree.walk (T:Tree m es){l w b:Nat}(hl:l < m)(a:aB es w b)(nl:¬ aY es w b l){d v:Nat}(h:R (aB es) l d v)(hv:aY es w b v):ds es l w + 1 + ds es b v<=d:=by
 obtain ⟨hw,hb⟩:=T.gd.b9 a
 induction h with
 | zero=>exact absurd hv nl
 | @step d y v r c ih =>
  obtain ⟨hy,hv'⟩:=T.gd.b9 c
  by_cases q:aY es w b y
  ·have:=ih q
   have:=T.cn.lO hb hy hv' c
   omega
  ·have e:y=w:=by
    by_cases z:y=w
    ·exact z
    ·exact absurd (T.jg hw hb a hv (cz _ _ c) z) q
   subst e
   have e2:=T.je hv' a c hv (i6 T hw c)
   subst e2
   have:=T.cn.le hl hw r
   rw [bJ]
   omega
theorem Tree.nY (T:Tree m es){l w b v:Nat}(hl:l < m)(hv':v < m)(a:aB es w b)(nl:¬ aY es w b l)(hv:aY es w b v):ds es l v=ds es l w + 1 + ds es b v:=by
 obtain ⟨hw,hb⟩:=T.gd.b9 a
 have h1:=T.walk hl a nl (T.cn.is hl hv').1 hv
 have h2:=T.cn.fh hl hw hv'
 have h3:=T.cn.fh hw hb hv'
 have h4:=T.dn hw a
 omega
noncomputable def cb (es:List (Nat×Nat))(ls:List Nat) (p n:Nat):Nat:=(ls.filter fun l=>decide (ds es n l + 1=ds es p l)).length
theorem uZ {ls:List Nat}{p q r:Nat->Bool}(h1:∀ l∈ls,p l=true->r l=true)(h2:∀ l∈ls,q l=true->r l=true)(dj:∀ l∈ls,p l=true->q l=true->False):(ls.filter p).length + (ls.filter q).length<=(ls.filter r).length:=by
 induction ls with
 | nil=>exact Nat.le_refl _
 | cons a ls ih =>
  have ih:=ih (fun l hl=>h1 l (List.mem_cons_of_mem _ hl)) (fun l hl=>h2 l (List.mem_cons_of_mem _ hl)) fun l hl=>dj l (List.mem_cons_of_mem _ hl)
  have k1:=h1 a List.mem_cons_self
  have k2:=h2 a List.mem_cons_self
  have k3:=dj a List.mem_cons_self
  rw [List.filter_cons,List.filter_cons,List.filter_cons]
  cases e1:p a <;> cases e2:q a <;> cases e3:r a <;> simp_all <;> omega
theorem one_le {ls:List Nat}{p r:Nat->Bool}(h1:∀ l∈ls,p l=true->r l=true):(ls.filter p).length<=(ls.filter r).length:=by
 have:=uZ (q:=fun _=>false) h1 (fun l _ z=>by cases z) fun l _ _ z=>by cases z
 omega
end
end Gr
namespace PB
open Dv Gr
section
variable {m:Nat}{es:List (Nat×Nat)}
noncomputable def pt (es:List (Nat×Nat))(ls:List Nat)(t u:Th):Nat:=(ls.filter fun l=>decide (td es l t≠td es l u)).length
theorem JZ {ls:List Nat}{t u:Th}:pt es ls t u<=ls.length:=List.length_filter_le ..
theorem xC {ls:List Nat}{t u:Th}:pt es ls t u=pt es ls u t:=by
 unfold pt
 congr 1
 refine List.filter_congr fun l _=>?_
 by_cases c:td es l t=td es l u
 ·rw [decide_eq_false (by simpa using c),decide_eq_false (by simpa using c.symm)]
 ·rw [decide_eq_true c,decide_eq_true (Ne.symm c)]
theorem vj {ls:List Nat}{t u:Th}:iS (cL es ls t) (cL es ls u)=pt es ls t u:=by
 unfold pt cL
 induction ls with
 | nil=>rfl
 | cons l ls ih =>
  rw [List.map_cons,List.map_cons,iS,ih,List.filter_cons]
  by_cases c:td es l t=td es l u
  ·rw [if_pos c,if_neg (by simpa using c),Nat.zero_add]
  ·rw [if_neg c,if_pos (by simpa using c),List.length_cons,Nat.add_comm]
theorem Bh {ls:List Nat}{t u:Th}(h:∀ l∈ls,td es l t≠td es l u):pt es ls t u=ls.length:=by
 unfold pt
 rw [List.filter_eq_self.mpr fun l hl=>decide_eq_true (h l hl)]
theorem mid (T:Tree m es){u v:Nat}(hu:u < m)(hv:v < m):∀ {i j:Nat},ds es u v=i + j->∃ w,w < m/\ds es u w=i/\ds es w v=j
 | i,0,h=>⟨v,hv,by omega,bJ⟩
 | i,j + 1,h=>by
  obtain ⟨w,hw,h1,h2⟩:=mid T hu hv (i:=i + 1) (j:=j) (by omega)
  obtain ⟨y,hy,a,e⟩:=T.cn.pred T.gd hu hw fun z=>by rw [z,bJ] at h1;omega
  have h3:=T.cn.fh hy hw hv
  have h4:=T.dn hy (cz _ _ a)
  have h5:=T.cn.fh hu hy hv
  exact ⟨y,hy,by omega,by omega⟩
theorem tF (T:Tree m es){w a l u v:Nat}(hu:u < m)(hv:v < m)(hl:l < m)(h:aB es w a)(hb:aY es w a l)(nv:¬ aY es w a v)(hle:ds es a u<=ds es w v):ds es l u < ds es l v:=by
 obtain ⟨hw,ha⟩:=T.gd.b9 h
 have h1:=T.nY hv hl h nv hb
 have h2:=T.cn.fh hl ha hu
 rw [T.cn.sy hl ha] at h2
 rw [T.cn.sy hl hv]
 rw [T.cn.sy hv hw] at h1
 omega
theorem bd {w a l:Nat}(h:decide (ds es a l + 1=ds es w l)=true):aY es w a l:=of_decide_eq_true (p:=ds es a l + 1=ds es w l) h
theorem AF (T:Tree m es){ls:List Nat}(hl:∀ l∈ls,l < m){w a b:Nat}(h:aB es w a)(g:aB es w b)(ne:a≠b){t u:Th}(ha:∀ l∈ls,aY es w a l->td es l t≠td es l u)(hb:∀ l∈ls,aY es w b l->td es l t≠td es l u):cb es ls w a + cb es ls w b<=pt es ls t u :=
 uZ (fun l h1 h2=>decide_eq_true (ha l h1 (bd h2))) (fun l h1 h2=>decide_eq_true (hb l h1 (bd h2))) fun l h1 h2 h3=>ne (T.je (hl l h1) h g (bd h2) (bd h3))
theorem zP (T:Tree m es){ls:List Nat}(hl:∀ l∈ls,l < m){w a b:Nat}(h:aB es w a)(g:aB es w b)(ne:a≠b):cb es ls w a + cb es ls w b<=ls.length:=by
 have:=uZ (ls:=ls) (p:=fun l=>decide (ds es a l + 1=ds es w l)) (q:=fun l=>decide (ds es b l + 1=ds es w l)) (r:=fun _=>true) (fun _ _ _=>rfl) (fun _ _ _=>rfl) fun l h1 h2 h3=>ne (T.je (hl l h1) h g (bd h2) (bd h3))
 exact Nat.le_trans this (List.length_filter_le ..)
theorem IS {ls:List Nat}{w a:Nat}{t u:Th}(ha:∀ l∈ls,aY es w a l->td es l t≠td es l u):cb es ls w a<=pt es ls t u:=one_le fun l h1 h2=>decide_eq_true (ha l h1 (bd h2))
theorem p7 (T:Tree m es){ls:List Nat}(hl:∀ l∈ls,l < m){u v:Nat}(hu:u < m)(hv:v < m)(ne:u≠v):pt es ls (.inl u) (.inl v)=ls.length\/∃ w a b,aB es w a/\aB es w b/\a≠b/\cb es ls w a + cb es ls w b<=pt es ls (.inl u) (.inl v):=by
 rcases Nat.mod_two_eq_zero_or_one (ds es u v) with e | e
 ·right
  obtain ⟨k,hk⟩:∃ k,ds es u v=k + k:=⟨ds es u v / 2,by omega⟩
  have k0:k≠0:=fun z=>ne (T.cn.zero hu hv (by omega)).symm
  obtain ⟨w,hw,h1,h2⟩:=mid T hu hv hk
  have nwu:w≠u:=fun z=>by rw [z,bJ] at h1;omega
  have nwv:w≠v:=fun z=>by rw [z,bJ] at h2;omega
  obtain ⟨a,ha,aa,ea⟩:=T.cn.pred T.gd hu hw nwu
  obtain ⟨b,hb,ab,eb⟩:=T.cn.pred T.gd hv hw nwv
  rw [T.cn.sy hv hw] at eb
  rw [T.cn.sy hv hb] at eb
  rw [T.cn.sy hu ha] at ea
  rw [T.cn.sy hu hw] at ea
  have nab:a≠b:=fun z=>by
   subst z
   have:=T.cn.fh hu ha hv
   rw [T.cn.sy hu ha] at this
   rw [T.cn.sy hu hw] at h1
   omega
  have bu:aY es w a u:=ea
  have bv:aY es w b v:=eb
  rw [T.cn.sy hu hw] at h1
  refine ⟨w,a,b,aa,ab,nab,AF T hl aa ab nab (fun l hl' hb'=>?_) fun l hl' hb'=>?_⟩
  ·have:=tF T hu hv (hl l hl') aa hb' (fun z=>nab (T.je hv aa ab z bv)) (by omega)
   show ds es l u≠ds es l v
   omega
  ·have:=tF T hv hu (hl l hl') ab hb' (fun z=>nab (T.je hu aa ab bu z)) (by omega)
   show ds es l u≠ds es l v
   omega
 ·left
  refine Bh fun l hl'=>?_
  have:=T.par (hl l hl') (T.cn.is hu hv).1
  show ds es l u≠ds es l v
  intro z
  rw [z] at this
  omega
structure sF (es:List (Nat×Nat)) (x y z t:Nat):Prop where
 xy:aB es x y
 zt:aB es z t
 fy:ds es z y=ds es z x + 1
 ft:ds es x t=ds es x z + 1
 ne:x=z->y≠t
theorem sF.swap (T:Tree m es){x y z t:Nat}(F:sF es x y z t):sF es z t x y:=⟨F.zt,F.xy,F.ft,F.fy,fun e z=>F.ne e.symm z.symm⟩
noncomputable def tl (es:List (Nat×Nat)) (l x y:Nat):Nat:=min (ds es l x) (ds es l y)
theorem qZ {l x y:Nat}:tl es l x y=tl es l y x:=Nat.min_comm ..
theorem lN (T:Tree m es){x y z t w a l j:Nat}(F:sF es x y z t)(hl:l < m)(hw:w < m)(h:aB es w a)(e0:ds es x z=j + j)(e1:ds es w z=j)(e2:ds es x w=j)(hb:aY es w a l)(hz:¬ aY es w a z)(ht:¬ aY es w a t)(ha:(j=0/\a=y)\/ds es a x + 1=j):tl es l x y < tl es l z t:=by
 obtain ⟨hx,hy⟩:=T.gd.b9 F.xy
 obtain ⟨hz',ht'⟩:=T.gd.b9 F.zt
 have ham:=(T.gd.b9 h).2
 have c1:=T.nY hz' hl h hz hb
 have c2:=T.nY ht' hl h ht hb
 have t1:=T.cn.fh hx hw ht'
 have ft:=F.ft
 rw [T.cn.sy hz' hw,T.cn.sy hz' hl] at c1
 rw [T.cn.sy ht' hw,T.cn.sy ht' hl] at c2
 unfold tl
 have hle:min (ds es l x) (ds es l y)<=ds es a l + (j - 1):=by
  rcases ha with ⟨j0,rfl⟩ | e
  ·rw [T.cn.sy hl ham]
   omega
  ·have:=T.cn.fh hl ham hx
   rw [T.cn.sy hl ham] at this
   omega
 omega
theorem FI (T:Tree m es){x y z t:Nat}(F:sF es x y z t){j:Nat}(e:ds es x z=j + j):∃ w a b,w < m/\aB es w a/\aB es w b/\a≠b/\∀ l,l < m->(aY es w a l->tl es l x y < tl es l z t)/\(aY es w b l->tl es l z t < tl es l x y):=by
 obtain ⟨hx,hy⟩:=T.gd.b9 F.xy
 obtain ⟨hz,ht⟩:=T.gd.b9 F.zt
 by_cases j0:j=0
 ·subst j0
  have exz:=T.cn.zero hx hz e
  subst exz
  have nyt:=F.ne rfl
  have ns:∀ c,c < m->¬ aY es z c z:=fun c _ q=>by unfold aY at q;rw [bJ] at q;omega
  refine ⟨z,y,t,hz,F.xy,F.zt,nyt,fun l hl=>⟨fun hb=>?_,fun hb=>?_⟩⟩
  ·exact lN (j:=0) T F hl hz F.xy e bJ bJ hb (ns y hy) (fun q=>nyt (T.je ht F.xy F.zt q (i6 T hz F.zt))) (.inl ⟨rfl,rfl⟩)
  ·exact lN (j:=0) T (F.swap T) hl hz F.zt e bJ bJ hb (ns t ht) (fun q=>nyt (T.je hy F.xy F.zt (i6 T hz F.xy) q)) (.inl ⟨rfl,rfl⟩)
 ·obtain ⟨w,hw,h1,h2⟩:=mid T hx hz e
  have nwx:w≠x:=fun q=>by rw [q,bJ] at h1;omega
  have nwz:w≠z:=fun q=>by rw [q,bJ] at h2;omega
  obtain ⟨a,ha,aa,ea⟩:=T.cn.pred T.gd hx hw nwx
  obtain ⟨b,hb,ab,eb⟩:=T.cn.pred T.gd hz hw nwz
  rw [T.cn.sy hz hb,T.cn.sy hz hw] at eb
  rw [T.cn.sy hx ha] at ea
  have ea':aY es w a x:=by unfold aY;rw [ea,T.cn.sy hx hw]
  have nab:a≠b:=fun q=>by
   subst q
   have:=T.cn.fh hx ha hz
   rw [T.cn.sy hx ha] at this
   omega
  have ft:=F.ft
  have fy:=F.fy
  have nt:t≠w:=fun q=>by rw [q] at ft;omega
  have ny:y≠w:=fun q=>by rw [q,T.cn.sy hz hw,T.cn.sy hz hx] at fy;omega
  have bz:aY es w b z:=eb
  have bt:aY es w b t:=T.jg hw hb ab bz F.zt nt
  have by':aY es w a y:=T.jg hw ha aa ea' F.xy ny
  refine ⟨w,a,b,hw,aa,ab,nab,fun l hl=>⟨fun q=>?_,fun q=>?_⟩⟩
  ·exact lN T F hl hw aa e h2 h1 q (fun r=>nab (T.je hz aa ab r bz)) (fun r=>nab (T.je ht aa ab r bt)) (.inr (by omega))
  ·exact lN T (F.swap T) hl hw ab (by rw [T.cn.sy hz hx];exact e) (by rw [T.cn.sy hw hx];exact h1) (by rw [T.cn.sy hz hw];exact h2) q (fun r=>nab (T.je hx aa ab ea' r)) (fun r=>nab (T.je hy aa ab by' r)) (.inr (by omega))
theorem Ew (T:Tree m es){x y z t:Nat}(F:sF es x y z t)(e:ds es x z % 2=1){l:Nat}(hl:l < m):tl es l x y≠tl es l z t:=by
 obtain ⟨hx,hy⟩:=T.gd.b9 F.xy
 obtain ⟨hz,ht⟩:=T.gd.b9 F.zt
 have side:∀ {x y z t:Nat},sF es x y z t->ds es x z % 2=1->ds es l x=ds es l y + 1->tl es l x y≠tl es l z t:=fun {x y z t} F e q=>by
  obtain ⟨hx,hy⟩:=T.gd.b9 F.xy
  obtain ⟨hz,ht⟩:=T.gd.b9 F.zt
  have hb:aY es x y l:=by unfold aY;rw [T.cn.sy hy hl,T.cn.sy hx hl];omega
  have fy:=F.fy
  have nz:¬ aY es x y z:=fun r=>by unfold aY at r;rw [T.cn.sy hy hz,T.cn.sy hx hz] at r;omega
  have xz:z≠x:=fun r=>by rw [r,bJ] at e;omega
  have nt:¬ aY es x y t:=fun r=>nz (T.jg hx hy F.xy r (cz _ _ F.zt) xz)
  have c1:=T.nY hz hl F.xy nz hb
  have c2:=T.nY ht hl F.xy nt hb
  rw [T.cn.sy hz hl,T.cn.sy hy hl] at c1
  rw [T.cn.sy ht hl,T.cn.sy hy hl] at c2
  unfold tl
  omega
 rcases T.near hl F.xy with q | q
 ·exact side F e q
 ·rcases T.near hl F.zt with r | r
  ·exact Ne.symm (side (F.swap T) (by rw [T.cn.sy hz hx];exact e) r)
  ·have:=T.par hl (T.cn.is hx hz).1
   unfold tl
   omega
theorem Cc (T:Tree m es){e f:Nat×Nat}(he:e∈es)(hf:f∈es)(ne:e≠f):∃ x y z t,sF es x y z t/\(∀ l,td es l (.inr e)=tl es l x y)/\∀ l,td es l (.inr f)=tl es l z t:=by
 have ae:aB es e.1 e.2:=.inl he
 have af:aB es f.1 f.2:=.inl hf
 obtain ⟨h1,h2⟩:=T.gd.b9 ae
 obtain ⟨h3,h4⟩:=T.gd.b9 af
 -- the end of e that is nearer to f's first
 have ⟨x,y,axy,fy,te,se⟩:∃ x y,aB es x y/\ds es f.1 y=ds es f.1 x + 1/\(∀ l,td es l (.inr e)=tl es l x y)/\((x=e.1/\y=e.2)\/(x=e.2/\y=e.1)):=by
  rcases T.near h3 ae with q | q
  ·exact ⟨e.2,e.1,cz _ _ ae,q,fun l=>qZ,.inr ⟨rfl,rfl⟩⟩
  ·exact ⟨e.1,e.2,ae,q,fun l=>rfl,.inl ⟨rfl,rfl⟩⟩
 obtain ⟨hx,hy⟩:=T.gd.b9 axy
 rcases T.near hx af with q | q
 ·refine ⟨x,y,f.2,f.1,⟨axy,cz _ _ af,?_,q,fun z1 z2=>?_⟩,te,fun l=>qZ⟩
  ·have g1:=T.near h4 axy
   have g2:=T.cn.fh h3 h4 hy
   have g3:=T.dn h3 af
   rw [T.cn.sy hx h3,T.cn.sy hx h4] at q
   omega
  ·have el:=(T.gd.lt e he).1
   have fl:=(T.gd.lt f hf).1
   rcases se with ⟨r1,r2⟩ | ⟨r1,r2⟩
   ·omega
   ·exact ne (Prod.ext (by omega) (by omega))
 ·refine ⟨x,y,f.1,f.2,⟨axy,af,fy,q,fun z1 z2=>?_⟩,te,fun l=>rfl⟩
  have el:=(T.gd.lt e he).1
  have fl:=(T.gd.lt f hf).1
  rcases se with ⟨r1,r2⟩ | ⟨r1,r2⟩
  ·exact ne (Prod.ext (by omega) (by omega))
  ·omega
theorem vH (T:Tree m es){ls:List Nat}(hl:∀ l∈ls,l < m){e f:Nat×Nat}(he:e∈es)(hf:f∈es)(ne:e≠f):pt es ls (.inr e) (.inr f)=ls.length\/∃ w a b,aB es w a/\aB es w b/\a≠b/\cb es ls w a + cb es ls w b<=pt es ls (.inr e) (.inr f):=by
 obtain ⟨x,y,z,t,F,te,tf⟩:=Cc T he hf ne
 rcases Nat.mod_two_eq_zero_or_one (ds es x z) with q | q
 ·right
  obtain ⟨w,a,b,hw,aa,ab,nab,h⟩:=FI T F (j:=ds es x z / 2) (by omega)
  refine ⟨w,a,b,aa,ab,nab,AF T hl aa ab nab (fun l hl' hb=>?_) fun l hl' hb=>?_⟩
  ·rw [te,tf]
   have:=(h l (hl l hl')).1 hb
   omega
  ·rw [te,tf]
   have:=(h l (hl l hl')).2 hb
   omega
 ·left
  exact Bh fun l hl'=>by rw [te,tf];exact Ew T F q (hl l hl')
theorem sE (T:Tree m es){ls:List Nat}(hl:∀ l∈ls,l < m){u:Nat}{e:Nat×Nat}(hu:u < m)(he:e∈es):∃ w a,aB es w a/\cb es ls w a<=pt es ls (.inl u) (.inr e):=by
 have ae:aB es e.1 e.2:=.inl he
 have ⟨x,y,axy,fy,te⟩:∃ x y,aB es x y/\ds es u y=ds es u x + 1/\∀ l,td es l (.inr e)=tl es l x y:=by
  rcases T.near hu ae with q | q
  ·exact ⟨e.2,e.1,cz _ _ ae,q,fun l=>qZ⟩
  ·exact ⟨e.1,e.2,ae,q,fun l=>rfl⟩
 obtain ⟨hx,hy⟩:=T.gd.b9 axy
 refine ⟨x,y,axy,IS fun l hl' hb=>?_⟩
 have hlm:=hl l hl'
 have nu:¬ aY es x y u:=fun r=>by unfold aY at r;rw [T.cn.sy hy hu,T.cn.sy hx hu] at r;omega
 have c1:=T.nY hu hlm axy nu hb
 rw [te]
 show ds es l u≠tl es l x y
 unfold aY at hb
 rw [T.cn.sy hu hlm,T.cn.sy hy hlm] at c1
 rw [T.cn.sy hy hlm,T.cn.sy hx hlm] at hb
 unfold tl
 omega
theorem CM {ls:List Nat}{p q r:Nat->Bool}(h:∀ l∈ls,r l=true->p l=true\/q l=true):(ls.filter r).length<=(ls.filter p).length + (ls.filter q).length:=by
 induction ls with
 | nil=>exact Nat.le_refl _
 | cons a ls ih =>
  have ih:=ih fun l hl=>h l (List.mem_cons_of_mem _ hl)
  have k:=h a List.mem_cons_self
  rw [List.filter_cons,List.filter_cons,List.filter_cons]
  cases e1:p a <;> cases e2:q a <;> cases e3:r a <;> simp_all <;> omega
theorem AA {ls:List Nat}{w a b:Nat}{t u:Th}(h:∀ l∈ls,td es l t≠td es l u->aY es w a l\/aY es w b l):pt es ls t u<=cb es ls w a + cb es ls w b:=CM fun l hl hr=>(h l hl (of_decide_eq_true hr)).imp (fun z=>decide_eq_true (p:=ds es a l + 1=ds es w l) z) fun z=>decide_eq_true (p:=ds es b l + 1=ds es w l) z
theorem HA {ls:List Nat}{w a:Nat}{t u:Th}(h:∀ l∈ls,td es l t≠td es l u->aY es w a l):pt es ls t u<=cb es ls w a:=by
 have:=CM (ls:=ls) (r:=fun l=>decide (td es l t≠td es l u)) (p:=fun l=>decide (ds es a l + 1=ds es w l)) (q:=fun _=>false) fun l hl hr=>.inl (decide_eq_true (p:=ds es a l + 1=ds es w l) (h l hl (of_decide_eq_true hr)))
 have e:(ls.filter fun _=>false)=[]:=List.filter_eq_nil_iff.mpr fun _ _ z=>by cases z
 rw [e] at this
 exact this
theorem uh (T:Tree m es){l w a:Nat}:td es l (.inr (iR w a))=tl es l w a:=by
 show min (ds es l (min w a)) (ds es l (max w a))=min (ds es l w) (ds es l a)
 rcases Nat.le_total w a with h | h
 ·rw [Nat.min_eq_left h,Nat.max_eq_right h]
 ·rw [Nat.min_eq_right h,Nat.max_eq_left h,Nat.min_comm]
theorem Bf (T:Tree m es){ls:List Nat}(hl:∀ l∈ls,l < m){w a b:Nat}(h:aB es w a)(g:aB es w b):pt es ls (.inl a) (.inl b)<=cb es ls w a + cb es ls w b:=AA fun l hl' ne=>by
 obtain ⟨hw,ha⟩:=T.gd.b9 h
 have hb:=(T.gd.b9 g).2
 have hlm:=hl l hl'
 have ne:ds es l a≠ds es l b:=ne
 have e1:=T.near hlm h
 have e2:=T.near hlm g
 unfold aY
 rw [T.cn.sy ha hlm,T.cn.sy hw hlm,T.cn.sy hb hlm]
 omega
theorem EI (T:Tree m es){ls:List Nat}(hl:∀ l∈ls,l < m){w a b:Nat}(h:aB es w a)(g:aB es w b):pt es ls (.inr (iR w a)) (.inr (iR w b))<=cb es ls w a + cb es ls w b:=AA fun l hl' ne=>by
 obtain ⟨hw,ha⟩:=T.gd.b9 h
 have hb:=(T.gd.b9 g).2
 have hlm:=hl l hl'
 rw [uh T,uh T] at ne
 unfold tl at ne
 have e1:=T.near hlm h
 have e2:=T.near hlm g
 unfold aY
 rw [T.cn.sy ha hlm,T.cn.sy hw hlm,T.cn.sy hb hlm]
 omega
theorem Gv (T:Tree m es){ls:List Nat}(hl:∀ l∈ls,l < m){w a:Nat}(h:aB es w a):pt es ls (.inl w) (.inr (iR w a))<=cb es ls w a:=HA fun l hl' ne=>by
 obtain ⟨hw,ha⟩:=T.gd.b9 h
 have hlm:=hl l hl'
 rw [uh T] at ne
 have ne:ds es l w≠tl es l w a:=ne
 unfold tl at ne
 have e1:=T.near hlm h
 unfold aY
 rw [T.cn.sy ha hlm,T.cn.sy hw hlm]
 omega
end
end PB
namespace Dv
open PySem L2
theorem HF {most i:Nat}{e:DE}{D:bY}{o:Option (Kd×PyData)}{E:En}:uN most i e D (o::E)=(kP (o::E) i=true/\e D.xc (o::E) fun E1 k v=>k.fz=true/\Du most E1 i v D.nx):=by
 unfold uN
 congr 1
 congr 1
 funext E1 k v
 congr 1
 unfold Du
 refine propext ⟨fun ⟨p,ds,es,e1,e2,h,q⟩=>by subst e2;rw [e1];exact ⟨h,q⟩,fun h=>?_⟩
 split at h
 ·rename_i p ds es e1
  exact ⟨p,ds,es,e1,rfl,h.1,h.2⟩
 ·exact h.elim
theorem J6 {most i:Nat}{E:En}{p:Bool}{ds es:List PyData}{Q:En->Prop}(h:E[i]?=some (some (.ow p,.list ds)))(hl:ds.length + es.length<=most)(q:Q (E.set i (some (.ow p,.list (ds++es))))):Du most E i (.list es) Q:=by
 unfold Du
 rw [h]
 exact ⟨hl,q⟩
end Dv
namespace PB
open PySem L2 Dv Gr
noncomputable def pc (m:Nat)(es:List (Nat×Nat)) (p n:Nat):List Nat:=(List.range m).filter fun x=>decide (ds es n x + 1=ds es p x)
theorem qt {m p n x:Nat}{es:List (Nat×Nat)}:x∈pc m es p n↔x < m/\aY es p n x:=by
 unfold pc
 rw [List.mem_filter,List.mem_range,decide_eq_true_eq]
 exact Iff.rfl
theorem CK {m p n:Nat}{es:List (Nat×Nat)}:rising (pc m es p n):=List.Pairwise.filter _ List.pairwise_lt_range
structure qk (m:Nat)(es:List (Nat×Nat)) (p n:Nat)(vis:List Nat)(stk:List (Nat×Nat)):Prop where
 nd:(vis++stk.map (·.2)).Nodup
 sN:∀ x∈vis++stk.map (·.2),x < m/\aY es p n x
 par:∀ q∈stk,aB es q.1 q.2/\ds es p q.2=ds es p q.1 + 1
 cl:∀ x∈vis,∀ y,aB es x y->ds es p y=ds es p x + 1->y∈vis++stk.map (·.2)
 up:∀ x∈vis++stk.map (·.2),x≠n->∃ y∈vis,aB es y x/\ds es p x=ds es p y + 1
 st:n∈vis++stk.map (·.2)
theorem qk.start {m p n:Nat}{es:List (Nat×Nat)}(T:Tree m es)(h:aB es p n):qk m es p n [] [(p,n)]:=by
 obtain ⟨hp,hn⟩:=T.gd.b9 h
 have one:∀ x,x∈([]:List Nat)++[(p,n)].map (·.2)↔x=n:=fun x=>by simp
 refine ⟨by simp,fun x hx=>?_,fun q hq=>?_,fun x hx=>absurd hx List.not_mem_nil,fun x hx ne=>absurd ((one x).mp hx) ne,(one n).mpr rfl⟩
 ·rw [(one x).mp hx];exact ⟨hn,i6 T hp h⟩
 ·rw [List.mem_singleton.mp hq]
  exact ⟨h,by rw [bJ,T.dn hp h]⟩
theorem qk.step {m p n l h:Nat}{es:List (Nat×Nat)}{vis:List Nat}{stk:List (Nat×Nat)}(T:Tree m es)(hpn:aB es p n)(D:qk m es p n vis (stk++[(l,h)])):qk m es p n (vis++[h]) (stk++((bO es h).filter fun y=>decide (y≠l)).map fun y=>(h,y)):=by
 obtain ⟨hp,hn⟩:=T.gd.b9 hpn
 have old:∀ x,x∈vis++(stk++[(l,h)]).map (·.2)↔x∈vis\/x∈stk.map (·.2)\/x=h:=fun x=>by
  rw [List.mem_append,List.map_append,List.mem_append];simp
 have hh:=D.sN h ((old h).mpr (.inr (.inr rfl)))
 have ⟨alh,elh⟩:=D.par (l,h) (List.mem_append.mpr (.inr List.mem_cons_self))
 have alh:aB es l h:=alh
 have elh:ds es p h=ds es p l + 1:=elh
 have kid:∀ y,aB es h y->(y≠l↔ds es p y=ds es p h + 1):=fun y a=>by
  constructor
  ·intro ne
   rcases T.near hp a with z | z
   ·exact absurd (T.one hp a (cz _ _ alh) z (by omega)) ne
   ·exact z
  ·rintro e rfl
   omega
 have newm:∀ y,y∈(((bO es h).filter fun y=>decide (y≠l)).map fun y=>(h,y)).map (·.2)↔aB es h y/\ds es p y=ds es p h + 1:=fun y=>by
  rw [List.map_map]
  have:((fun x:Nat×Nat=>x.2) ∘ fun y=>(h,y))=id:=rfl
  rw [this,List.map_id,List.mem_filter,decide_eq_true_eq,cF]
  exact ⟨fun ⟨a,b⟩=>⟨a,(kid y a).mp b⟩,fun ⟨a,b⟩=>⟨a,(kid y a).mpr b⟩⟩
 have ndo:=D.nd
 rw [List.map_append,<- List.append_assoc] at ndo
 have hnot:h∉vis++stk.map (·.2):=fun z=>(List.nodup_append.mp ndo).2.2 h z h (by simp) rfl
 have nvis:h∉vis:=fun z=>hnot (List.mem_append.mpr (.inl z))
 have newn:∀ y,aB es h y->ds es p y=ds es p h + 1->y∉vis++(stk++[(l,h)]).map (·.2):=fun y a e z=>by
  have yn:y≠n:=fun q=>by
   have h1:=T.dn hp hpn
   have h2:=hh.2
   unfold aY at h2
   rw [q] at e
   omega
  obtain ⟨w,hw,b,e2⟩:=D.up y z yn
  have:=T.one hp (cz _ _ a) (cz _ _ b) e e2
  exact nvis (this ▸ hw)
 have nw:∀ x,x∈(vis++[h])++(stk++((bO es h).filter fun y=>decide (y≠l)).map fun y=>(h,y)).map (·.2)↔(x∈vis\/x∈stk.map (·.2)\/x=h)\/(aB es h x/\ds es p x=ds es p h + 1):=fun x=>by
  rw [List.mem_append,List.map_append,List.mem_append,List.mem_append,newm,List.mem_singleton]
  constructor
  ·rintro ((a | a) | a | a)
   ·exact .inl (.inl a)
   ·exact .inl (.inr (.inr a))
   ·exact .inl (.inr (.inl a))
   ·exact .inr a
  ·rintro ((a | a | a) | a)
   ·exact .inl (.inl a)
   ·exact .inr (.inl a)
   ·exact .inl (.inr a)
   ·exact .inr (.inr a)
 refine ⟨?_,fun x hx=>?_,fun q hq=>?_,fun x hx y a e=>?_,fun x hx ne=>?_,?_⟩
 ·-- none twice
  rw [List.map_append,<- List.append_assoc,List.nodup_append]
  refine ⟨?_,?_,fun a ha b hb e=>?_⟩
  ·rw [List.append_assoc]
   refine List.Perm.nodup_iff (List.Perm.append_left vis List.perm_append_comm) |>.mpr ?_
   rw [<- List.append_assoc]
   exact ndo
  ·rw [List.map_map]
   have:((fun x:Nat×Nat=>x.2) ∘ fun y=>(h,y))=id:=rfl
   rw [this,List.map_id]
   exact List.Sublist.nodup List.filter_sublist (T.gd.mZ h)
  ·subst e
   have hb:=(newm a).mp hb
   refine newn a hb.1 hb.2 ((old a).mpr ?_)
   rcases List.mem_append.mp ha with z | z
   ·rcases List.mem_append.mp z with z | z
    ·exact .inl z
    ·exact .inr (.inr (List.mem_singleton.mp z))
   ·exact .inr (.inl z)
 ·rcases (nw x).mp hx with z | ⟨a,e⟩
  ·exact D.sN x ((old x).mpr z)
  ·exact ⟨(T.gd.b9 a).2,T.jg hp hn hpn hh.2 a fun q=>by rw [q,bJ] at e;omega⟩
 ·rcases List.mem_append.mp hq with z | z
  ·exact D.par q (List.mem_append.mpr (.inl z))
  ·obtain ⟨y,hy,rfl⟩:=List.mem_map.mp z
   have:=(newm y).mp (List.mem_map.mpr ⟨_,z,rfl⟩)
   exact this
 ·rw [nw]
  rcases List.mem_append.mp hx with z | z
  ·exact .inl ((old y).mp (D.cl x z y a e))
  ·rw [List.mem_singleton.mp z] at a e
   exact .inr ⟨a,e⟩
 ·rcases (nw x).mp hx with z | ⟨a,e⟩
  ·obtain ⟨y,hy,b,e⟩:=D.up x ((old x).mpr z) ne
   exact ⟨y,List.mem_append.mpr (.inl hy),b,e⟩
  ·exact ⟨h,List.mem_append.mpr (.inr List.mem_cons_self),a,e⟩
 ·rw [nw]
  exact .inl ((old n).mp D.st)
theorem qk.done {m p n:Nat}{es:List (Nat×Nat)}{vis:List Nat}(T:Tree m es)(h:aB es p n)(D:qk m es p n vis []):vis.Perm (pc m es p n):=by
 obtain ⟨hp,hn⟩:=T.gd.b9 h
 have e:vis++([]:List (Nat×Nat)).map (·.2)=vis:=List.append_nil _
 have all:∀ (k x:Nat),x < m->aY es p n x->ds es n x=k->x∈vis:=by
  intro k
  induction k with
  | zero =>
   intro x hx hb e0
   have:=T.cn.zero hn hx e0
   subst this
   have:=D.st
   rw [e] at this
   exact this
  | succ k ih =>
   intro x hx hb e1
   obtain ⟨y,hy,a,by',e2,e3⟩:=T.uT hp hx h hb fun q=>by rw [q,bJ] at e1;omega
   have:=D.cl y (ih y hy by' (by omega)) x a e2
   rw [e] at this
   exact this
 have nd:=D.nd
 rw [e] at nd
 have nd2:(pc m es p n).Nodup:=List.Sublist.nodup List.filter_sublist List.nodup_range
 refine (List.perm_ext_iff_of_nodup nd nd2).mpr fun x=>?_
 rw [qt]
 constructor
 ·intro hx
  have:=D.sN x (by rw [e];exact hx)
  exact this
 ·rintro ⟨hx,hb⟩
  exact all _ x hx hb rfl
end PB
namespace PB
open PySem L2 Dv Gr
theorem kD:∀ {l k:List Nat},l.Perm k->l.Pairwise (·<=·)->k.Pairwise (·<=·)->l=k
 | [],k,p,_,_=>(List.Perm.nil_eq p)
 | a::l,[],p,_,_=>by have:=p.length_eq;simp at this
 | a::l,b::k,p,h1,h2=>by
  have ha:a∈b::k:=p.mem_iff.mp List.mem_cons_self
  have hb:b∈a::l:=p.mem_iff.mpr List.mem_cons_self
  have e:a=b:=by
   have l1:b<=a:=by
    rcases List.mem_cons.mp ha with z | z
    ·omega
    ·exact (List.pairwise_cons.mp h2).1 a z
   have l2:a<=b:=by
    rcases List.mem_cons.mp hb with z | z
    ·omega
    ·exact (List.pairwise_cons.mp h1).1 b z
   omega
  subst e
  rw [kD (List.perm_cons a |>.mp p) (List.pairwise_cons.mp h1).2 (List.pairwise_cons.mp h2).2]
theorem Ah {l:List Nat}(h:rising l):l.Pairwise (·<=·):=h.imp fun h=>Nat.le_of_lt h
def rW:bW:=fun dd Q x=>∃ m es p n,dd=[Bd m es,iD p,iD n]/\m<=60/\Tree m es/\aB es p n/\Q [] (.ow false) (nD (pc m es p n))
theorem HB:∀ dd Q x,rW dd Q x->ja (bH [false,false,false] Q x) (ini [false,false,false] dd++List.replicate 5 none):=by
 rintro _ Q x ⟨m,es,p,n,rfl,hm,T,hpn,q⟩
 unfold ja
 simp only [dv,dw,dx,dy,dz,Nat.reduceBEq]
 refine ⟨by omega,by omega,by omega,?_⟩
 refine ⟨fun k E=>∃ (vis:List Nat)(stk:List (Nat×Nat))(o5 o6:Option (Kd×PyData)),E=[some (.sh,Bd m es),some (.sh,iD p),some (.sh,iD n),some (.ow false,nD vis),some (.ow false,.list (stk.map fX)),o5,o6,none]/\bG o5=true/\bG o6=true/\k=m - vis.length/\qk m es p n vis stk,⟨m,[],[(p,n)],none,none,rfl,rfl,rfl,rfl,qk.start T hpn⟩,?_⟩
 rintro k _ ⟨vis,stk,o5,o6,rfl,h5,h6,rfl,D⟩
 simp only [dv,dw,dx,dy,dz,Nat.reduceBEq,List.isEmpty_map]
 rcases List.eq_nil_or_concat stk with rfl | ⟨stk,⟨l,h⟩,rfl⟩
 ·simp only [dv,dw,dx,dy,dz,Nat.reduceBEq,List.isEmpty_nil]
  have pm:=D.done T hpn
  have hl:vis.length<=m:=by
   rw [pm.length_eq]
   exact lM CK fun x hx=>(qt.mp hx).1
  refine nQ (by omega) fun ms p1 s1=>?_
  rw [kD (p1.trans pm) s1 (Ah CK)]
  simp only [dv,dw,dx,dy,dz,Nat.reduceBEq]
  exact q
 ·have ne:(stk++[(l,h)]).isEmpty=false:=by simp
  rw [List.concat_eq_append] at D ⊢
  have e1:(List.map fX (stk++[(l,h)]))[(stk++[(l,h)]).length - 1]?=some (fX (l,h)):=by
   rw [List.map_append,List.length_append]
   show (stk.map fX++[fX (l,h)])[stk.length + 1 - 1]?=_
   rw [Nat.add_sub_cancel,List.getElem?_append_right (by rw [List.length_map];exact Nat.le_refl _),List.length_map,Nat.sub_self]
   rfl
  have e2:(List.map fX (stk++[(l,h)])).dropLast=stk.map fX:=by rw [List.map_append];exact List.dropLast_concat
  have hhm:h < m/\aY es p n h:=D.sN h (by simp)
  have D2:=D.step T hpn
  have hv:(vis++[h]).length<=m:=Gr.ff m _ (List.nodup_append.mp D2.nd).1 fun x hx=>(D2.sN x (List.mem_append.mpr (.inl hx))).1
  rw [List.length_append] at hv
  have hv:vis.length + 1<=m:=hv
  simp only [ne,e1,e2,dv,dw,dx,dy,dz,Nat.reduceBEq,h5,h6,HF,List.getElem?_range hhm.1]
  refine ⟨by omega,?_⟩
  have hst:stk.length + ((bO es h).filter fun y=>decide (y≠l)).length<=m:=by
   have:=Gr.ff m _ (List.nodup_append.mp D2.nd).2.1 fun x hx=>(D2.sN x (List.mem_append.mpr (.inr hx))).1
   rw [List.length_map,List.length_append,List.length_map] at this
   exact this
  refine lD (fun y=>if decide (y≠l)=true then some (fX (h,y)) else none) rfl (fun y hy I hI=>?_) ?_ (by have:=T.gd.jf h;omega)
  ·simp only [dv,dw,dx,dy,dz,Nat.reduceBEq] at hI ⊢
   split
   ·rename_i c
    rw [if_pos c] at hI
    exact ⟨by omega,hI _ rfl⟩
   ·rename_i c
    rw [if_neg c] at hI
    exact hI _ rfl
  ·rw [gW]
   refine ⟨rfl,J6 rfl (by rw [List.length_map,List.length_map];omega) ⟨m - (vis++[h]).length,by rw [List.length_append];show m - (vis.length + 1) < _;omega,vis++[h],_,some (.sh,iD l),some (.sh,iD h),?_,rfl,rfl,rfl,D2⟩⟩
   rw [xm,List.map_append,List.map_map]
   rfl
def rD:bW:=fun dd Q x=>∃ m es,dd=[wD m es]/\1<=m/\Q [] .sh (.bool (decide (es.length + 1=m)))
theorem Jc:∀ dd Q x,rD dd Q x->nA (bH [false] Q x) (ini [false] dd++List.replicate 2 none):=by
 rintro _ Q x ⟨m,es,rfl,hm,q⟩
 unfold nA
 simp only [dv,dw,dx,dy,dz,Nat.reduceBEq]
 have e:decide ((es.length:Int)=(m:Int) - 1)=decide (es.length + 1=m):=by
  by_cases c:es.length + 1=m
  ·rw [decide_eq_true c,decide_eq_true (by omega)]
  ·rw [decide_eq_false c,decide_eq_false (by omega)]
 rw [e]
 exact q
def lK:bW:=fun dd Q x=>∃ m es,dd=[wD m es]/\1<=m/\(es.length + 1=m->Q [] .sh .none)/\(es.length + 1≠m->x "NoTree" .none)
theorem IJ:∀ dd Q x,lK dd Q x->gS rD (bH [false] Q x) (ini [false] dd++List.replicate 0 none):=by
 rintro _ Q x ⟨m,es,rfl,hm,q,r⟩
 unfold gS
 simp only [dv,dw,dx,dy,dz,Nat.reduceBEq]
 refine ⟨m,es,rfl,hm,?_⟩
 simp only [dv,dw,dx,dy,dz,Nat.reduceBEq]
 split
 ·rename_i h
  exact r h
 ·rename_i h
  exact q (Decidable.of_not_not h)
def sj:bW:=fun dd Q x=>∃ m es p,dd=[wD m es,iD p]/\gc m es/\es.length + 1=m/\p < m/\Q [] (.ow false) (.list ((bO es p).map fun n=>nD (pc m es p n)))
theorem HX:∀ dd Q x,sj dd Q x->kJ lK su rP rW (bH [false,false] Q x) (ini [false,false] dd++List.replicate 2 none):=by
 rintro _ Q x ⟨m,es,p,rfl,W,ht,hp,q⟩
 have hm:=W.le
 have T:Tree m es:=⟨W.gd,W.cn,ht⟩
 unfold kJ
 simp only [dv,dw,dx,dy,dz,Nat.reduceBEq]
 refine ⟨m,es,rfl,W.pos,fun _=>?_,fun z=>absurd ht z⟩
 simp only [dv,dw,dx,dy,dz,Nat.reduceBEq]
 refine ⟨m,es,p,rfl,fun _=>?_,fun z=>absurd ⟨by omega,by omega⟩ z⟩
 simp only [dv,dw,dx,dy,dz,Nat.reduceBEq]
 refine ⟨m,es,rfl,W.le,W.gd,?_⟩
 simp only [dv,dw,dx,dy,dz,Nat.reduceBEq,List.getElem?_range hp]
 refine gb (fun n=>nD (pc m es p n)) rfl (fun n hn I hI=>?_) ?_ (by have:=W.gd.jf p;omega)
 ·simp only [dv,dw,dx,dy,dz,Nat.reduceBEq]
  refine ⟨m,es,p,n,rfl,W.le,T,cF.mp hn,?_⟩
  simp only [dv,dw,dx,dy,dz,Nat.reduceBEq]
  exact hI _ rfl
 ·simp only [dv,dw,dx,dy,dz,Nat.reduceBEq]
  exact q
noncomputable def yM (m:Nat)(es:List (Nat×Nat))(ls:List Nat) (p:Nat)(r:List Nat):Prop:=∃ ns:List Nat,ns.Perm (bO es p)/\r=ns.map (cb es ls p)/\r.Pairwise (·<=·)
def q9:bW:=fun dd Q x=>∃ m es ls p,dd=[wD m es,nD ls,iD p]/\gc m es/\es.length + 1=m/\eF m ls/\p < m/\∀ r,yM m es ls p r->Q [] (.ow false) (nD r)
theorem Gm:∀ dd Q x,q9 dd Q x->gr sj (bH [false,false,false] Q x) (ini [false,false,false] dd++List.replicate 2 none):=by
 rintro _ Q x ⟨m,es,ls,p,rfl,W,ht,L,hp,q⟩
 have hm:=W.le
 have hL:=L.len
 have hnb:=W.gd.jf p
 unfold gr
 simp only [dv,dw,dx,dy,dz,Nat.reduceBEq]
 refine ⟨m,es,p,rfl,W,ht,hp,?_⟩
 simp only [dv,dw,dx,dy,dz,Nat.reduceBEq]
 refine gb (fun n=>iD (cb es ls p n)) rfl (fun n hn I hI=>?_) ?_ (by omega)
 ·simp only [dv,dw,dx,dy,dz,Nat.reduceBEq]
  refine lD (fun l=>if decide (ds es n l + 1=ds es p l)=true then some (iD l) else none) rfl (fun l hl J hJ=>?_) ?_ (by omega)
  ·have hin:decide (iD l∈(pc m es p n).map iD)=decide (ds es n l + 1=ds es p l):=by
    have:iD l∈(pc m es p n).map iD↔l∈pc m es p n:=⟨fun h=>by obtain ⟨y,hy,e⟩:=List.mem_map.mp h;rw [<- jT.mp e];exact hy,fun h=>List.mem_map.mpr ⟨l,h,rfl⟩⟩
    by_cases c:ds es n l + 1=ds es p l
    ·rw [decide_eq_true c,decide_eq_true (this.mpr (qt.mpr ⟨L.lt l hl,c⟩))]
    ·rw [decide_eq_false c,decide_eq_false fun z=>c (qt.mp (this.mp z)).2]
   have dli:((pc m es p n).all fun a=>dl 8 (iD a))=true:=by rw [List.all_eq_true];exact fun _ _=>rfl
   simp only [dv,dw,dx,dy,dz,Nat.reduceBEq,dli] at hJ ⊢
   refine ⟨rfl,?_⟩
   rw [decide_eq_decide] at hin
   split
   ·rename_i c
    rw [if_pos (hin.mp c)] at hJ
    exact hJ _ rfl
   ·rename_i c
    rw [if_neg fun z=>c (hin.mpr z)] at hJ
    exact hJ _ rfl
  ·rw [gW]
   simp only [dv,dw,dx,dy,dz,Nat.reduceBEq]
   exact hI _ rfl
 ·simp only [dv,dw,dx,dy,dz,Nat.reduceBEq]
  have e:(bO es p).map (fun n=>iD (cb es ls p n))=((bO es p).map (cb es ls p)).map iD:=by rw [List.map_map];rfl
  rw [e]
  refine nQ (by rw [List.length_map];omega) fun r p1 s1=>?_
  obtain ⟨ns,h1,h2⟩:=gJ _ p1
  exact q r ⟨ns,h1,h2,s1⟩
end PB
namespace PB
open PySem L2 Dv Gr
section
variable {m:Nat}{es:List (Nat×Nat)}{ls:List Nat}
theorem pK {k:Str}(gd:Good m es):(aK k m es).Nodup:=by
 unfold aK
 refine List.nodup_append.mpr ⟨?_,?_,fun a ha b hb e=>?_⟩
 ·split
  ·exact List.nodup_nil
  ·exact List.Pairwise.map _ (fun a b h e=>h (by cases e;rfl)) List.nodup_range
 ·split
  ·exact List.nodup_nil
  ·exact List.Pairwise.map _ (fun a b h e=>h (by cases e;rfl)) gd.nd
 ·subst e
  split at ha
  ·cases ha
  ·obtain ⟨x,_,rfl⟩:=List.mem_map.mp ha
   split at hb
   ·cases hb
   ·obtain ⟨y,_,e⟩:=List.mem_map.mp hb
    cases e
theorem An {ts:List Th}(nd:ts.Nodup){s:Nat}(h1:∃ t u,t∈ts/\u∈ts/\t≠u/\pt es ls t u=s)(h2:∀ t u,t∈ts->u∈ts->t≠u->s<=pt es ls t u):gP (ts.map (cL es ls)) (iD s):=by
 have get:∀ {i:Nat}{t:Th},ts[i]?=some t->(ts.map (cL es ls))[i]?=some (cL es ls t):=fun e=>by rw [List.getElem?_map,e];rfl
 refine .inr ⟨s,rfl,?_,fun n hn=>?_⟩
 ·obtain ⟨t,u,ht,hu,ne,e⟩:=h1
  obtain ⟨i,hi⟩:=List.mem_iff_getElem?.mp ht
  obtain ⟨j,hj⟩:=List.mem_iff_getElem?.mp hu
  rcases Nat.lt_trichotomy i j with l | l | l
  ·exact j9.mpr ⟨i,j,_,_,l,get hi,get hj,by rw [vj,e]⟩
  ·subst l
   rw [hi] at hj
   cases hj
   exact absurd rfl ne
  ·exact j9.mpr ⟨j,i,_,_,l,get hj,get hi,by rw [vj,xC,e]⟩
 ·obtain ⟨i,j,a,b,l,e1,e2,rfl⟩:=j9.mp hn
  rw [List.getElem?_map] at e1 e2
  obtain ⟨t,ht,rfl⟩:=Option.map_eq_some_iff.mp e1
  obtain ⟨u,hu,rfl⟩:=Option.map_eq_some_iff.mp e2
  rw [vj]
  refine h2 t u (List.mem_of_getElem? ht) (List.mem_of_getElem? hu) fun e=>?_
  subst e
  have hi:=av ht
  have hj:=av hu
  rw [List.getElem?_eq_getElem hi] at ht
  rw [List.getElem?_eq_getElem hj] at hu
  exact (List.pairwise_iff_getElem.mp nd i j hi hj l) (by rw [Option.some.inj ht,Option.some.inj hu])
theorem str_none {ts:List Th}(h:ts.length < 2):gP (ts.map (cL es ls)) .none:=by
 refine .inl ⟨?_,rfl⟩
 cases e:ng (ts.map (cL es ls)) with
 | nil=>rfl
 | cons n l =>
  have:n∈ng (ts.map (cL es ls)):=by rw [e];exact List.mem_cons_self
  obtain ⟨i,j,a,b,l,e1,e2,_⟩:=j9.mp this
  have:=av e1
  have:=av e2
  rw [List.length_map] at *
  omega
theorem Ig {ts:List Th}(nd:ts.Nodup)(h:2<=ts.length):∃ t u,t∈ts/\u∈ts/\t≠u:=⟨ts[0],ts[1],List.getElem_mem _,List.getElem_mem _,List.pairwise_iff_getElem.mp nd 0 1 (by omega) (by omega) (by omega)⟩
noncomputable def rowOf (es:List (Nat×Nat))(ls:List Nat) (p:Nat):List Nat:=((bO es p).map (cb es ls p)).mergeSort
theorem qh (p:Nat):yM m es ls p (rowOf es ls p):=by
 obtain ⟨ns,h1,h2⟩:=gJ _ (List.mergeSort_perm ((bO es p).map (cb es ls p)) (·<=·))
 refine ⟨ns,h1,h2,?_⟩
 have:=List.pairwise_mergeSort (le:=fun a b:Nat=>decide (a<=b)) (fun a b c h1 h2=>by simp at *;omega) (fun a b=>by simp;omega) ((bO es p).map (cb es ls p))
 exact this.imp fun h=>by simpa using h
theorem Ac {p:Nat}{r:List Nat}(h:yM m es ls p r):r=rowOf es ls p:=by
 obtain ⟨ns,h1,h2,h3⟩:=h
 obtain ⟨ns',g1,g2,g3⟩:=qh (m:=m) (es:=es) (ls:=ls) p
 rw [h2] at h3 ⊢
 rw [g2] at g3 ⊢
 exact kD ((h1.trans g1.symm).map _) h3 g3
theorem nX {p:Nat}:(rowOf es ls p).length=(bO es p).length:=by
 obtain ⟨ns,h1,h2,_⟩:=qh (m:=0) (es:=es) (ls:=ls) p
 rw [h2,List.length_map,h1.length_eq]
theorem aN {l:List Nat}{k:Nat}(h:k < l.length):l[k]?=some (l.getD k 0):=by
 rw [List.getElem?_eq_getElem h,List.getD_eq_getElem?_getD,List.getElem?_eq_getElem h]
 rfl
theorem HY (gd:Good m es){p:Nat}{x:Nat}(h:(rowOf es ls p)[0]?=some x):(∃ a,aB es p a/\x=cb es ls p a)/\∀ a,aB es p a->x<=cb es ls p a:=by
 obtain ⟨ns,h1,h2,h3⟩:=qh (m:=m) (es:=es) (ls:=ls) p
 generalize rowOf es ls p=r at *
 subst h2
 rw [List.getElem?_map] at h
 obtain ⟨a,ha,rfl⟩:=Option.map_eq_some_iff.mp h
 refine ⟨⟨a,cF.mp (h1.mem_iff.mp (List.mem_of_getElem? ha)),rfl⟩,fun b hb=>?_⟩
 obtain ⟨i,hi⟩:=List.mem_iff_getElem?.mp (h1.mem_iff.mpr (cF.mpr hb))
 by_cases c:i=0
 ·subst c
  rw [ha] at hi
  cases hi
  exact Nat.le_refl _
 ·have e1:=List.getElem?_eq_getElem (av ha)
  have e2:=List.getElem?_eq_getElem (av hi)
  rw [ha] at e1
  rw [hi] at e2
  have:=List.pairwise_iff_getElem.mp h3 0 i (by rw [List.length_map];exact av ha) (by rw [List.length_map];exact av hi) (by omega)
  rw [List.getElem_map,List.getElem_map,<- Option.some.inj e1,<- Option.some.inj e2] at this
  exact this
theorem t7 (gd:Good m es){p x y:Nat}(h:(rowOf es ls p)[0]?=some x)(g:(rowOf es ls p)[1]?=some y):(∃ a b,aB es p a/\aB es p b/\a≠b/\x + y=cb es ls p a + cb es ls p b)/\∀ a b,aB es p a->aB es p b->a≠b->x + y<=cb es ls p a + cb es ls p b:=by
 obtain ⟨ns,h1,h2,h3⟩:=qh (m:=m) (es:=es) (ls:=ls) p
 generalize rowOf es ls p=r at *
 subst h2
 have nd:ns.Nodup:=h1.nodup_iff.mpr (gd.mZ p)
 rw [List.getElem?_map] at h g
 obtain ⟨a,ha,rfl⟩:=Option.map_eq_some_iff.mp h
 obtain ⟨b,hb,rfl⟩:=Option.map_eq_some_iff.mp g
 have e0:=Option.some.inj (ha.symm.trans (List.getElem?_eq_getElem (av ha)))
 have e1:=Option.some.inj (hb.symm.trans (List.getElem?_eq_getElem (av hb)))
 have le:∀ i j (hi:i < ns.length)(hj:j < ns.length),i<=j->cb es ls p ns[i]<=cb es ls p ns[j]:=fun i j hi hj l=>by
  by_cases c:i=j
  ·subst c;exact Nat.le_refl _
  ·have:=List.pairwise_iff_getElem.mp h3 i j (by rw [List.length_map];exact hi) (by rw [List.length_map];exact hj) (by omega)
   rw [List.getElem_map,List.getElem_map] at this
   exact this
 refine ⟨⟨a,b,cF.mp (h1.mem_iff.mp (List.mem_of_getElem? ha)),cF.mp (h1.mem_iff.mp (List.mem_of_getElem? hb)),?_,rfl⟩,fun c d hc hd ne=>?_⟩
 ·rw [e0,e1]
  exact List.pairwise_iff_getElem.mp nd 0 1 (av ha) (av hb) (by omega)
 ·obtain ⟨i,hi⟩:=List.mem_iff_getElem?.mp (h1.mem_iff.mpr (cF.mpr hc))
  obtain ⟨j,hj⟩:=List.mem_iff_getElem?.mp (h1.mem_iff.mpr (cF.mpr hd))
  have f0:=Option.some.inj (hi.symm.trans (List.getElem?_eq_getElem (av hi)))
  have f1:=Option.some.inj (hj.symm.trans (List.getElem?_eq_getElem (av hj)))
  have nij:i≠j:=fun q=>by
   subst q
   rw [hi] at hj
   cases hj
   exact ne rfl
  rw [e0,e1,f0,f1]
  rcases Nat.lt_or_gt_of_ne nij with l | l
  ·have:=le 0 i (av ha) (av hi) (by omega)
   have:=le 1 j (av hb) (av hj) (by omega)
   omega
  ·have:=le 0 j (av ha) (av hj) (by omega)
   have:=le 1 i (av hb) (av hi) (by omega)
   omega
theorem Co (T:Tree m es)(hl:∀ l∈ls,l < m){k:Str}(hk:k="places"\/k="ties"){t u:Th}(ht:t∈aK k m es)(hu:u∈aK k m es)(ne:t≠u):pt es ls t u=ls.length\/∃ w a b,aB es w a/\aB es w b/\a≠b/\cb es ls w a + cb es ls w b<=pt es ls t u:=by
 rcases hk with rfl | rfl
 ·have e:aK "places" m es=(List.range m).map Sum.inl:=by
   unfold aK
   rw [if_neg (by decide),if_pos rfl,List.append_nil]
  rw [e] at ht hu
  obtain ⟨x,hx,rfl⟩:=List.mem_map.mp ht
  obtain ⟨y,hy,rfl⟩:=List.mem_map.mp hu
  exact p7 T hl (List.mem_range.mp hx) (List.mem_range.mp hy) fun z=>ne (by rw [z])
 ·have e:aK "ties" m es=es.map Sum.inr:=by
   unfold aK
   rw [if_pos rfl,if_neg (by decide),List.nil_append]
  rw [e] at ht hu
  obtain ⟨x,hx,rfl⟩:=List.mem_map.mp ht
  obtain ⟨y,hy,rfl⟩:=List.mem_map.mp hu
  exact vH T hl hx hy fun z=>ne (by rw [z])
theorem E8 (T:Tree m es)(hl:∀ l∈ls,l < m){t u:Th}(ht:t∈aK "all" m es)(hu:u∈aK "all" m es)(ne:t≠u):pt es ls t u=ls.length\/∃ w a,aB es w a/\cb es ls w a<=pt es ls t u:=by
 have e:aK "all" m es=(List.range m).map Sum.inl++es.map Sum.inr:=by
  unfold aK
  rw [if_neg (by decide),if_neg (by decide)]
 rw [e] at ht hu
 rcases List.mem_append.mp ht with h | h <;> rcases List.mem_append.mp hu with g | g <;> obtain ⟨x,hx,rfl⟩:=List.mem_map.mp h <;> obtain ⟨y,hy,rfl⟩:=List.mem_map.mp g
 ·exact (p7 T hl (List.mem_range.mp hx) (List.mem_range.mp hy) fun z=>ne (by rw [z])).imp id fun ⟨w,a,b,h1,_,_,h4⟩=>⟨w,a,h1,by omega⟩
 ·exact .inr (sE T hl (List.mem_range.mp hx) hy)
 ·rw [xC]
  exact .inr (sE T hl (List.mem_range.mp hy) hx)
 ·exact (vH T hl hx hy fun z=>ne (by rw [z])).imp id fun ⟨w,a,b,h1,_,_,h4⟩=>⟨w,a,h1,by omega⟩
theorem w5 (T:Tree m es)(m2:2<=m)(L:eF m ls){s:Nat}(h1:∃ p,p < m/\(rowOf es ls p)[0]?=some s)(h2:∀ p x,p < m->(rowOf es ls p)[0]?=some x->s<=x):gP ((aK "all" m es).map (cL es ls)) (iD s):=by
 obtain ⟨p,hp,e⟩:=h1
 obtain ⟨⟨a,ha,rfl⟩,_⟩:=HY T.gd e
 have hall:aK "all" m es=(List.range m).map Sum.inl++es.map Sum.inr:=by
  unfold aK
  rw [if_neg (by decide),if_neg (by decide)]
 have low:∀ t u,t∈aK "all" m es->u∈aK "all" m es->t≠u->cb es ls p a<=pt es ls t u:=fun t u ht hu ne=>by
  rcases E8 T L.lt ht hu ne with z | ⟨w,b,hb,le⟩
  ·rw [z];exact List.length_filter_le ..
  ·obtain ⟨hw,_⟩:=T.gd.b9 hb
   have hlen:0 < (rowOf es ls w).length:=by
    rw [nX]
    exact List.length_pos_of_mem (cF.mpr hb)
   have h3:=h2 w _ hw (List.getElem?_eq_getElem hlen)
   have h4:=(HY T.gd (List.getElem?_eq_getElem hlen)).2 b hb
   omega
 have mp:(Sum.inl p:Th)∈aK "all" m es:=by rw [hall];exact List.mem_append.mpr (.inl (List.mem_map.mpr ⟨p,List.mem_range.mpr hp,rfl⟩))
 have me:(Sum.inr (iR p a):Th)∈aK "all" m es:=by rw [hall];exact List.mem_append.mpr (.inr (List.mem_map.mpr ⟨_,lE T.gd ha,rfl⟩))
 refine An (pK T.gd) ⟨_,_,mp,me,(by intro z;cases z),?_⟩ low
 have:=Gv T L.lt ha
 have:=low _ _ mp me (by intro z;cases z)
 omega
theorem AY (T:Tree m es){k:Str}(hk:k="places"\/k="ties"){w a b:Nat}(ha:aB es w a)(hb:aB es w b)(ne:a≠b)(L:∀ l∈ls,l < m):∃ t u,t∈aK k m es/\u∈aK k m es/\t≠u/\pt es ls t u<=cb es ls w a + cb es ls w b:=by
 have hwm:=T.gd.b9 ha
 have hbm:=T.gd.b9 hb
 rcases hk with rfl | rfl
 ·have e:aK "places" m es=(List.range m).map Sum.inl:=by
   unfold aK
   rw [if_neg (by decide),if_pos rfl,List.append_nil]
  rw [e]
  exact ⟨.inl a,.inl b,List.mem_map.mpr ⟨a,List.mem_range.mpr hwm.2,rfl⟩,List.mem_map.mpr ⟨b,List.mem_range.mpr hbm.2,rfl⟩,fun z=>ne (by cases z;rfl),Bf T L ha hb⟩
 ·have e:aK "ties" m es=es.map Sum.inr:=by
   unfold aK
   rw [if_pos rfl,if_neg (by decide),List.nil_append]
  rw [e]
  refine ⟨.inr (iR w a),.inr (iR w b),List.mem_map.mpr ⟨_,lE T.gd ha,rfl⟩,List.mem_map.mpr ⟨_,lE T.gd hb,rfl⟩,fun z=>ne ?_,EI T L ha hb⟩
  have z:iR w a=iR w b:=Sum.inr.inj z
  have e1:min w a=min w b:=congrArg Prod.fst z
  have e2:max w a=max w b:=congrArg Prod.snd z
  omega
theorem jP (T:Tree m es)(L:eF m ls){k:Str}(hk:k="places"\/k="ties")(h0:2<=(aK k m es).length){s:Nat}(h1:(∃ p x y,p < m/\(rowOf es ls p)[0]?=some x/\(rowOf es ls p)[1]?=some y/\s=x + y)\/((∀ p,p < m->(rowOf es ls p).length < 2)/\s=ls.length))(h2:∀ p x y,p < m->(rowOf es ls p)[0]?=some x->(rowOf es ls p)[1]?=some y->s<=x + y):gP ((aK k m es).map (cL es ls)) (iD s):=by
 have two:∀ {w a b:Nat},aB es w a->aB es w b->a≠b->2<=(rowOf es ls w).length:=fun {w a b} ha hb ne=>by
  rw [nX]
  have:=Gr.sub_len' (l:=[a,b]) (by simp [ne]) (k:=bO es w) fun x hx=>by
   rcases List.mem_cons.mp hx with rfl | hx
   ·exact cF.mpr ha
   ·rw [List.mem_singleton.mp hx];exact cF.mpr hb
  exact this
 have sl:s<=ls.length:=by
  rcases h1 with ⟨p,x,y,hp,e1,e2,rfl⟩ | ⟨_,rfl⟩
  ·obtain ⟨⟨a,b,ha,hb,ne,e⟩,_⟩:=t7 T.gd e1 e2
   rw [e]
   exact zP T L.lt ha hb ne
  ·exact Nat.le_refl _
 have low:∀ t u,t∈aK k m es->u∈aK k m es->t≠u->s<=pt es ls t u:=fun t u ht hu ne=>by
  rcases Co T L.lt hk ht hu ne with z | ⟨w,a,b,ha,hb,nab,le⟩
  ·rw [z];exact sl
  ·obtain ⟨hw,_⟩:=T.gd.b9 ha
   have h3:=two ha hb nab
   have g0:=List.getElem?_eq_getElem (l:=rowOf es ls w) (i:=0) (by omega)
   have g1:=List.getElem?_eq_getElem (l:=rowOf es ls w) (i:=1) (by omega)
   have:=h2 w _ _ hw g0 g1
   have:=(t7 T.gd g0 g1).2 a b ha hb nab
   omega
 refine An (pK T.gd) ?_ low
 rcases h1 with ⟨p,x,y,hp,e1,e2,rfl⟩ | ⟨no,rfl⟩
 ·obtain ⟨⟨a,b,ha,hb,ne,e⟩,_⟩:=t7 T.gd e1 e2
  obtain ⟨t,u,ht,hu,ntu,le⟩:=AY (ls:=ls) T hk ha hb ne L.lt
  refine ⟨t,u,ht,hu,ntu,?_⟩
  have:=low t u ht hu ntu
  omega
 ·obtain ⟨t,u,ht,hu,ntu⟩:=Ig (pK T.gd) h0
  refine ⟨t,u,ht,hu,ntu,?_⟩
  have:=low t u ht hu ntu
  have:=JZ (es:=es) (ls:=ls) (t:=t) (u:=u)
  omega
end
def m6 (k:Str):Prop:=k="places"\/k="ties"\/k="all"
def sd:bW:=fun dd Q x=>∃ m es ls k,dd=[wD m es,nD ls,.str k]/\gc m es/\es.length + 1=m/\eF m ls/\m6 k/\∀ d,gP ((aK k m es).map (cL es ls)) d->Q [] .sh d
theorem F7:∀ dd Q x,sd dd Q x->iA lK pG rY q9 (bH [false,false,false] Q x) (ini [false,false,false] dd++List.replicate 2 none):=by
 rintro _ Q x ⟨m,es,ls,k,rfl,W,ht,L,hk,q⟩
 have hm:=W.le
 have hL:=L.len
 have T:Tree m es:=⟨W.gd,W.cn,ht⟩
 unfold iA
 simp only [dv,dw,dx,dy,dz,Nat.reduceBEq]
 refine ⟨m,es,rfl,W.pos,fun _=>?_,fun z=>absurd ht z⟩
 simp only [dv,dw,dx,dy,dz,Nat.reduceBEq]
 refine GV L ?_
 simp only [dv,dw,dx,dy,dz,Nat.reduceBEq]
 refine ⟨m,es,k,rfl,W,?_⟩
 simp only [dv,dw,dx,dy,dz,Nat.reduceBEq]
 split
 ·rename_i h
  exact q _ (str_none (by omega))
 rename_i h0
 rw [if_pos (by omega)]
 refine cN rfl (gb (fun p=>nD (rowOf es ls p)) rfl (fun p hp I hI=>?_) ?_ (by rw [List.length_range];omega))
 ·simp only [dv,dw,dx,dy,dz,Nat.reduceBEq]
  refine ⟨m,es,ls,p,rfl,W,ht,L,List.mem_range.mp hp,fun r hr=>?_⟩
  rw [Ac hr]
  simp only [dv,dw,dx,dy,dz,Nat.reduceBEq]
  exact hI _ rfl
 simp only [dv,dw,dx,dy,dz,Nat.reduceBEq]
 have lO:2<=m->∀ p,p < m->0 < (rowOf es ls p).length:=fun m2 p hp=>by
  rw [nX]
  have ⟨y,hy,ne⟩:∃ y,y < m/\y≠p:=by
   by_cases c:p=0
   ·exact ⟨1,by omega,by omega⟩
   ·exact ⟨0,by omega,by omega⟩
  obtain ⟨n,hn,a,_⟩:=W.cn.pred W.gd hy hp (Ne.symm ne)
  exact List.length_pos_of_mem (cF.mpr a)
 split
 ·rename_i hall
  subst hall
  have m2:2<=m:=by
   have e:(aK "all" m es).length=m + es.length:=by
    unfold aK
    rw [if_neg (by decide),if_neg (by decide),List.length_append,List.length_map,List.length_map,List.length_range]
   rw [e] at h0
   omega
  refine gb (fun p=>iD ((rowOf es ls p).getD 0 0)) rfl (fun p hp I hI=>?_) ?_ (by rw [List.length_range];omega)
  ·have hp:=List.mem_range.mp hp
   simp only [dv,dw,dx,dy,dz,Nat.reduceBEq,aN (lO m2 p hp)]
   exact hI _ rfl
  ·simp only [dv,dw,dx,dy,dz,Nat.reduceBEq]
   have e:(List.range m).map (fun p=>iD ((rowOf es ls p).getD 0 0))=((List.range m).map fun p=>(rowOf es ls p).getD 0 0).map iD:=by rw [List.map_map];rfl
   rw [e]
   refine wH (fun z=>?_) fun s hs le=>?_
   ·have:=congrArg List.length z
    rw [List.length_map,List.length_range] at this
    simp at this
    omega
   ·obtain ⟨p,hp,e1⟩:=List.mem_map.mp hs
    have hp:=List.mem_range.mp hp
    refine q _ (w5 T m2 L ⟨p,hp,by rw [<- e1];exact aN (lO m2 p hp)⟩ fun p' x hp' e2=>?_)
    have:=le _ (List.mem_map.mpr ⟨p',List.mem_range.mpr hp',rfl⟩)
    rw [aN (lO m2 p' hp')] at e2
    cases e2
    exact this
 ·rename_i hall
  have hk':k="places"\/k="ties":=by
   rcases hk with z | z | z
   ·exact .inl z
   ·exact .inr z
   ·exact absurd z hall
  refine lD (fun p=>if decide (1 < (rowOf es ls p).length)=true then some (iD ((rowOf es ls p).getD 0 0 + (rowOf es ls p).getD 1 0)) else none) rfl (fun p hp I hI=>?_) ?_ (by rw [List.length_range];omega)
  ·simp only [dv,dw,dx,dy,dz,Nat.reduceBEq] at hI ⊢
   split
   ·rename_i c
    have c:1 < (rowOf es ls p).length:=by omega
    rw [if_pos c] at hI
    rw [aN (by omega:0 < (rowOf es ls p).length),aN c]
    exact hI _ rfl
   ·rename_i c
    rw [if_neg (by omega)] at hI
    exact hI _ rfl
  ·rw [gW]
   simp only [dv,dw,dx,dy,dz,Nat.reduceBEq]
   have e:((List.range m).filter fun p=>decide (1 < (rowOf es ls p).length)).map (fun p=>iD ((rowOf es ls p).getD 0 0 + (rowOf es ls p).getD 1 0))=(((List.range m).filter fun p=>decide (1 < (rowOf es ls p).length)).map fun p=>(rowOf es ls p).getD 0 0 + (rowOf es ls p).getD 1 0).map iD:=by rw [List.map_map];rfl
   rw [e]
   have mem:∀ p,p∈(List.range m).filter (fun p=>decide (1 < (rowOf es ls p).length))↔p < m/\1 < (rowOf es ls p).length:=fun p=>by rw [List.mem_filter,List.mem_range,decide_eq_true_eq]
   have h0':2<=(aK k m es).length:=by omega
   refine EV (fun z=>?_) fun s hs le=>?_
   ·refine q _ (jP T L hk' h0' (.inr ⟨fun p hp=>?_,rfl⟩) fun p x y hp e1 e2=>?_)
    ·rw [List.map_eq_nil_iff] at z
     rcases Nat.lt_or_ge (rowOf es ls p).length 2 with c | c
     ·exact c
     ·have:=(mem p).mpr ⟨hp,c⟩
      rw [z] at this
      exact absurd this List.not_mem_nil
    ·rw [List.map_eq_nil_iff] at z
     have:=(mem p).mpr ⟨hp,by have:=av e2;omega⟩
     rw [z] at this
     exact absurd this List.not_mem_nil
   ·obtain ⟨p,hp,e1⟩:=List.mem_map.mp hs
    obtain ⟨hp,c⟩:=(mem p).mp hp
    refine q _ (jP T L hk' h0' (.inl ⟨p,_,_,hp,aN (by omega),aN c,e1.symm⟩) fun p' x y hp' e2 e3=>?_)
    have c':=av e3
    have:=le _ (List.mem_map.mpr ⟨p',(mem p').mpr ⟨hp',c'⟩,rfl⟩)
    rw [aN (by omega:0 < (rowOf es ls p').length)] at e2
    rw [aN c'] at e3
    cases e2
    cases e3
    exact this
end PB
namespace Dv
open PySem L2
/-! the same,with what is wanted behind a turn as a letter: the proofs are far smaller terms -/
theorem oi {α:Type}{l:List α}{enc:α->PyData}{tg:Tg}{b:DS}{D:bY}{E1:En}(I:Nat->En->Prop)(h0:I 0 E1)(hs:∀ (J:En->Prop) i a E,l[i]?=some a->(∀ E',I (i + 1) E'->J E')->I i E->∃ E2,cH tg (enc a) E=some E2/\b { D with nx:=J } E2)(he:∀ E,I l.length E->D.nx E):A4 (l.map enc) tg b D E1:=n5 I h0 (fun i a E ha hi=>hs (I (i + 1)) i a E ha (fun _ h=>h) hi) he
theorem t9 {n:Nat}{enc:Nat->PyData}{tg:Tg}{b:DS}{D:bY}{E1:En}(I:Nat->En->Prop)(h0:I 0 E1)(hs:∀ (J:En->Prop) i E,i < n->(∀ E',I (i + 1) E'->J E')->I i E->∃ E2,cH tg (enc i) E=some E2/\b { D with nx:=J } E2)(he:∀ E,I n E->D.nx E):A4 ((List.range n).map enc) tg b D E1:=IL I h0 (fun i E ha hi=>hs (I (i + 1)) i E ha (fun _ h=>h) hi) he
theorem Jk {α:Type}{l:List α}{enc:α->PyData}{cs:List Nat}{tg:Tg}{c:DT}{r:DC}{E1:En}{Q:En->Kd->PyData->Prop}(E0:En)(I:Nat->List PyData->En->Prop)(h0:bg cs E1=some E0)(h1:I 0 [] E0)(hs:∀ (J:List PyData->En->Prop) i a ys E,l[i]?=some a->(∀ ys' E',I (i + 1) ys' E'->J ys' E')->I i ys E->∃ E2,cH tg (enc a) E=some E2/\c xF E2 fun E3 b=>if b=true then r xF ys E3 J else J ys E3)
  (he:∀ ys E,I l.length ys E->∃ E2,bg cs E=some E2/\Q E2 (.ow false) (.list ys)):uJ cs (l.map enc) tg c r E1 Q:=yb E0 I h0 h1 (fun i a ys E ha hi=>hs (I (i + 1)) i a ys E ha (fun _ _ h=>h) hi) he
theorem IU {a b:DS}{D:bY}{E:En}(J0:En->Prop)(h1:∀ J:En->Prop,(∀ E',J0 E'->J E')->a { D with nx:=J } E)(h2:∀ B:En->Prop,(∀ E',B E'=b D E')->∀ E',J0 E'->B E'):qT a b D E:=⟨J0,h1 J0 fun _ h=>h,fun E' h=>h2 (b D) (fun _=>rfl) E' h⟩
theorem JK {c:DT}{b:DS}{D:bY}{E:En}(W:Nat->En->Prop)(h0:∃ m,W m E)(hs:∀ (J:En->Prop) m E,(∀ m' E',m' < m->W m' E'->J E')->W m E->c D.xc E fun E1 t=>if t=true then b { D with nx:=J } E1 else D.nx E1):mL c b D E:=⟨W,h0,fun m E h=>hs (fun E'=>∃ m',m' < m/\W m' E') m E (fun m' E' l w=>⟨m',l,w⟩) h⟩
end Dv
namespace PB
open PySem L2 Dv Gr
variable {m p:Nat}{es:List (Nat×Nat)}
/-! ### how many neighbours -/
/-! ### labels -/
def Sm (es:List (Nat×Nat)) (p x y:Nat):Prop:=x=y\/∃ n,aB es p n/\aY es p n x/\aY es p n y
theorem Sm.sy {x y:Nat}(h:Sm es p x y):Sm es p y x:=h.imp Eq.symm fun ⟨n,a,b,c⟩=>⟨n,a,c,b⟩
theorem Sm.tr (T:Tree m es){x y z:Nat}(hy:y < m)(h:Sm es p x y)(g:Sm es p y z):Sm es p x z:=by
 rcases h with rfl | ⟨n,a,b,c⟩
 ·exact g
 ·rcases g with rfl | ⟨k,a',b',c'⟩
  ·exact .inr ⟨n,a,b,c⟩
  ·obtain rfl:=T.je hy a a' c b'
   exact .inr ⟨n,a,b,c'⟩
structure kg (m:Nat)(es:List (Nat×Nat)) (p:Nat)(dn:List (Nat×Nat))(lb:List Nat):Prop where
 len:lb.length=m
 snd:∀ x y,x < m->y < m->lb.getD x 0=lb.getD y 0->Sm es p x y
 CW:∀ e∈dn,e.1≠p->e.2≠p->lb.getD e.1 0=lb.getD e.2 0
theorem qf {x m:Nat}(h:x < m):(List.range m).getD x 0=x:=by
 rw [List.getD_eq_getElem?_getD,List.getElem?_range h]
 rfl
theorem kg.start:kg m es p [] (List.range m):=⟨List.length_range,fun x y hx hy h=>by rw [qf hx,qf hy] at h;exact .inl h,fun e he=>absurd he List.not_mem_nil⟩
theorem kg.skip {dn:List (Nat×Nat)}{lb:List Nat}{e:Nat×Nat}(L:kg m es p dn lb)(h:e.1=p\/e.2=p):kg m es p (dn++[e]) lb:=⟨L.len,L.snd,fun f hf h1 h2=>by
 rcases List.mem_append.mp hf with z | z
 ·exact L.CW f z h1 h2
 ·rw [List.mem_singleton.mp z] at h1 h2
  rcases h with z | z
  ·exact absurd z h1
  ·exact absurd z h2⟩
theorem getD_map' {lb:List Nat}{f:Nat->Nat}{x:Nat}(h:x < lb.length):(lb.map f).getD x 0=f (lb.getD x 0):=by
 rw [List.getD_eq_getElem?_getD,List.getD_eq_getElem?_getD,List.getElem?_map,List.getElem?_eq_getElem h]
 rfl
theorem kg.join {dn:List (Nat×Nat)}{lb:List Nat}{a b:Nat}(T:Tree m es)(hp:p < m)(L:kg m es p dn lb)(sub:∀ e∈dn,e∈es)(he:(a,b)∈es)(ha:a≠p)(hb:b≠p):kg m es p (dn++[(a,b)]) (lb.map fun z=>if z=lb.getD b 0 then lb.getD a 0 else z):=by
 have lt:=T.gd.lt _ he
 have ha':a < m:=by omega
 have hb':b < m:=lt.2
 have get:∀ x,x < m->(lb.map fun z=>if z=lb.getD b 0 then lb.getD a 0 else z).getD x 0=if lb.getD x 0=lb.getD b 0 then lb.getD a 0 else lb.getD x 0:=fun x hx=>getD_map' (f:=fun z=>if z=lb.getD b 0 then lb.getD a 0 else z) (by rw [L.len];exact hx)
 have ab:Sm es p a b:=by
  obtain ⟨n,h1,h2⟩:=T.some hp ha' ha
  exact .inr ⟨n,h1,h2,T.jg hp (T.gd.b9 h1).2 h1 h2 (.inl he) hb⟩
 refine ⟨by rw [List.length_map];exact L.len,fun x y hx hy h=>?_,fun e hem h1 h2=>?_⟩
 ·rw [get x hx,get y hy] at h
  by_cases c1:lb.getD x 0=lb.getD b 0
  ·have s1:=L.snd x b hx hb' c1
   by_cases c2:lb.getD y 0=lb.getD b 0
   ·exact s1.tr T hb' (L.snd b y hb' hy c2.symm)
   ·rw [if_pos c1,if_neg c2] at h
    exact (s1.tr T hb' ab.sy).tr T ha' (L.snd a y ha' hy h)
  ·by_cases c2:lb.getD y 0=lb.getD b 0
   ·rw [if_neg c1,if_pos c2] at h
    exact ((L.snd x a hx ha' h).tr T ha' ab).tr T hb' (L.snd b y hb' hy c2.symm)
   ·rw [if_neg c1,if_neg c2] at h
    exact L.snd x y hx hy h
 ·rcases List.mem_append.mp hem with z | z
  ·have l2:=T.gd.lt _ (sub e z)
   rw [get _ (by omega),get _ l2.2,L.CW e z h1 h2]
  ·rw [List.mem_singleton.mp z]
   rw [get a ha',get b hb',if_pos rfl]
   split <;> rfl
theorem AH {n:Nat}:¬ aY es p n p:=fun h=>by
 unfold aY at h
 rw [bJ] at h
 omega
theorem kg.all (T:Tree m es)(hp:p < m){lb:List Nat}(L:kg m es p es lb){n:Nat}(a:aB es p n):∀ {k x:Nat},x < m->ds es n x=k->aY es p n x->lb.getD x 0=lb.getD n 0
 | 0,x,hx,h0,hb=>by rw [T.cn.zero (T.gd.b9 a).2 hx h0]
 | k + 1,x,hx,h0,hb=>by
  have ne:x≠n:=fun z=>by rw [z,bJ] at h0;omega
  obtain ⟨y,hy,ay,b1,_,b2⟩:=T.uT hp hx a hb ne
  have ih:=L.all T hp a (k:=k) hy (by omega) b1
  have xp:x≠p:=fun z=>AH (z ▸ hb)
  have yp:y≠p:=fun z=>AH (z ▸ b1)
  rcases ay with z | z
  ·rw [<- L.CW _ z yp xp];exact ih
  ·rw [L.CW _ z xp yp];exact ih
theorem kg.fin (T:Tree m es)(hp:p < m){lb:List Nat}(L:kg m es p es lb){n x:Nat}(a:aB es p n)(hx:x < m):lb.getD x 0=lb.getD n 0↔aY es p n x:=by
 refine ⟨fun h=>?_,fun h=>L.all T hp a hx rfl h⟩
 have hn:=(T.gd.b9 a).2
 rcases L.snd x n hx hn h with rfl | ⟨k,a',b1,b2⟩
 ·exact i6 T hp a
 ·obtain rfl:=T.je hn a a' (i6 T hp a) b2
  exact b1
end PB
namespace PB
open PySem L2 Dv Gr
abbrev tD (l:List Nat):PyData:=.tuple (l.map iD)
def rZ:bW:=fun dd Q x=>∃ a b,dd=[tD a,tD b]/\a.length=b.length/\a.length<=1000/\Q [] .sh (iD (iS a b))
theorem Hl:∀ dd Q x,rZ dd Q x->gp (bH [false,false] Q x) (ini [false,false] dd++List.replicate 1 none):=by
 rintro _ Q x ⟨a,b,rfl,hl,h1,q⟩
 unfold gp
 simp only [dv,dw,dx,dy,dz,Nat.reduceBEq]
 rw [if_pos ⟨by omega,by omega⟩]
 refine cN rfl ?_
 refine lD (fun k=>if decide (¬ a.getD k 0=b.getD k 0)=true then some (iD k) else none) rfl (fun k hk J hJ=>?_) ?_ (by rw [List.length_range];omega)
 ·have hk':=List.mem_range.mp hk
  have g1:=aN (l:=a) (k:=k) hk'
  have g2:=aN (l:=b) (k:=k) (by omega)
  simp only [dv,dw,dx,dy,dz,Nat.reduceBEq,g1,g2] at hJ ⊢
  split
  ·rename_i c
   rw [if_pos c] at hJ
   exact hJ _ rfl
  ·rename_i c
   rw [if_neg c] at hJ
   exact hJ _ rfl
 ·rw [gW]
  simp only [dv,dw,dx,dy,dz,Nat.reduceBEq]
  have:=FN hl
  unfold Ir at this
  rw [this]
  exact q
def Mn (S:Nat->Prop)(d:PyData):Prop:=((∀ n,¬ S n)/\d=.none)\/∃ s:Nat,d=iD s/\S s/\∀ n,S n->s<=n
theorem Mn.congr {S T:Nat->Prop}{d:PyData}(h:∀ n,S n↔T n)(m:Mn S d):Mn T d:=by
 rcases m with ⟨n,rfl⟩ | ⟨s,rfl,h1,h2⟩
 ·exact .inl ⟨fun k z=>n k ((h k).mpr z),rfl⟩
 ·exact .inr ⟨s,rfl,(h s).mp h1,fun k z=>h2 k ((h k).mpr z)⟩
theorem Mn.first {S:Nat->Prop}{u:Nat}(h:∀ n,¬ S n):Mn (fun n=>S n\/n=u) (iD u):=.inr ⟨u,rfl,.inr rfl,fun n z=>z.elim (fun y=>absurd y (h n)) fun y=>Nat.le_of_eq y.symm⟩
theorem Mn.less {S:Nat->Prop}{s u:Nat}(h:∀ n,S n->s<=n)(l:u < s):Mn (fun n=>S n\/n=u) (iD u):=.inr ⟨u,rfl,.inr rfl,fun n z=>z.elim (fun y=>by have:=h n y;omega) fun y=>Nat.le_of_eq y.symm⟩
theorem Mn.keep {S:Nat->Prop}{s u:Nat}(hs:S s)(h:∀ n,S n->s<=n)(l:¬ u < s):Mn (fun n=>S n\/n=u) (iD s):=.inr ⟨s,rfl,.inl hs,fun n z=>z.elim (h n) fun y=>by omega⟩
def Cs (cs:List (List Nat)) (k n:Nat):Prop:=∃ (i j:Nat)(a b:List Nat),i < j/\j < k/\cs[i]?=some a/\cs[j]?=some b/\n=iS a b
def rE:bW:=fun dd Q x=>∃ (cs:List (List Nat)) (w:Nat),dd=[.list (cs.map tD)]/\(∀ c∈cs,c.length=w)/\w<=1000/\cs.length<=2000/\∀ d,gP cs d->Q [] .sh d
theorem IF:∀ dd Q x,rE dd Q x->gU rZ (bH [false] Q x) (ini [false] dd++List.replicate 4 none):=by
 rintro _ Q x ⟨cs,w,rfl,hw,h1,h2,q⟩
 unfold gU
 simp only [dv,dw,dx,dy,dz,Nat.reduceBEq]
 rw [if_pos ⟨by omega,by omega⟩]
 refine cN rfl ?_
 refine t9 (fun k E=>∃ (d:PyData)(o2 o3 o4:Option (Kd×PyData)),E=[some (.sh,.list (cs.map tD)),some (.sh,d),o2,o3,o4]/\bG o2=true/\bG o3=true/\bG o4=true/\Mn (Cs cs k) d) ⟨.none,none,none,none,rfl,rfl,rfl,rfl,.inl ⟨fun n ⟨i,j,a,b,l,l',_⟩=>by omega,rfl⟩⟩ ?_ ?_
 ·rintro J k _ hk hJ ⟨d,o2,o3,o4,rfl,h2,h3,h4,M⟩
  simp only [dv,dw,dx,dy,dz,Nat.reduceBEq,h2]
  have gk:cs[k]?=some cs[k]:=List.getElem?_eq_getElem hk
  generalize cs[k]=b at gk
  refine oi (fun t E=>∃ (d:PyData)(o3 o4:Option (Kd×PyData)),E=[some (.sh,.list (cs.map tD)),some (.sh,d),some (.sh,iD k),o3,o4]/\bG o3=true/\bG o4=true/\Mn (fun n=>Cs cs k n\/∃ i a,i < t/\cs[i]?=some a/\n=iS a b) d) ⟨d,o3,o4,rfl,h3,h4,M.congr fun n=>⟨.inl,fun z=>z.elim id fun ⟨i,a,l,_⟩=>by omega⟩⟩ ?_ ?_
  ·rintro J t a _ ht hJ ⟨d,o3,o4,rfl,h3,h4,M⟩
   have ta:cs[t]?=some a:=by
    rw [List.getElem?_take] at ht
    split at ht
    ·exact ht
    ·cases ht
   have M':∀ {d':PyData},Mn (fun n=>(Cs cs k n\/∃ i a,i < t/\cs[i]?=some a/\n=iS a b)\/n=iS a b) d'->Mn (fun n=>Cs cs k n\/∃ i a,i < t + 1/\cs[i]?=some a/\n=iS a b) d':=fun m=>m.congr fun n=>by
    constructor
    ·rintro ((z | ⟨i,a',l,e,r⟩) | rfl)
     ·exact .inl z
     ·exact .inr ⟨i,a',by omega,e,r⟩
     ·exact .inr ⟨t,a,by omega,ta,rfl⟩
    ·rintro (z | ⟨i,a',l,e,r⟩)
     ·exact .inl (.inl z)
     ·by_cases c:i=t
      ·subst c
       rw [ta] at e
       cases e
       exact .inr r
      ·exact .inl (.inr ⟨i,a',by omega,e,r⟩)
   simp only [dv,dw,dx,dy,dz,Nat.reduceBEq,h3,gk]
   refine ⟨b,a,rfl,by rw [hw _ (List.mem_of_getElem? gk),hw _ (List.mem_of_getElem? ta)],by rw [hw _ (List.mem_of_getElem? gk)];exact h1,?_⟩
   rw [ud]
   simp only [dv,dw,dx,dy,dz,Nat.reduceBEq,h4]
   rcases M with ⟨no,rfl⟩ | ⟨s,rfl,m1,m2⟩
   ·simp only [dv,dw,dx,dy,dz,Nat.reduceBEq]
    exact hJ _ ⟨_,_,_,rfl,rfl,rfl,M' (Mn.first no)⟩
   ·simp only [dv,dw,dx,dy,dz,Nat.reduceBEq]
    split
    ·rename_i c
     exact hJ _ ⟨_,_,_,rfl,rfl,rfl,M' (Mn.less m2 (by omega))⟩
    ·rename_i c
     exact hJ _ ⟨_,_,_,rfl,rfl,rfl,M' (Mn.keep m1 m2 (by omega))⟩
  ·rintro _ ⟨d,o3,o4,rfl,h3,h4,M⟩
   rw [List.length_take] at M
   refine hJ _ ⟨d,_,o3,o4,rfl,rfl,h3,h4,M.congr fun n=>?_⟩
   constructor
   ·rintro (⟨i,j,a,b,l,l',r⟩ | ⟨i,a,l,e,r⟩)
    ·exact ⟨i,j,a,b,l,by omega,r⟩
    ·exact ⟨i,k,a,b,by omega,by omega,e,gk,r⟩
   ·rintro ⟨i,j,a,b',l,l',e1,e2,r⟩
    by_cases c:j=k
    ·subst c
     rw [gk] at e2
     cases e2
     exact .inr ⟨i,a,by omega,e1,r⟩
    ·exact .inl ⟨i,j,a,b',l,by omega,e1,e2,r⟩
 ·rintro _ ⟨d,o2,o3,o4,rfl,h2,h3,h4,M⟩
  simp only [dv,dw,dx,dy,dz,Nat.reduceBEq]
  have key:∀ n,Cs cs cs.length n↔n∈ng cs:=fun n=>by
   rw [j9]
   constructor
   ·rintro ⟨i,j,a,b,l,l',r⟩
    exact ⟨i,j,a,b,l,r⟩
   ·rintro ⟨i,j,a,b,l,e1,e2,r⟩
    exact ⟨i,j,a,b,l,av e2,e1,e2,r⟩
  rcases M with ⟨no,rfl⟩ | ⟨s,rfl,m1,m2⟩
  ·exact q _ (.inl ⟨List.eq_nil_iff_forall_not_mem.mpr fun n z=>no n ((key n).mpr z),rfl⟩)
  ·exact q _ (.inr ⟨s,rfl,(key s).mp m1,fun n z=>m2 n ((key n).mpr z)⟩)
end PB
namespace PB
open PySem L2 Dv Gr
def xP (l:List Nat):List Nat:=l.mergeSort fun a b=>decide (a<=b)
theorem pW {l:List Nat}:(xP l).Perm l:=List.mergeSort_perm ..
theorem HV {l:List Nat}:(xP l).Pairwise (·<=·):=by
 have:=List.pairwise_mergeSort (le:=fun a b:Nat=>decide (a<=b)) (fun a b c h1 h2=>by simp at *;omega) (fun a b=>by simp;omega) l
 exact this.imp fun h=>of_decide_eq_true h
theorem EJ {ns:List Nat}{P:Kd->PyData->Prop}(h:ns.length < 64)(q:P (.ow false) (nD (xP ns))):jr [nD ns] P:=nQ h fun ms p u=>by rw [kD (p.trans pW.symm) u HV];exact q
abbrev mS (m:Nat)(es:List (Nat×Nat)):PyData:=.list ((List.range m).map fun p=>nD (xP (bO es p)))
def rM:bW:=fun ds Q x=>∃ m es,ds=[wD m es]/\m<=60/\Gr.Good m es/\Q [] (.ow false) (mS m es)
theorem Gw:∀ ds Q x,rM ds Q x->iz (bH [false] Q x) (ini [false] ds++List.replicate 4 none):=by
 rintro _ Q x ⟨m,es,rfl,hm,gd,q⟩
 unfold iz
 simp only [dv,dw,dx,dy,dz,Nat.reduceBEq]
 rw [if_pos (by omega)]
 refine cN rfl (zW (fun _=>PyData.list []) rfl (fun a ha I hI=>?_) ?_ (by rw [List.length_range];omega))
 ·simp only [dv,dw,dx,dy,dz,Nat.reduceBEq]
  exact ⟨by omega,⟨false,rfl⟩,hI _ rfl⟩
 ·simp only [dv,dw,dx,dy,dz,Nat.reduceBEq]
  refine oi (fun i E=>∃ o4 o5:Option (Kd×PyData),E=[some (.sh,wD m es),some (.dp false,Bd m (es.take i)),o4,o5,none]/\bG o4=true/\bG o5=true) ⟨none,none,rfl,rfl,rfl⟩ ?_ ?_
  ·rintro J i ⟨a,b⟩ _ hi hJ ⟨o4,o5,rfl,ho4,ho5⟩
   have hab:=gd.lt _ (List.mem_of_getElem? hi)
   have hab:a < b/\b < m:=hab
   simp only [dv,dw,dx,dy,dz,Nat.reduceBEq,ho4,ho5,qL]
   have hn:∀ k,(Gr.bO (es.take i) k).length < 1000:=fun k=>by
    have g2:Gr.Good m (es.take i):=⟨fun e he=>gd.lt e (List.mem_of_mem_take he),List.Sublist.nodup (List.take_sublist _ _) gd.nd⟩
    have:=g2.jf k
    omega
   refine qg (g:=fun k=>(Gr.bO (es.take i) k).map iD) rfl rfl (by omega) (by omega) (by rw [List.length_map];have:=hn a;omega) ?_
   simp only [dv,dw,dx,dy,dz,Nat.reduceBEq,ho4,ho5,qL]
   refine qg (g:=fun k=>if k=a then (Gr.bO (es.take i) k).map iD++[iD b] else (Gr.bO (es.take i) k).map iD) rfl rfl (by omega) (by omega) (by rw [if_neg (by omega),List.length_map];have:=hn b;omega) ?_
   refine hJ _ ⟨some (.sh,iD a),some (.sh,iD b),?_,rfl,rfl⟩
   simp only [List.set_cons_succ,List.set_cons_zero]
   have e:∀ k,(if k=b then (if k=a then (Gr.bO (es.take i) k).map iD++[iD b] else (Gr.bO (es.take i) k).map iD)++[iD a] else if k=a then (Gr.bO (es.take i) k).map iD++[iD b] else (Gr.bO (es.take i) k).map iD)=(Gr.bO (es.take (i + 1)) k).map iD:=fun k=>by
    rw [take_snoc hi,Gr.wL,List.map_append]
    unfold Gr.bO
    rw [List.filterMap_cons,List.filterMap_nil]
    unfold Gr.nb
    simp only
    by_cases c:k=a
    ·subst c
     rw [if_neg (by omega),if_pos rfl,if_pos rfl]
     rfl
    ·by_cases c2:k=b
     ·subst c2
      rw [if_pos rfl,if_neg c,if_neg (Ne.symm c),if_pos rfl]
      rfl
     ·rw [if_neg c2,if_neg c,if_neg (Ne.symm c),if_neg (Ne.symm c2)]
      exact (List.append_nil _).symm
   rw [List.map_congr_left fun k _=>congrArg PyData.list (e k)]
  ·rintro _ ⟨o4,o5,rfl,ho4,ho5⟩
   rw [List.take_length]
   simp only [dv,dw,dx,dy,dz,Nat.reduceBEq]
   refine gb (fun p=>nD (xP (bO es p))) rfl (fun p hp I hI=>?_) ?_ (by rw [List.length_range];omega)
   ·have:=gd.jf p
    simp only [dv,dw,dx,dy,dz,Nat.reduceBEq]
    refine EJ (by omega) ?_
    simp only [dv,dw,dx,dy,dz,Nat.reduceBEq]
    exact hI _ rfl
   ·simp only [dv,dw,dx,dy,dz,Nat.reduceBEq]
    exact q
end PB
namespace PB
open PySem L2 Dv Gr
def qP:bW:=fun dd Q x=>∃ m es k,dd=[wD m es,.str k]/\gc m es/\m6 k/\Q [] .sh (.list ((aK k m es).map tP))
theorem GW:∀ dd Q x,qP dd Q x->gw (bH [false,false] Q x) (ini [false,false] dd++List.replicate 1 none):=by
 rintro _ Q x ⟨m,es,k,rfl,W,hk,q⟩
 have hm:=W.le
 have hes:=W.few
 unfold gw
 simp only [dv,dw,dx,dy,dz,Nat.reduceBEq]
 refine ⟨⟨by omega,by omega⟩,by omega,?_⟩
 rw [FF (by decide) (by decide) (by decide)]
 refine ⟨rfl,?_⟩
 have e1:((List.range m).map Sum.inl).map tP=(List.range m).map iD:=by rw [List.map_map];rfl
 have e2:(es.map Sum.inr).map tP=es.map fX:=by rw [List.map_map];rfl
 refine ⟨⟨rfl,rfl⟩,?_⟩
 unfold aK at q
 rcases hk with rfl | rfl | rfl
 ·refine ⟨_,by simp [cR];rfl,?_⟩
  rw [if_neg (by decide),if_pos rfl,List.append_nil,e1] at q
  exact q
 ·refine ⟨.list (es.map fX),?_,?_⟩
  ·unfold cR
   rw [List.find?_cons_of_neg (by simp;decide),List.find?_cons_of_pos (by simp)]
   rfl
  ·rw [if_pos rfl,if_neg (by decide),List.nil_append,e2] at q
   exact q
 ·refine ⟨.list ((List.range m).map iD++es.map fX),?_,?_⟩
  ·unfold cR
   rw [List.find?_cons_of_neg (by simp;decide),List.find?_cons_of_neg (by simp;decide),List.find?_cons_of_pos (by simp)]
   rfl
  ·rw [if_neg (by decide),if_neg (by decide),List.map_append,e1,e2] at q
   exact q
def Sp (m:Nat)(es:List (Nat×Nat)) (l:Nat)(d:PyData):Prop:=∃ kvs,d=.dict kvs/\jq kvs=true/\∀ x,x < m->cR kvs (iD x)=some (iD (ds es l x))
theorem yi {m:Nat}{es:List (Nat×Nat)}{l y:Nat}{d:PyData}{P:Kd->PyData->Prop}(h:Sp m es l d)(hy:y < m)(q:P .sh (iD (ds es l y))):aI [d,iD y] P:=by
 obtain ⟨kvs,rfl,e2,e3⟩:=h
 unfold aI
 split
 ·rename_i h;cases h
 ·rename_i h;cases h;exact ⟨⟨rfl,e2⟩,_,e3 y hy,q⟩
 ·rename_i h1 h2;exact absurd rfl (h2 _ _)
def qW:bW:=fun dd Q x=>∃ (m:Nat)(es:List (Nat×Nat))(rs:List (Nat×PyData))(t:Th),dd=[.list (rs.map (·.2)),tP t]/\(∀ r∈rs,Sp m es r.1 r.2)/\TV m t/\rs.length<=60/\Q [] .sh (tD (cL es (rs.map (·.1)) t))
theorem Il:∀ dd Q x,qW dd Q x->iI (bH [false,false] Q x) (ini [false,false] dd++List.replicate 1 none):=by
 rintro _ Q x ⟨m,es,rs,t,rfl,hr,ht,hl,q⟩
 unfold iI
 rcases t with p | e
 ·simp only [tP,dv,dw,dx,dy,dz,Nat.reduceBEq]
  refine gb (fun r=>iD (td es r.1 (.inl p))) rfl (fun r h I hI=>?_) ?_ (by omega)
  ·simp only [dv,dw,dx,dy,dz,Nat.reduceBEq]
   refine yi (hr r h) ht ?_
   exact ⟨rfl,hI _ rfl⟩
  ·simp only [dv,dw,dx,dy,dz,Nat.reduceBEq]
   have e9:(rs.map fun r=>iD (td es r.1 (.inl p)))=(cL es (rs.map (·.1)) (.inl p)).map iD:=by
    unfold cL
    rw [List.map_map,List.map_map]
    rfl
   rw [e9]
   exact q
 ·simp only [tP,dv,dw,dx,dy,dz,Nat.reduceBEq]
  refine gb (fun r=>iD (td es r.1 (.inr e))) rfl (fun r h I hI=>?_) ?_ (by omega)
  ·simp only [dv,dw,dx,dy,dz,Nat.reduceBEq]
   refine yi (hr r h) ht.1 ?_
   simp only [dv,dw,dx,dy,dz,Nat.reduceBEq]
   refine yi (hr r h) ht.2 ?_
   simp only [dv,dw,dx,dy,dz,Nat.reduceBEq]
   exact hI _ rfl
  ·simp only [dv,dw,dx,dy,dz,Nat.reduceBEq]
   have e9:(rs.map fun r=>iD (td es r.1 (.inr e)))=(cL es (rs.map (·.1)) (.inr e)).map iD:=by
    unfold cL
    rw [List.map_map,List.map_map]
    rfl
   rw [e9]
   exact q
end PB
namespace PB
open PySem L2 Dv Gr
/-! ### a dict of places,each with a number -/
abbrev kI (ps:List (Nat×Nat)):List (PyData×PyData):=ps.map fun e=>(iD e.1,iD e.2)
def dI (ps:List (Nat×Nat)) (x:Nat):Option Nat:=(ps.find? fun e=>decide (e.1=x)).map (·.2)
theorem qq {x:Nat}:∀ {ps:List (Nat×Nat)},cR (kI ps) (iD x)=(dI ps x).map iD
 | []=>rfl
 | e::ps=>by
  have ih:=qq (x:=x) (ps:=ps)
  unfold cR dI kI at ih ⊢
  rw [List.map_cons,List.find?_cons,List.find?_cons]
  by_cases c:e.1=x
  ·have c':iD e.1=iD x:=by rw [c]
   simp only [c,decide_true]
   rfl
  ·have c':¬ iD e.1=iD x:=fun z=>c (jT.mp z)
   simp only [c,c',decide_false]
   exact ih
theorem vU {x:Nat}{ps:List (Nat×Nat)}:dI ps x=none↔∀ e∈ps,e.1≠x:=by
 unfold dI
 rw [Option.map_eq_none_iff,List.find?_eq_none]
 simp
theorem lV {y d:Nat}{ps:List (Nat×Nat)}(h:dI ps y=none):dI (ps++[(y,d)])=fun x=>if x=y then some d else dI ps x:=by
 funext x
 unfold dI
 rw [List.find?_append]
 by_cases c:x=y
 ·subst c
  have h':(ps.find? fun e=>decide (e.1=x))=none:=by unfold dI at h;exact Option.map_eq_none_iff.mp h
  rw [h',if_pos rfl]
  simp
 ·rw [if_neg c]
  cases e:ps.find? fun e=>decide (e.1=x) with
  | some v=>rfl
  | none=>simp [Ne.symm c]
theorem GP {y d:Nat}{ps:List (Nat×Nat)}(h:dI ps y=none):putD (kI ps) (iD y) (iD d)=kI (ps++[(y,d)]):=by
 have no:=vU.mp h
 unfold putD
 rw [if_neg]
 ·unfold kI
  rw [List.map_append]
  rfl
 ·rw [List.any_eq_true]
  rintro ⟨kv,h1,h2⟩
  obtain ⟨e,he,rfl⟩:=List.mem_map.mp h1
  exact no e he (jT.mp (of_decide_eq_true h2))
theorem pQ:∀ {ps:List (Nat×Nat)},jq (kI ps)=true
 | []=>rfl
 | _::_=>rfl
theorem JA {kvs:List (PyData×PyData)}{y:Nat}{P:Kd->PyData->Prop}:aI [.dict kvs,iD y] P=((j7 (iD y)=true/\jq kvs=true)/\∃ d,cR kvs (iD y)=some d/\P .sh d):=by
 unfold aI
 split
 ·rename_i h;cases h
 ·rename_i h;cases h;rfl
 ·rename_i h1 h2;exact absurd rfl (h2 _ _)
theorem Gj {kvs:List (PyData×PyData)}{y:Nat}{P:Kd->PyData->Prop}:gX true [iD y,.dict kvs] P=((j7 (iD y)=true/\jq kvs=true)/\P .sh (.bool !(cR kvs (iD y)).isSome)):=by
 unfold gX
 split
 ·rename_i h;cases h
 ·rename_i h;cases h;rfl
 ·rename_i h1 h2;exact absurd rfl (h2 _ _)
theorem JI {y d:Nat}{ps:List (Nat×Nat)}{P:Kd->PyData->Prop}(h:dI ps y=some d)(q:P .sh (iD d)):aI [.dict (kI ps),iD y] P:=by
 rw [JA]
 exact ⟨⟨rfl,pQ⟩,_,by rw [qq,h];rfl,q⟩
theorem GX {y:Nat}{ps:List (Nat×Nat)}{P:Kd->PyData->Prop}:gX true [iD y,.dict (kI ps)] P=P .sh (.bool (dI ps y).isNone):=by
 rw [Gj,qq]
 refine propext ⟨fun h=>?_,fun h=>⟨⟨rfl,pQ⟩,?_⟩⟩
 ·have h:=h.2
  cases e:dI ps y <;> rw [e] at h <;> exact h
 ·cases e:dI ps y <;> rw [e] at h <;> exact h
end PB
namespace PB
open PySem L2 Dv Gr
def qR:bW:=fun dd Q x=>∃ m es p,dd=[mS m es,iD p]/\gc m es/\p < m/\∀ d,Sp m es p d->Q [] (.dk false) d
structure Ks (m:Nat)(ps:List (Nat×Nat)):Prop where
 nd:(ps.map (·.1)).Nodup
 lt:∀ e∈ps,e.1 < m
theorem Ks.len {m:Nat}{ps:List (Nat×Nat)}(h:Ks m ps):ps.length<=m:=by
 have:=Gr.ff m _ h.nd fun x hx=>by obtain ⟨e,he,rfl⟩:=List.mem_map.mp hx;exact h.lt e he
 rw [List.length_map] at this
 exact this
theorem Ks.put {m y d:Nat}{ps:List (Nat×Nat)}(h:Ks m ps)(hy:y < m)(n:dI ps y=none):Ks m (ps++[(y,d)]):=by
 refine ⟨?_,fun e he=>?_⟩
 ·rw [List.map_append]
  refine List.nodup_append.mpr ⟨h.nd,List.nodup_cons.mpr ⟨List.not_mem_nil,List.nodup_nil⟩,fun a ha b hb e=>?_⟩
  obtain ⟨f,hf,rfl⟩:=List.mem_map.mp ha
  have hb':b=y:=List.mem_singleton.mp hb
  exact vU.mp n f hf (e.trans hb')
 ·rcases List.mem_append.mp he with z | z
  ·exact h.lt e z
  ·rw [List.mem_singleton.mp z];exact hy
theorem HJ:∀ dd Q x,qR dd Q x->gR (bH [false,false] Q x) (ini [false,false] dd++List.replicate 5 none):=by
 rintro _ Q x ⟨m,es,p,rfl,W,hp,q⟩
 have hm:=W.le
 have gd:=W.gd
 unfold gR
 simp only [dv,dw,dx,dy,dz,Nat.reduceBEq,Er]
 refine ⟨rfl,by omega,?_⟩
 refine JK (fun n E=>∃ (r:Nat)(ps:List (Nat×Nat))(ed:List Nat)(k3:Kd)(o4 o5 o6:Option (Kd×PyData)),E=[some (.sh,mS m es),some (.sh,iD p),some (.dk false,.dict (kI ps)),some (k3,nD ed),o4,o5,o6]/\(k3=.ow false\/k3=.sh)/\bG o4=true/\bG o5=true/\bG o6=true/\n=2 * Gr.cnt (dI ps) m + (if ed=[] then 0 else 1)/\Gr.mD (Gr.aB es) p r (dI ps) ed/\(∀ x∈ed,x < m)/\Ks m ps) ?_ ?_
 ·refine ⟨_,0,[(p,0)],[p],_,none,none,none,rfl,.inl rfl,rfl,rfl,rfl,rfl,?_,fun x hx=>by rw [List.mem_singleton.mp hx];exact hp,⟨List.nodup_cons.mpr ⟨List.not_mem_nil,List.nodup_nil⟩,fun e he=>by rw [List.mem_singleton.mp he];exact hp⟩⟩
  have:dI [(p,0)]=fun x=>if x=p then some 0 else none:=lV (ps:=[]) rfl
  rw [this]
  exact Gr.mD.start
 rintro J n _ hJ ⟨r,ps,ed,k3,o4,o5,o6,rfl,hk3,h4,h5,h6,rfl,B,edm,ks⟩
 have rd3:k3.rd=true:=by rcases hk3 with rfl | rfl <;> rfl
 have fz3:k3.fz=true:=by rcases hk3 with rfl | rfl <;> rfl
 simp only [dv,dw,dx,dy,dz,Nat.reduceBEq,rd3]
 cases ed with
 | nil =>
  rw [if_neg (by simp)]
  refine q _ ⟨_,rfl,pQ,fun y hy=>?_⟩
  obtain ⟨d,hd⟩:=W.cn p hp y hy
  rw [qq,B.val hd]
  rfl
 | cons e0 er =>
  rw [if_pos (by simp),if_pos fz3]
  refine ⟨by omega,h4,cN rfl ?_⟩
  have ne:e0::er≠[]:=List.cons_ne_nil _ _
  generalize e0::er=ed at B edm ne hJ ⊢
  refine oi (fun i E=>∃ (ps':List (Nat×Nat))(rc:List Nat)(o5 o6:Option (Kd×PyData)),E=[some (.sh,mS m es),some (.sh,iD p),some (.dk false,.dict (kI ps')),some (.sh,nD ed),some (.ow false,nD rc),o5,o6]/\bG o5=true/\bG o6=true/\Gr.gO (Gr.aB es) r (dI ps) ed (dI ps') rc/\(∀ j h,j < i->ed[j]?=some h->∀ x,Gr.aB es h x->dI ps' x≠none)/\rc.Nodup/\(∀ x∈rc,x < m)/\Ks m ps') ⟨ps,[],o5,o6,rfl,h5,h6,.start,fun j h hj=>by omega,List.nodup_nil,fun _ h=>absurd h List.not_mem_nil,ks⟩ ?_ ?_
  ·rintro J i h _ hi hJ ⟨ps',rc,o5,o6,rfl,h5,h6,BI,don,rcn,rcm,ks'⟩
   have mh:h∈ed:=List.mem_of_getElem? hi
   have hm':=edm h mh
   simp only [dv,dw,dx,dy,dz,Nat.reduceBEq,h5,List.getElem?_range hm']
   refine oi (fun i' E=>∃ (ps':List (Nat×Nat))(rc:List Nat)(o6:Option (Kd×PyData)),E=[some (.sh,mS m es),some (.sh,iD p),some (.dk false,.dict (kI ps')),some (.sh,nD ed),some (.ow false,nD rc),some (.sh,iD h),o6]/\bG o6=true/\Gr.gO (Gr.aB es) r (dI ps) ed (dI ps') rc/\(∀ j h,j < i->ed[j]?=some h->∀ x,Gr.aB es h x->dI ps' x≠none)/\(∀ j y,j < i'->(xP (Gr.bO es h))[j]?=some y->dI ps' y≠none)/\rc.Nodup/\(∀ x∈rc,x < m)/\Ks m ps') ⟨ps',rc,o6,rfl,h6,BI,don,fun j y hj=>by omega,rcn,rcm,ks'⟩ ?_ ?_
   ·rintro J i' y _ hy hJ ⟨ps',rc,o6,rfl,h6,BI,don,dni,rcn,rcm,ks'⟩
    have hyE:Gr.aB es h y:=Gr.cF.mp (pW.mem_iff.mp (List.mem_of_getElem? hy))
    have ym:y < m:=(gd.b9 hyE).2
    have eh:=BI.at B mh
    have hkl:=ks'.len
    simp only [dv,dw,dx,dy,dz,Nat.reduceBEq,h6,GX]
    cases gy:dI ps' y with
    | some d =>
     simp only [dw,Option.isNone_some]
     refine hJ _ ⟨ps',rc,some (.sh,iD y),rfl,rfl,BI,don,fun j z hj hz=>?_,rcn,rcm,ks'⟩
     by_cases c:j=i'
     ·subst c
      rw [hy] at hz
      cases hz
      rw [gy]
      simp
     ·exact dni j z (by omega) hz
    | none =>
     simp only [dv,dw,dx,dy,dz,Nat.reduceBEq,Option.isNone_none]
     refine JI eh ?_
     have e2:(r:Int) + 1=((r + 1:Nat):Int):=rfl
     simp only [dv,dw,dx,dy,dz,Nat.reduceBEq,e2]
     have yrc:y∉rc:=fun h'=>by
      have:=((BI.got y).mp h').2
      rw [gy] at this
      cases this
     have rcl:=Gr.ff m rc rcn rcm
     rw [show PyData.int ((r + 1:Nat):Int)=iD (r + 1) from rfl,GP gy]
     have BI':=BI.put mh hyE gy
     rw [<- lV gy] at BI'
     refine ⟨⟨rfl,by omega⟩,by omega,hJ _ ⟨ps'++[(y,r + 1)],rc++[y],some (.sh,iD y),by rw [xm],rfl,BI',fun j h' hj he x hx=>?_,fun j z hj hz=>?_,?_,fun x hx=>?_,ks'.put ym gy⟩⟩
     ·rw [lV gy]
      show (if x=y then some (r + 1) else dI ps' x)≠none
      split
      ·exact fun h=>(nomatch h)
      ·exact don j h' hj he x hx
     ·rw [lV gy]
      show (if z=y then some (r + 1) else dI ps' z)≠none
      split
      ·exact fun h=>(nomatch h)
      ·rename_i c
       by_cases c2:j=i'
       ·subst c2
        rw [hy] at hz
        cases hz
        exact absurd rfl c
       ·exact dni j z (by omega) hz
     ·exact List.nodup_append.mpr ⟨rcn,List.nodup_cons.mpr ⟨List.not_mem_nil,List.nodup_nil⟩,fun a ha b hb e=>by
       cases List.mem_singleton.mp hb
       exact yrc (e ▸ ha)⟩
     ·rcases List.mem_append.mp hx with h' | h'
      ·exact rcm x h'
      ·rw [List.mem_singleton.mp h'];exact ym
   ·rintro _ ⟨ps',rc,o6,rfl,h6,BI,don,dni,rcn,rcm,ks'⟩
    refine hJ _ ⟨ps',rc,_,o6,rfl,rfl,h6,BI,fun j h' hj hh x hx=>?_,rcn,rcm,ks'⟩
    by_cases c:j=i
    ·subst c
     rw [hi] at hh
     cases hh
     obtain ⟨l,hl⟩:=List.mem_iff_getElem?.mp (pW.mem_iff.mpr (Gr.cF.mpr hx))
     exact dni l x (av hl) hl
    ·exact don j h' (by omega) hh x hx
  ·rintro _ ⟨ps',rc,o5,o6,rfl,h5,h6,BI,don,rcn,rcm,ks'⟩
   simp only [dv,dw,dx,dy,dz,Nat.reduceBEq]
   have all:∀ h,h∈ed->∀ x,Gr.aB es h x->dI ps' x≠none:=fun h hh=>by
    obtain ⟨j,hj⟩:=List.mem_iff_getElem?.mp hh
    exact don j h (av hj) hj
   refine hJ _ _ ?_ ⟨r + 1,ps',rc,.sh,some (.sh,nD rc),o5,o6,rfl,.inr rfl,rfl,h5,h6,rfl,B.next BI all,rcm,ks'⟩
   rw [if_neg ne]
   cases rc with
   | nil =>
    have:=Gr.vG (f:=dI ps) (g:=dI ps') (fun x h=>BI.none h) m
    rw [if_pos rfl]
    omega
   | cons y rc =>
    obtain ⟨h1,h2⟩:=(BI.got y).mp (List.mem_cons_self ..)
    have:=Gr.A8 (f:=dI ps) (g:=dI ps') (fun x h=>BI.none h) h1 (by rw [h2];exact fun h=>(nomatch h)) m (rcm y (List.mem_cons_self ..))
    rw [if_neg (List.cons_ne_nil _ _)]
    omega
end PB
namespace PB
open PySem L2 Dv Gr
def rK:bW:=fun dd Q x=>∃ m es ls k,dd=[wD m es,nD ls,.str k]/\gc m es/\eF m ls/\m6 k/\Q [] (.ow false) (.list ((aK k m es).map fun t=>tD (cL es ls t)))
theorem Hy:∀ dd Q x,rK dd Q x->g8 rM qR qP qW (bH [false,false,false] Q x) (ini [false,false,false] dd++List.replicate 3 none):=by
 rintro _ Q x ⟨m,es,ls,k,rfl,W,L,hk,q⟩
 have hm:=W.le
 have hL:=L.len
 have hlen:=sD (k:=k) W
 unfold g8
 simp only [dv,dw,dx,dy,dz,Nat.reduceBEq]
 refine ⟨m,es,rfl,hm,W.gd,?_⟩
 simp only [dv,dw,dx,dy,dz,Nat.reduceBEq]
 refine Jk _ (fun i ys E=>∃ (rs:List (Nat×PyData))(k3:Kd)(o5:Option (Kd×PyData)),ys=rs.map (·.2)/\rs.map (·.1)=ls.take i/\(∀ r∈rs,Sp m es r.1 r.2)/\(k3=.ow false\/k3=.sh)/\bG o5=true/\E=[some (.sh,wD m es),some (.sh,nD ls),some (.sh,.str k),some (k3,mS m es),none,o5]) rfl ⟨[],_,none,rfl,rfl,fun r h=>absurd h List.not_mem_nil,.inl rfl,rfl,rfl⟩ ?_ ?_
 ·rintro J i l _ _ hi hJ ⟨rs,k3,o5,rfl,e1,sp,hk3,h5,rfl⟩
  have hl:=L.lt l (List.mem_of_getElem? hi)
  have rd3:k3.rd=true:=by rcases hk3 with rfl | rfl <;> rfl
  have fz3:k3.fz=true:=by rcases hk3 with rfl | rfl <;> rfl
  simp only [dv,dw,dx,dy,dz,Nat.reduceBEq,rd3,fz3,h5]
  refine ⟨m,es,l,rfl,W,hl,fun d hd=>?_⟩
  have hJ':∀ k3:Kd,(k3=.ow false\/k3=.sh)->J (rs.map (·.2)++[d]) [some (.sh,wD m es),some (.sh,nD ls),some (.sh,.str k),some (k3,mS m es),none,some (.sh,iD l)]:=fun k3 hk3=>hJ _ _ ⟨rs++[(l,d)],k3,_,by rw [List.map_append];rfl,by rw [List.map_append,e1,take_snoc hi];rfl,fun r hr=>by
   rcases List.mem_append.mp hr with z | z
   ·exact sp r z
   ·rw [List.mem_singleton.mp z];exact hd,hk3,rfl,rfl⟩
  have hrl:rs.length<=60:=by
   have:=congrArg List.length e1
   rw [List.length_map,List.length_take] at this
   omega
  rcases hk3 with rfl | rfl
  ·simp only [dv,dw,dx,dy,dz,Nat.reduceBEq]
   split
   ·exact cN rfl ⟨by omega,hJ' _ (.inl rfl)⟩
   ·exact cN rfl ⟨by omega,hJ' _ (.inr rfl)⟩
  ·simp only [dv,dw,dx,dy,dz,Nat.reduceBEq]
   exact ⟨by omega,hJ' _ (.inr rfl)⟩
 ·rintro _ _ ⟨rs,k3,o5,rfl,e1,sp,hk3,h5,rfl⟩
  rw [List.take_length] at e1
  simp only [dv,dw,dx,dy,dz,Nat.reduceBEq,h5]
  refine ⟨m,es,k,rfl,W,hk,?_⟩
  have hrl:rs.length<=60:=by
   have:=congrArg List.length e1
   rw [List.length_map] at this
   omega
  simp only [dv,dw,dx,dy,dz,Nat.reduceBEq]
  refine gb (fun t=>tD (cL es ls t)) rfl (fun t ht I hI=>?_) ?_ (by omega)
  ·simp only [dv,dw,dx,dy,dz,Nat.reduceBEq]
   refine ⟨m,es,rs,t,rfl,sp,?_,hrl,?_⟩
   ·exact Cd W.gd t ht
   ·rw [e1]
    simp only [dv,dw,dx,dy,dz,Nat.reduceBEq]
    exact hI _ rfl
  ·simp only [dv,dw,dx,dy,dz,Nat.reduceBEq]
   exact q
end PB
namespace PB
open PySem L2 Dv Gr
def rX:bW:=fun dd Q x=>∃ n:Nat,dd=[iD n]/\Q [] .sh (.bool true)
theorem Hx:∀ dd Q x,rX dd Q x->gQ (bH [false] Q x) (ini [false] dd++List.replicate 0 none):=by
 rintro _ Q x ⟨n,rfl,q⟩
 unfold gQ
 simp only [dv,dw,dx,dy,dz,Nat.reduceBEq]
 exact q
end PB
namespace PB
open PySem L2 Dv Gr
def rF:bW:=fun dd Q x=>∃ m es ls k,dd=[wD m es,nD ls,.str k]/\gc m es/\es.length + 1=m/\eF m ls/\m6 k/\3<=m/\∀ d,gP ((aK k m es).map (cL es ls)) d->Q [] .sh d
noncomputable def fv (es:List (Nat×Nat))(ls:List Nat) (k:Str) (p:Nat):Nat:=if k="all" then (rowOf es ls p).getD 0 0 else if (rowOf es ls p).length < 2 then ls.length else (rowOf es ls p).getD 0 0 + (rowOf es ls p).getD 1 0
theorem Gu:∀ dd Q x,rF dd Q x->fD (bH [false,false,false] Q x) (ini [false,false,false] dd++List.replicate 10 none):=by
 rintro _ Q x ⟨m,es,ls,k,rfl,W,ht,L,hk,m3,q⟩
 have hm:=W.le
 have hL:=L.len
 have T:Tree m es:=⟨W.gd,W.cn,ht⟩
 have lO:∀ p,p < m->0 < (rowOf es ls p).length:=fun p hp=>by
  rw [nX]
  have ⟨y,hy,ne⟩:∃ y,y < m/\y≠p:=by
   by_cases c:p=0
   ·exact ⟨1,by omega,by omega⟩
   ·exact ⟨0,by omega,by omega⟩
  obtain ⟨n,hn,a,_⟩:=W.cn.pred W.gd hy hp (Ne.symm ne)
  exact List.length_pos_of_mem (cF.mpr a)
 unfold fD
 simp only [dv,dw,dx,dy,dz,Nat.reduceBEq]
 rw [if_pos (by omega)]
 refine ⟨by omega,cN rfl ?_⟩
 refine t9 (fun i E=>∃ (o4 o5 o6 o7 o8 o9 o10:Option (Kd×PyData)),E=[some (.sh,wD m es),some (.sh,nD ls),some (.sh,.str k),some (.ow false,nD ((List.range i).map (fv es ls k))),o4,o5,o6,o7,o8,o9,o10,none,none]/\bG o4=true/\bG o5=true/\bG o6=true/\bG o7=true/\bG o8=true/\bG o9=true/\bG o10=true) ⟨none,none,none,none,none,none,none,rfl,rfl,rfl,rfl,rfl,rfl,rfl,rfl⟩ ?_ ?_
 ·rintro J p _ hp hJ ⟨o4,o5,o6,o7,o8,o9,o10,rfl,h4,h5,h6,h7,h8,h9,h10⟩
  simp only [dv,dw,dx,dy,dz,Nat.reduceBEq,h4,h5]
  refine ⟨⟨by omega,by omega⟩,?_⟩
  refine oi (fun i E=>∃ (lb:List Nat)(o6 o7 o8:Option (Kd×PyData)),E=[some (.sh,wD m es),some (.sh,nD ls),some (.sh,.str k),some (.ow false,nD ((List.range p).map (fv es ls k))),some (.sh,iD p),some (.ow false,nD lb),o6,o7,o8,o9,o10,none,none]/\bG o6=true/\bG o7=true/\bG o8=true/\kg m es p (es.take i) lb) ⟨List.range m,o6,o7,o8,rfl,h6,h7,h8,kg.start⟩ ?_ ?_
  ·rintro J i e _ hi hJ ⟨lb,o6,o7,o8,rfl,h6,h7,h8,L⟩
   simp only [dv,dw,dx,dy,dz,Nat.reduceBEq,h6,h7]
   have lt:=T.gd.lt e (List.mem_of_getElem? hi)
   have g1:=aN (l:=lb) (k:=e.1) (by rw [L.len];omega)
   have g2:=aN (l:=lb) (k:=e.2) (by rw [L.len];omega)
   have hin:iD p∈[iD e.1,iD e.2]↔e.1=p\/e.2=p:=by
    rw [List.mem_cons,List.mem_singleton,jT,jT]
    omega
   refine ⟨by omega,⟨rfl,rfl⟩,?_⟩
   rw [take_snoc hi] at hJ
   by_cases c:iD p∈[iD e.1,iD e.2]
   ·rw [if_neg fun z=>z c]
    exact hJ _ ⟨lb,_,_,_,rfl,rfl,rfl,h8,L.skip (hin.mp c)⟩
   ·rw [if_pos c]
    have ne:=fun z=>c (hin.mpr z)
    simp only [g2,dw,h8]
    refine gb (fun z=>iD (if z=lb.getD e.2 0 then lb.getD e.1 0 else z)) rfl (fun z hz I hI=>?_) ?_ (by rw [L.len];omega)
    ·simp only [dv,dw,dx,dy,dz,Nat.reduceBEq,g1]
     split
     ·rename_i h
      rw [if_pos h] at hI
      exact hI _ rfl
     ·rename_i h
      rw [if_neg h] at hI
      exact hI _ rfl
    ·simp only [dv,dw,dx,dy,dz,Nat.reduceBEq]
     refine hJ _ ⟨lb.map fun z=>if z=lb.getD e.2 0 then lb.getD e.1 0 else z,some (.sh,iD e.1),some (.sh,iD e.2),some (.sh,iD (lb.getD e.2 0)),?_,rfl,rfl,rfl,L.join T hp (fun f hf=>List.mem_of_mem_take hf) (List.mem_of_getElem? hi) (fun z=>ne (.inl z)) fun z=>ne (.inr z)⟩
     rw [show nD (lb.map fun z=>if z=lb.getD e.2 0 then lb.getD e.1 0 else z)=.list (lb.map fun z=>iD (if z=lb.getD e.2 0 then lb.getD e.1 0 else z)) by unfold nD;rw [List.map_map];rfl]
  ·rintro _ ⟨lb,o6,o7,o8,rfl,h6,h7,h8,Lb⟩
   rw [List.take_length] at Lb
   simp only [dv,dw,dx,dy,dz,Nat.reduceBEq,h9]
   have hes:=W.few
   refine lD (fun e=>(nb p e).map fun n=>iD (lb.getD n 0)) rfl (fun e he I hI=>?_) ?_ (by omega)
   ·have lt:=T.gd.lt e he
    have hin:iD p∈[iD e.1,iD e.2]↔e.1=p\/e.2=p:=by
     rw [List.mem_cons,List.mem_singleton,jT,jT]
     omega
    have g1:=aN (l:=lb) (k:=e.1) (by rw [Lb.len];omega)
    have g2:=aN (l:=lb) (k:=e.2) (by rw [Lb.len];omega)
    unfold nb at hI
    simp only [dv,dw,dx,dy,dz,Nat.reduceBEq]
    refine ⟨by omega,⟨rfl,rfl⟩,?_⟩
    by_cases c1:e.1=p
    ·rw [if_pos (hin.mpr (.inl c1))]
     rw [if_pos c1] at hI
     have ee:((e.1:Int) + (e.2:Int) - (p:Int))=(e.2:Int):=by omega
     rw [ee]
     simp only [dv,dw,dx,dy,dz,Nat.reduceBEq,g2]
     exact hI _ rfl
    ·by_cases c2:e.2=p
     ·rw [if_pos (hin.mpr (.inr c2))]
      rw [if_neg c1,if_pos c2] at hI
      have ee:((e.1:Int) + (e.2:Int) - (p:Int))=(e.1:Int):=by omega
      rw [ee]
      simp only [dv,dw,dx,dy,dz,Nat.reduceBEq,g1]
      exact hI _ rfl
     ·rw [if_neg fun z=>(hin.mp z).elim c1 c2]
      rw [if_neg c1,if_neg c2] at hI
      exact hI _ rfl
   ·have e1:(es.filterMap fun e=>(nb p e).map fun n=>iD (lb.getD n 0))=(bO es p).map fun n=>iD (lb.getD n 0):=by
     unfold bO
     rw [List.map_filterMap]
    rw [e1]
    have hnb:=W.gd.jf p
    simp only [dv,dw,dx,dy,dz,Nat.reduceBEq,h10]
    refine ⟨h9,?_⟩
    refine gb (fun n=>iD (cb es ls p n)) rfl (fun n hn I hI=>?_) ?_ (by omega)
    ·have an:aB es p n:=cF.mp hn
     simp only [dv,dw,dx,dy,dz,Nat.reduceBEq]
     refine lD (fun l=>if decide (ds es n l + 1=ds es p l)=true then some (iD l) else none) rfl (fun l hl J hJ=>?_) ?_ (by omega)
     ·have hl':=L.lt l hl
      have g2:=aN (l:=lb) (k:=l) (by rw [Lb.len];exact hl')
      have hb:=Lb.fin T hp an hl'
      unfold aY at hb
      simp only [dv,dw,dx,dy,dz,Nat.reduceBEq,g2] at hJ ⊢
      by_cases c1:l=p
      ·rw [if_neg (by simpa using c1)]
       have nb:¬ (ds es n l + 1=ds es p l):=by rw [c1,bJ];omega
       rw [if_neg nb] at hJ
       exact hJ _ rfl
      ·rw [if_pos c1]
       split
       ·rename_i c
        rw [if_pos (hb.mp c)] at hJ
        exact hJ _ rfl
       ·rename_i c
        rw [if_neg fun z=>c (hb.mpr z)] at hJ
        exact hJ _ rfl
     ·rw [gW]
      simp only [dv,dw,dx,dy,dz,Nat.reduceBEq]
      exact hI _ rfl
    ·simp only [dv,dw,dx,dy,dz,Nat.reduceBEq]
     have e:(bO es p).map (fun n=>iD (cb es ls p n))=((bO es p).map (cb es ls p)).map iD:=by rw [List.map_map];rfl
     rw [e]
     refine nQ (by rw [List.length_map];omega) fun r p1 s1=>?_
     obtain ⟨ns,n1,n2⟩:=gJ _ p1
     have er:=Ac (m:=m) (es:=es) (ls:=ls) (p:=p) ⟨ns,n1,n2,s1⟩
     subst er
     simp only [dv,dw,dx,dy,dz,Nat.reduceBEq]
     refine ⟨h10,?_⟩
     have ec:cutD (List.map iD (rowOf es ls p)) none (some 2)=((rowOf es ls p).take 2).map iD:=qy (b:=2)
     rw [ec,if_pos (by rw [List.all_map];exact List.all_eq_true.mpr fun _ _=>rfl)]
     refine cN rfl ?_
     simp only [dv,dw,dx,dy,dz,Nat.reduceBEq]
     refine Io ?_
     simp only [dv,dw,dx,dy,dz,Nat.reduceBEq]
     refine ⟨by omega,?_⟩
     have h0:=lO p hp
     have g0:=aN h0
     have hix:∀ y:PyData,jB (List.map iD (List.map (fv es ls k) (List.range p))++[y]).length (-1)=some p:=fun y=>by
      rw [List.length_append,List.length_map,List.length_map,List.length_range]
      unfold jB
      rw [if_neg (by omega),if_pos (by rw [List.length_singleton];omega)]
      congr 1
      rw [List.length_singleton]
      omega
     have hst:∀ y z:PyData,(List.map iD (List.map (fv es ls k) (List.range p))++[y]).set p z=List.map iD (List.map (fv es ls k) (List.range p))++[z]:=fun y z=>by
      rw [List.set_append_right _ _ (by rw [List.length_map,List.length_map,List.length_range];exact Nat.le_refl _),List.length_map,List.length_map,List.length_range,Nat.sub_self]
      rfl
     have fin:∀ y:PyData,y=iD (fv es ls k p)->J [some (.sh,wD m es),some (.sh,nD ls),some (.sh,.str k),some (.ow false,.list (List.map iD (List.map (fv es ls k) (List.range p))++[y])),some (.sh,iD p),some (.ow false,nD lb),o6,o7,o8,some (.sh,.list (List.map (fun n=>iD (lb.getD n 0)) (bO es p))),some (.ow false,nD (rowOf es ls p)),none,none]:=fun y hy=>by
      subst hy
      refine hJ _ ⟨some (.sh,iD p),some (.ow false,nD lb),o6,o7,o8,some (.sh,.list (List.map (fun n=>iD (lb.getD n 0)) (bO es p))),some (.ow false,nD (rowOf es ls p)),?_,rfl,rfl,h6,h7,h8,rfl,rfl⟩
      have:nD ((List.range (p + 1)).map (fv es ls k))=.list (List.map iD (List.map (fv es ls k) (List.range p))++[iD (fv es ls k p)]):=by
       rw [List.range_succ,List.map_append]
       unfold nD
       rw [List.map_append]
       rfl
      rw [this]
     split
     ·rename_i c
      rw [g0]
      refine cN rfl ?_
      rw [hix]
      refine cN rfl ?_
      rw [hst]
      exact fin _ (by unfold fv;rw [if_pos c])
     ·rename_i c
      split
      ·rename_i c2
       rw [hix]
       refine cN rfl ?_
       rw [hst]
       exact fin _ (by unfold fv;rw [if_neg c,if_pos (by omega)])
      ·rename_i c2
       refine fin _ ?_
       unfold fv
       rw [if_neg c,if_neg (by omega)]
       match hr:rowOf es ls p with
       | []=>rw [hr] at h0;cases h0
       | [_]=>rw [hr] at c2;exact absurd (by simp:((1:Nat):Int) < 2) c2
       | a::b::r=>simp
 ·rintro _ ⟨o4,o5,o6,o7,o8,o9,o10,rfl,h4,h5,h6,h7,h8,h9,h10⟩
  simp only [dv,dw,dx,dy,dz,Nat.reduceBEq]
  refine wH (fun z=>?_) fun s hs le=>?_
  ·have:=congrArg List.length z
   rw [List.length_map,List.length_range] at this
   simp at this
   omega
  ·rw [if_pos (show flat Kd.sh (iD s)=true from rfl)]
   refine cN rfl ?_
   simp only [dv,dw,dx,dy,dz,Nat.reduceBEq]
   obtain ⟨p,hp,e1⟩:=List.mem_map.mp hs
   have hp:=List.mem_range.mp hp
   have le':∀ p',p' < m->s<=fv es ls k p':=fun p' h=>le _ (List.mem_map.mpr ⟨p',List.mem_range.mpr h,rfl⟩)
   by_cases c:k="all"
   ·subst c
    refine q _ (w5 T (by omega) L ⟨p,hp,?_⟩ fun p' x hp' e2=>?_)
    ·rw [<- e1]
     unfold fv
     rw [if_pos rfl]
     exact aN (lO p hp)
    ·have:=le' p' hp'
     unfold fv at this
     rw [if_pos rfl] at this
     rw [aN (lO p' hp')] at e2
     cases e2
     exact this
   ·have hk':k="places"\/k="ties":=by
     rcases hk with z | z | z
     ·exact .inl z
     ·exact .inr z
     ·exact absurd z c
    have h0':2<=(aK k m es).length:=by
     unfold aK
     rcases hk' with rfl | rfl
     ·rw [if_neg (by decide),List.length_append,List.length_map,List.length_range]
      omega
     ·rw [if_pos rfl,if_neg (by decide),List.nil_append,List.length_map]
      omega
    have two:∀ p',p' < m->2<=(rowOf es ls p').length->s<=(rowOf es ls p').getD 0 0 + (rowOf es ls p').getD 1 0:=fun p' h1 h2=>by
     have:=le' p' h1
     unfold fv at this
     rw [if_neg c,if_neg (by omega)] at this
     exact this
    have two':∀ p' x y,p' < m->(rowOf es ls p')[0]?=some x->(rowOf es ls p')[1]?=some y->s<=x + y:=fun p' x y h1 e2 e3=>by
     have h2:=av e3
     have:=two p' h1 h2
     rw [aN (by omega:0 < (rowOf es ls p').length)] at e2
     rw [aN h2] at e3
     cases e2
     cases e3
     exact this
    by_cases cl:2<=(rowOf es ls p).length
    ·refine q _ (jP T L hk' h0' (.inl ⟨p,_,_,hp,aN (by omega),aN (by omega),?_⟩) two')
     rw [<- e1]
     unfold fv
     rw [if_neg c,if_neg (by omega)]
    ·have es':s=ls.length:=by
      rw [<- e1]
      unfold fv
      rw [if_neg c,if_pos (by omega)]
     by_cases ex:∃ p',p' < m/\2<=(rowOf es ls p').length
     ·obtain ⟨p',h1,h2⟩:=ex
      have g0:=aN (l:=rowOf es ls p') (k:=0) (by omega)
      have g1:=aN (l:=rowOf es ls p') (k:=1) (by omega)
      refine q _ (jP T L hk' h0' (.inl ⟨p',_,_,h1,g0,g1,?_⟩) two')
      have:=two p' h1 h2
      obtain ⟨⟨a,b,ha,hb,ne,e⟩,_⟩:=t7 T.gd g0 g1
      have:=zP T L.lt ha hb ne
      omega
     ·refine q _ (jP T L hk' h0' (.inr ⟨fun p' h1=>?_,es'⟩) two')
      rcases Nat.lt_or_ge (rowOf es ls p').length 2 with z | z
      ·exact z
      ·exact absurd ⟨p',h1,z⟩ ex
end PB
namespace PB
open PySem L2 Dv Gr
theorem gP.one {cs:List (List Nat)}{d d':PyData}(h:gP cs d)(g:gP cs d'):d=d':=by
 rcases h with ⟨e,rfl⟩ | ⟨s,rfl,h1,h2⟩
 ·rcases g with ⟨_,rfl⟩ | ⟨s,rfl,h1,_⟩
  ·rfl
  ·rw [e] at h1;exact absurd h1 List.not_mem_nil
 ·rcases g with ⟨e,rfl⟩ | ⟨s',rfl,g1,g2⟩
  ·rw [e] at h1;exact absurd h1 List.not_mem_nil
  ·have:=h2 _ g1
   have:=g2 _ h1
   rw [show s=s' by omega]
theorem Kc {P:Kd->PyData->Prop}:mz [.none,.none] P=P .sh (.bool false):=rfl
theorem uH {cs:List (List Nat)}{d:PyData}(h:gP cs d):lf d=true:=by
 rcases h with ⟨_,rfl⟩ | ⟨s,rfl,_⟩ <;> rfl
theorem BG:∀ dd Q x,rL dd Q x->l9 lz nR n6 fB lI rE rK rF sd rX (bH [false] Q x) (ini [false] dd++List.replicate 10 none):=by
 rintro _ Q x ⟨ns,rfl,hn,q⟩
 unfold l9
 simp only [dv,dw,dx,dy,dz,Nat.reduceBEq]
 refine ⟨ns,3,rfl,by omega,by omega,fun cs hcs=>?_⟩
 simp only [dv,dw,dx,dy,dz,Nat.reduceBEq]
 have e1:(if (cs.length:Int) > 1 then (cs.length:Int) else 1)=((max 1 cs.length:Nat):Int):=by split <;> omega
 rw [e1,if_pos (by omega)]
 refine cN rfl ?_
 simp only [dz]
 refine t9 (fun i E=>∃ o2 o3 o4 o5 o6 o7 o8 o9 o10:Option (Kd×PyData),E=[some (.sh,.list (ns.map .int)),some (.ow false,.list (cs.map .int)),o2,o3,o4,o5,o6,o7,o8,o9,o10]/\bG o2=true/\bG o3=true/\bG o4=true/\bG o5=true/\bG o6=true/\bG o7=true/\bG o8=true/\bG o9=true/\bG o10=true) ⟨none,none,none,none,none,none,none,none,none,rfl,rfl,rfl,rfl,rfl,rfl,rfl,rfl,rfl,rfl⟩ ?_ ?_
 ·rintro J k _ hk hJ ⟨o2,o3,o4,o5,o6,o7,o8,o9,o10,rfl,h2,h3,h4,h5,h6,h7,h8,h9,h10⟩
  simp only [dv,dw,dx,dy,dz,Nat.reduceBEq,h2]
  refine ⟨cs,k,rfl,by omega,by omega,fun a b b0 b1=>?_⟩
  simp only [dv,dw,dx,dy,dz,Nat.reduceBEq,h3]
  refine ⟨by omega,a,b,8,rfl,by omega,by omega,b0,b1,fun r a b hr b0 b1=>?_⟩
  simp only [dv,dw,dx,dy,dz,Nat.reduceBEq]
  have ⟨mo,h0,h60,em⟩:∃ mo:Nat,0 < mo/\mo<=60/\dQ [PyData.int 16,PyData.int 60] (if (r:Int)=0 then 1 else 0)=some (iD mo):=by
   split
   ·exact ⟨60,by omega,by omega,rfl⟩
   ·exact ⟨16,by omega,by omega,rfl⟩
  refine cN em ?_
  refine ⟨a,b,mo,rfl,h0,h60,b0,b1,fun m es a b hm W ht b0 b1=>?_⟩
  simp only [dv,dw,dx,dy,dz,Nat.reduceBEq,h4]
  refine ⟨by omega,?_⟩
  rw [show [PyData.str "places",PyData.str "ties",PyData.str "all"]=([("places":Str),"ties","all"]:List Str).map PyData.str from rfl]
  refine oi (fun i E=>∃ (a b:Int)(o5 o6 o7 o8 o9 o10:Option (Kd×PyData)),E=[some (.sh,.list (ns.map .int)),some (.ow false,.list (cs.map .int)),some (.sh,iD k),some (.ow false,jt a b),some (.sh,wD m es),o5,o6,o7,o8,o9,o10]/\bG o5=true/\bG o6=true/\bG o7=true/\bG o8=true/\bG o9=true/\bG o10=true/\0<=b/\b < 2147483647) ⟨a,b,o5,o6,o7,o8,o9,o10,rfl,h5,h6,h7,h8,h9,h10,b0,b1⟩ ?_ ?_
  ·rintro J i kd _ hi hJ ⟨a,b,o5,o6,o7,o8,o9,o10,rfl,h5,h6,h7,h8,h9,h10,b0,b1⟩
   have hk:m6 kd:=by
    have:=List.mem_of_getElem? hi
    simp only [List.mem_cons,List.not_mem_nil,or_false] at this
    exact this
   simp only [dv,dw,dx,dy,dz,Nat.reduceBEq,h5]
   refine ⟨a,b,m,rfl,W.le,b0,b1,fun ls a b L b0 b1=>?_⟩
   simp only [dv,dw,dx,dy,dz,Nat.reduceBEq,h6]
   have hm60:=W.le
   have hL:=L.len
   have hkl:=sD (k:=kd) W
   refine IU (fun E=>∃ (d:PyData)(k6:Kd),E=[some (.sh,.list (ns.map .int)),some (.ow false,.list (cs.map .int)),some (.sh,iD k),some (.ow false,jt a b),some (.sh,wD m es),some (.sh,.str kd),some (k6,nD ls),some (.sh,d),o8,o9,o10]/\(k6=.ow false\/k6=.sh)/\gP ((aK kd m es).map (cL es ls)) d) (fun J1 hJ1=>?_) ?_
   ·simp only [dv,dw,dx,dy,dz,Nat.reduceBEq]
    split
    ·refine ⟨m,es,ls,kd,rfl,W,L,hk,?_⟩
     simp only [dv,dw,dx,dy,dz,Nat.reduceBEq]
     refine ⟨(aK kd m es).map (cL es ls),ls.length,by rw [List.map_map];rfl,fun c hc=>?_,by omega,by rw [List.length_map];omega,fun d hd=>?_⟩
     ·obtain ⟨t,_,rfl⟩:=List.mem_map.mp hc
      exact Ad
     ·have lfd:=uH hd
      simp only [dv,dw,dx,dy,dz,Nat.reduceBEq,lfd,h7]
      exact hJ1 _ ⟨d,_,rfl,.inl rfl,hd⟩
    ·refine ⟨m,es,ls,kd,rfl,W,ht,L,hk,by omega,fun d hd=>?_⟩
     have lfd:=uH hd
     simp only [dv,dw,dx,dy,dz,Nat.reduceBEq,lfd,h7]
     exact hJ1 _ ⟨d,_,rfl,.inl rfl,hd⟩
   rintro B hB _ ⟨d,k6,rfl,hk6,hd⟩
   rw [hB]
   have rd6:k6.rd=true:=by rcases hk6 with rfl | rfl <;> rfl
   simp only [dv,dw,dx,dy,dz,Nat.reduceBEq,h8,rd6]
   have lfd:=uH hd
   rw [if_pos (by decide)]
   refine cN rfl ?_
   refine t9 (fun i E=>∃ (k6 k8:Kd)(o9 o10:Option (Kd×PyData)),E=[some (.sh,.list (ns.map .int)),some (.ow false,.list (cs.map .int)),some (.sh,iD k),some (.ow false,jt a b),some (.sh,wD m es),some (.sh,.str kd),some (k6,nD ls),some (.sh,d),some (k8,nD ls),o9,o10]/\(k6=.ow false\/k6=.sh)/\(k8=.ow false\/k8=.sh)/\bG o9=true/\bG o10=true) ⟨k6,_,o9,o10,rfl,hk6,.inl rfl,h9,h10⟩ ?_ ?_
   ·rintro J i _ hi hJ ⟨k6,k8,o9,o10,rfl,hk6,hk8,h9,h10⟩
    have rd6:k6.rd=true:=by rcases hk6 with rfl | rfl <;> rfl
    have rd8:k8.rd=true:=by rcases hk8 with rfl | rfl <;> rfl
    have fz8:k8.fz=true:=by rcases hk8 with rfl | rfl <;> rfl
    simp only [dv,dw,dx,dy,dz,Nat.reduceBEq,h9,rd8,fz8]
    refine ⟨m,es,ls,kd,rfl,W,ht,L,hk,fun d' hd'=>?_⟩
    obtain rfl:=hd.one hd'
    simp only [dv,dw,dx,dy,dz,Nat.reduceBEq,lfd,h10,rd6,rd8]
    have dll:dl 8 (PyData.list (ls.map iD))=true:=by
     simp only [dl,List.all_map,List.all_eq_true]
     intro _ _
     rfl
    have fin:=hJ _ ⟨k6,k8,some (.sh,iD i),some (.sh,d),rfl,hk6,hk8,rfl,rfl⟩
    rcases hd with ⟨_,rfl⟩ | ⟨s,rfl,_⟩
    ·rw [Kc]
     simp only [dv,dw,dx,dy,dz,Nat.reduceBEq]
     exact ⟨⟨dll,dll⟩,fin⟩
    ·simp only [dv,dw,dx,dy,dz,Nat.reduceBEq]
     refine ⟨⟨dll,dll⟩,s,rfl,?_⟩
     simp only [dv,dw,dx,dy,dz,Nat.reduceBEq]
     exact fin
   ·rintro _ ⟨k6,k8,o9,o10,rfl,hk6,hk8,h9,h10⟩
    exact hJ _ ⟨a,b,_,_,_,_,o9,o10,rfl,rfl,by rcases hk6 with rfl | rfl <;> rfl,rfl,by rcases hk8 with rfl | rfl <;> rfl,h9,h10,b0,b1⟩
  ·rintro _ ⟨a,b,o5,o6,o7,o8,o9,o10,rfl,h5,h6,h7,h8,h9,h10,b0,b1⟩
   exact hJ _ ⟨_,_,_,_,_,_,_,_,_,rfl,rfl,rfl,rfl,h5,h6,h7,h8,h9,h10⟩
 ·rintro _ ⟨o2,o3,o4,o5,o6,o7,o8,o9,o10,rfl,h2,h3,h4,h5,h6,h7,h8,h9,h10⟩
  simp only [dv,dw,dx,dy,dz,Nat.reduceBEq]
  exact q
end PB
namespace Ga
open PySem L2 PySem.W Dv PB
def top (i:Nat):Stmt:=PySem.Challenge.pw_farhail_k20_tree_strength_told.main.body.getD i (.Pass ⟨0,0,0,0⟩)
structure Txt (K:Frag)(mg:Str->Option Value):Prop where
 abs:mg "abs"=none
 bool:mg "bool"=none
 enumerate:mg "enumerate"=none
 int:mg "int"=none
 isinstance:mg "isinstance"=none
 len:mg "len"=none
 list:mg "list"=none
 max:mg "max"=none
 min:mg "min"=none
 range:mg "range"=none
 sorted:mg "sorted"=none
 sum:mg "sum"=none
 tuple:mg "tuple"=none
 Fg:∃ C,mg "NoLooks"=some (.ref C)/\gH K C sQ "ValueError.__new__" none=true
 FE:∃ C,mg "NoPlace"=some (.ref C)/\gH K C sQ "ValueError.__new__" none=true
 Iq:∃ C,mg "NoTree"=some (.ref C)/\gH K C sQ "ValueError.__new__" none=true
 kit:uw K ["bool","int","tuple"]=true
section
variable {P:Program}{w:World}{K:Frag}{mg:Str->Option Value}{base:Heap}
abbrev eL:Stmt:=top 20
theorem jX:aQ ["script","many","cells","k","cell"] ["script","many"] (ai eL):=⟨rfl,rfl,rfl,by decide +kernel,rfl,by decide +kernel,by decide +kernel⟩
theorem vR (T:Txt K mg){f:Addr}{fd:FuncData}(F:dh K "_law_cells" "_law_cells" eL f fd):bF P w K mg base (bT P w) 1 f fd ["script","many"] (aD mg K [false,false] lz) :=
 bZ (m:=3) F jX rfl (by decide) (d:=g9) (fun cdv A outer s H Ex hr=>have hu:=hr.units;ak (bA 2 jX.nd (nZ T.list (aE (vC (aP 0 (aP 1 a0))) a0))) (ak (iF PassesOwn.leaving jX.nd (K5 T.enumerate (Ho (aP 0 (aP 1 (aE (xI) a0))))) (gT (gC 3 (gC 4 g0))) (aq (sf 2 hu (iU (aE (oS (aE (bU hu (aP 2 (aE (kL (aP 3 (aP 1 a0))) a0))) (aE (xI) a0))) (aP 4 a0))) (kL (aP 3 (aP 1 a0)))))) (aq (qN 2)))) PB.BP
abbrev fT:Stmt:=top 21
theorem gG:aQ ["cells","k","cell","rest"] ["cells","k"] (ai fT):=⟨rfl,rfl,rfl,by decide +kernel,rfl,by decide +kernel,by decide +kernel⟩
theorem v8 (T:Txt K mg){f:Addr}{fd:FuncData}(F:dh K "_law_pool" "_law_pool" fT f fd):bF P w K mg base (bT P w) 1 f fd ["cells","k"] (aD mg K [false,false] nR) :=
 bZ (m:=2) F gG rfl (by decide) (d:=iO) (fun cdv A outer s H Ex hr=>have hu:=hr.units;ak (bA 2 gG.nd (xI)) (uu (jm (bS.st (C8 (aE (fY T.len (aP 0 a0)) (aE (xI) a0)))) (aq (bA 2 gG.nd (iU (aE (bU hu (aP 0 (aE (kL (aP 1 (aE (fY T.len (aP 0 a0)) a0))) a0))) (aE (yH (aP 1 (aE (fY T.len (aP 0 a0)) a0))) a0))))) (dO)) (ak (bA 3 gG.nd (xI)) (uu (jm (bS.st (mq.uR (qc (wZ (aP 2 (aE (xI) a0))) (kR (LH (aP 2 (aE (K6 (aE (xI) (aE (xI) a0))) a0))))))) (aq (bA 3 gG.nd (Lm T.abs (aP 2 a0)))) (dO)) (aq (c9 (gA (aP 3 (aE (kL (aE (iU (aE (oS (aE (kL (aP 2 (aE (xI) a0))) (aE (xI) a0))) (aE (oS (aE (oS (aE (xI) (aE (iU (aP 1 (aE (xI) a0))) a0))) (aE (iU (aP 1 (aE (xI) a0))) a0))) a0))) (aE (xI) a0))) a0))))))))) PB.Ff
abbrev fN:Stmt:=top 22
theorem oO:aQ ["pool","many","found"] ["pool","many"] (ai fN):=⟨rfl,rfl,rfl,by decide +kernel,rfl,by decide +kernel,by decide +kernel⟩
theorem vZ (T:Txt K mg){f:Addr}{fd:FuncData}(F:dh K "_law_take" "_law_take" fN f fd):bF P w K mg base (bT P w) 1 f fd ["pool","many"] (aD mg K [true,false] fB) :=
 bZ (m:=1) F oO rfl (by decide) (d:=iQ) (fun cdv A outer s H Ex hr=>have hu:=hr.units;ak (jm (bS.st (C8 (aE (bU hu (aP 0 (aE (xI) a0))) (aE (xI) a0)))) (ak (bA 2 oO.nd (kL (aE (bU hu (aP 0 (aE (xI) a0))) (aP 1 a0)))) (ak (sf 0 hu (yH (aE (bU hu (aP 0 (aE (xI) a0))) (aP 1 a0))) (xI)) (aq (qN 2)))) (dO)) (ak (sf 0 hu (kL (aE (iU (aE (oS (aE (bU hu (aP 0 (aE (xI) a0))) (aE (xI) a0))) (aE (xI) a0))) (aE (xI) a0))) (xI)) (aq (c9 (kL (aE (yH (aE (kL (aE (oS (aE (kL (aE (oS (aE (bU hu (aP 0 (aE (xI) a0))) (aE (bU hu (aP 0 (aE (xI) a0))) a0))) (aE (xI) a0))) (aE (xI) a0))) (aE (xI) a0))) (aE (xI) a0))) (aP 1 a0))))))) PB.FA
abbrev fQ:Stmt:=top 23
theorem oK:aQ ["pool","menu","many","rest"] ["pool","menu","many"] (ai fQ):=⟨rfl,rfl,rfl,by decide +kernel,rfl,by decide +kernel,by decide +kernel⟩
theorem wk (T:Txt K mg)(h_law_take:aJ P w K mg base 1 "_law_take" ["pool","many"] (aD mg K [true,false] fB)){f:Addr}{fd:FuncData}(F:dh K "_law_some" "_law_some" fQ f fd):bF P w K mg base (bT P w) 2 f fd ["pool","menu","many"] (aD mg K [true,false,false] oq) :=
 bZ (m:=2) F oK rfl (by decide) (d:=ir fB) (fun cdv A outer s H Ex hr=>ak (bA 3 oK.nd (nZ T.list (aP 1 a0))) (aq (c9 (gq (vs:=["k"]) (NB:=["k","rest","pool"]) (ix:=[3,0]) (by rfl) (oE T.range (aP 2 a0)) (fun _ _ _ _=>gN 0) (fun _ _ _ _=>.nil) (fun _ _ _ _ _=>dg (xM 1 w9 wC PySem.F.slot_list_pop PySem.F.type_list_pop (eC (bq h_law_take nW hr (aP 2 (aE (fY T.len (aP 1 a0)) a0))) e0))))))) PB.EW
abbrev eK:Stmt:=top 24
theorem nL:aQ ["pool","many","ties","names"] ["pool","many","ties"] (ai eK):=⟨rfl,rfl,rfl,by decide +kernel,rfl,by decide +kernel,by decide +kernel⟩
theorem uo (T:Txt K mg)(h_law_some:aJ P w K mg base 2 "_law_some" ["pool","menu","many"] (aD mg K [true,false,false] oq)){f:Addr}{fd:FuncData}(F:dh K "_law_named" "_law_named" eK f fd):bF P w K mg base (bT P w) 3 f fd ["pool","many","ties"] (aD mg K [true,false,false] k9) :=
 bZ (m:=3) F nL rfl (by decide) (d:=gB oq) (fun cdv A outer s H Ex hr=>have hu:=hr.units;ak (bA 3 nL.nd (bq h_law_some bQ hr (aP 0 (aE (qH T.list T.range (aP 1 a0)) (aP 1 a0))))) (aq (c9 (pH (aP 1 (aE (uE T.tuple (aE (Im T.sorted (aE (gq (vs:=["a","b"]) (NB:=["a","b","names"]) (ix:=[3]) (by rfl) (dM (xV 2)) (fun _ _ _ _=>gT (gC 0 (gC 1 g0))) (fun _ _ _ _=>.nil) (fun _ _ _ _ _=>dg (pH (aE (BE T.min (aE (bU hu (aP 2 (aP 0 a0))) (aE (bU hu (aP 2 (aP 1 a0))) a0))) (aE (Cg T.max (aE (bU hu (aP 2 (aP 0 a0))) (aE (bU hu (aP 2 (aP 1 a0))) a0))) a0))))) a0)) a0)) a0)))))) PB.Bp
abbrev fU:Stmt:=top 25
theorem fO:aQ ["pool","most","many","shape","ties","k","ahead"] ["pool","most"] (ai fU):=⟨rfl,rfl,rfl,by decide +kernel,rfl,by decide +kernel,by decide +kernel⟩
theorem we (T:Txt K mg)(h_law_take:aJ P w K mg base 1 "_law_take" ["pool","many"] (aD mg K [true,false] fB))(h_law_named:aJ P w K mg base 3 "_law_named" ["pool","many","ties"] (aD mg K [true,false,false] k9)){f:Addr}{fd:FuncData}(F:dh K "_law_tree" "_law_tree" fU f fd):bF P w K mg base (bT P w) 4 f fd ["pool","most"] (aD mg K [true,false] n6) :=
 bZ (m:=5) F fO rfl (by decide) (d:=iK fB k9) (fun cdv A outer s H Ex hr=>have hu:=hr.units;ak (bA 2 fO.nd (iU (aE (xI) (aE (bq h_law_take bQ hr (aP 0 (aP 1 a0))) a0)))) (ak (bA 3 fO.nd (bq h_law_take bQ hr (aP 0 (aE (xI) a0)))) (ak (bA 4 fO.nd (gA a0)) (ak (iF PassesOwn.leaving fO.nd (LL T.range (aE (xI) (aP 2 a0))) (gN 5) (ak (bA 6 fO.nd (gA (aE (rQ (aP 5 (aE (xI) a0))) (aE (xI) (aE (bq h_law_take bQ hr (aP 0 (aP 5 a0))) (aE (Cg T.max (aE (xI) (aE (rQ (aE (rQ (aP 5 (aE (xI) a0))) (aE (bq h_law_take bQ hr (aP 0 (aE (xI) a0))) a0))) a0))) (aE (bq h_law_take bQ hr (aP 0 (aE (BE T.min (aP 5 (aE (xI) a0))) a0))) a0))))))) (aq (gM (xM 4 eZ dZ PySem.F.slot_list_append PySem.F.type_list_append (eC (pH (aE (bU hu (aE (iU (aP 6 (aE (gA (aE (yH (aE (rQ (aP 5 (aE (xI) a0))) (aE (xI) a0))) a0)) a0))) (aP 3 a0))) (aP 5 a0))) e0)))))) (aq (c9 (bq h_law_named bQ hr (aP 0 (aP 2 (aP 4 a0)))))))))) PB.Eh
abbrev eX:Stmt:=top 34
theorem mU:aQ ["pool","many","part"] ["pool","many"] (ai eX):=⟨rfl,rfl,rfl,by decide +kernel,rfl,by decide +kernel,by decide +kernel⟩
theorem vD (T:Txt K mg)(h_law_take:aJ P w K mg base 1 "_law_take" ["pool","many"] (aD mg K [true,false] fB)){f:Addr}{fd:FuncData}(F:dh K "_law_looks" "_law_looks" eX f fd):bF P w K mg base (bT P w) 2 f fd ["pool","many"] (aD mg K [true,false] lI) :=
 bZ (m:=2) F mU rfl (by decide) (d:=gY fB) (fun cdv A outer s H Ex hr=>have hu:=hr.units;ak (bA 2 mU.nd (bq h_law_take bQ hr (aP 0 (aE (xI) a0)))) (aq (c9 (gq (vs:=["place"]) (NB:=["place","pool","part"]) (ix:=[0,2]) (by rfl) (oE T.range (aP 1 a0)) (fun _ _ _ _=>gN 0) (fun _ _ _ _=>.one (bS.st (wZ (aE (bq h_law_take nW hr (aP 1 (aE (xI) a0))) (aE (bU hu (aE (gA (aE (xI) (aE (xI) (aE (xI) (aE (xI) (aE (xI) (aE (xI) a0))))))) (aP 2 a0))) a0))))) (fun _ _ _ _ _=>dg (xV 0)))))) PB.Bt
abbrev dU:Stmt:=top 31
theorem tT:aQ ["one","other"] ["one","other"] (ai dU):=⟨rfl,rfl,rfl,by decide +kernel,rfl,by decide +kernel,by decide +kernel⟩
theorem tQ (T:Txt K mg){f:Addr}{fd:FuncData}(F:dh K "_law_unlike" "_law_unlike" dU f fd):bF P w K mg base (bT P w) 1 f fd ["one","other"] (aD mg K [false,false] rZ) :=
 bZ (m:=1) F tT rfl (by decide) (d:=gp) (fun cdv A outer s H Ex hr=>have hu:=hr.units;aq (c9 (fY T.len (aE (gq (vs:=["k"]) (NB:=["k","one","other"]) (ix:=[0,1]) (by rfl) (oE T.range (aE (fY T.len (aP 0 a0)) a0)) (fun _ _ _ _=>gN 0) (fun _ _ _ _=>.one (bS.st (zz hu (aE (bU hu (aP 1 (aP 0 a0))) (aE (bU hu (aP 2 (aP 0 a0))) a0))))) (fun _ _ _ _ _=>dg (xV 0))) a0)))) PB.Hl
abbrev ez:Stmt:=top 32
theorem eN:aQ ["codes","found","k","other","many"] ["codes"] (ai ez):=⟨rfl,rfl,rfl,by decide +kernel,rfl,by decide +kernel,by decide +kernel⟩
theorem ux (T:Txt K mg)(h_law_unlike:aJ P w K mg base 1 "_law_unlike" ["one","other"] (aD mg K [false,false] rZ)){f:Addr}{fd:FuncData}(F:dh K "_law_least" "_law_least" ez f fd):bF P w K mg base (bT P w) 2 f fd ["codes"] (aD mg K [false] rE) :=
 bZ (m:=4) F eN rfl (by decide) (d:=gU rZ) (fun cdv A outer s H Ex hr=>have hu:=hr.units;ak (bA 1 eN.nd (xN)) (ak (iF PassesOwn.leaving eN.nd (oE T.range (aE (fY T.len (aP 0 a0)) a0)) (gN 2) (aq (iF PassesOwn.leaving eN.nd (dM (vC (aP 0 (aP 2 a0)))) (gN 3) (ak (bA 4 eN.nd (bq h_law_unlike bQ hr (aE (bU hu (aP 0 (aP 2 a0))) (aP 3 a0)))) (aq (jm (bS.st (mq.uR (qc (Lz (aP 1 (aE (xN) a0))) (kR (wZ (aP 4 (aP 1 a0))))))) (aq (bA 1 eN.nd (xV 4))) (dO))))))) (aq (qN 1)))) PB.IF
abbrev c6:Stmt:=top 35
theorem bM:aQ ["web","looks","kind","found","place","label","a","b","gone","starts","counts"] ["web","looks","kind"] (ai c6):=⟨rfl,rfl,rfl,by decide +kernel,rfl,by decide +kernel,by decide +kernel⟩
theorem pL (T:Txt K mg){f:Addr}{fd:FuncData}(F:dh K "_law_by_pieces" "_law_by_pieces" c6 f fd):bF P w K mg base (bT P w) 1 f fd ["web","looks","kind"] (aD mg K [false,false,false] rF) :=
 bZ (m:=10) F bM rfl (by decide) (d:=fD) (fun cdv A outer s H Ex hr=>have hu:=hr.units;ak (bA 3 bM.nd (gA a0)) (ak (iF PassesOwn.leaving bM.nd (oE T.range (aE (bU hu (aP 0 (aE (xI) a0))) a0)) (gN 4) (ak (bA 5 bM.nd (qH T.list T.range (aE (bU hu (aP 0 (aE (xI) a0))) a0))) (ak (iF PassesOwn.leaving bM.nd (dM (bU hu (aP 0 (aE (xI) a0)))) (gT (gC 6 (gC 7 g0))) (aq (jm (bS.st (Iu hu (aP 4 (aE (pH (aP 6 (aP 7 a0))) a0)))) (ak (bA 8 bM.nd (bU hu (aP 5 (aP 7 a0)))) (aq (bA 5 bM.nd (gq (vs:=["one"]) (NB:=["one","gone","label","a"]) (ix:=[8,5,6]) (by rfl) (dM (xV 5)) (fun _ _ _ _=>gN 0) (fun _ _ _ _=>.nil) (fun _ _ _ _ _=>dg (yP (bS.st (xx hu (aP 0 (aP 1 a0)))) (bU hu (aP 2 (aP 3 a0))) (xV 0))))))) (dO)))) (ak (HL (j:=9) bM.nd (vs:=["a","b"]) (NB:=["a","b","label","place"]) (ix:=[5,4]) (by rfl) (dM (bU hu (aP 0 (aE (xI) a0)))) (fun _ _ _ _=>gT (gC 0 (gC 1 g0))) (fun _ _ _ _=>.one (bS.st (Kr hu (aP 3 (aE (pH (aP 0 (aP 1 a0))) a0))))) (fun _ _ _ _ _=>dg (bU hu (aP 2 (aE (rQ (aE (iU (aP 0 (aP 1 a0))) (aP 3 a0))) a0))))) (ak (bA 10 bM.nd (qK T.sorted (aE (Gx (cx:="one") (vs:=["one"]) (NB:=["one","looks","place","label"]) (ix:=[1,4,5]) (by rfl) (dM (xV 9)) (fun _ _ _ _ _=>gN 0) (fun _ _ _ _ _=>.nil) (fun _ _ _ _ _ _=>dg (fY T.len (aE (gq (vs:=["look"]) (NB:=["look","place","label","one"]) (ix:=[2,3,0]) (by rfl) (dM (xV 1)) (fun _ _ _ _=>gN 0) (fun _ _ _ _=>.one (bS.st (mq.uR (xg (zz hu (aP 0 (aP 1 a0))) (kR (xx hu (aE (bU hu (aP 2 (aP 0 a0))) (aP 3 a0)))))))) (fun _ _ _ _ _=>dg (xV 0))) a0)))) a0))) (ak (gM (xM 3 eZ dZ PySem.F.slot_list_append PySem.F.type_list_append (eC (Lf T.sum (aE (vC (aP 10 (aE (xI) a0))) a0)) e0))) (aq (jm (bS.st (xx hu (aP 2 (aE (xS) a0)))) (aq (sf 3 hu (bU hu (aP 10 (aE (xI) a0))) (BB (aE (xI) a0)))) (aq (jm (bS.st (wZ (aE (fY T.len (aP 10 a0)) (aE (xI) a0)))) (aq (sf 3 hu (fY T.len (aP 1 a0)) (BB (aE (xI) a0)))) (dO))))))))))) (aq (c9 (DJ T.min (aP 3 a0)))))) PB.Gu
abbrev gf:Stmt:=top 13
theorem qA:aQ ["web","many","ties"] ["web"] (ai gf):=⟨rfl,rfl,rfl,by decide +kernel,rfl,by decide +kernel,by decide +kernel⟩
theorem yh (T:Txt K mg){f:Addr}{fd:FuncData}(F:dh K "is_tree" "is_tree" gf f fd):bF P w K mg base (bT P w) 1 f fd ["web"] (aD mg K [false] rD) :=
 bZ (m:=2) F qA rfl (by decide) (d:=nA) (fun cdv A outer s H Ex hr=>have hu:=hr.units;ak (yy qA.nd (gC 1 (gC 2 g0)) (xV 0)) (aq (c9 (KO hu (aE (fY T.len (aP 2 a0)) (aE (rQ (aP 1 (aE (xI) a0))) a0)))))) PB.Jc
abbrev cP:Stmt:=top 14
theorem oB:aQ ["web"] ["web"] (ai cP):=⟨rfl,rfl,rfl,by decide +kernel,rfl,by decide +kernel,by decide +kernel⟩
theorem oA (T:Txt K mg)(h_is_tree:aJ P w K mg base 1 "is_tree" ["web"] (aD mg K [false] rD)){f:Addr}{fd:FuncData}(F:dh K "refuse_no_tree" "refuse_no_tree" cP f fd):bF P w K mg base (bT P w) 2 f fd ["web"] (aD mg K [false] lK) :=
 bZ (m:=0) F oB rfl (by decide) (d:=gS rD) (fun cdv A outer s H Ex hr=>aq (jm (yI (bS.st (DN (bq h_is_tree bQ hr (aP 0 a0))))) (aq (q8 T.Iq)) (dO))) PB.IJ
abbrev eO:Stmt:=top 10
theorem iB:aQ ["web","looks","last","look"] ["web","looks"] (ai eO):=⟨rfl,rfl,rfl,by decide +kernel,rfl,by decide +kernel,by decide +kernel⟩
theorem uz (T:Txt K mg){f:Addr}{fd:FuncData}(F:dh K "are_looks" "are_looks" eO f fd):bF P w K mg base (bT P w) 1 f fd ["web","looks"] (aD mg K [false,false] qO) :=
 bZ (m:=2) F iB rfl (by decide) (d:=kK) (fun cdv A outer s H Ex hr=>have hu:=hr.units;ak (bA 2 iB.nd (BB (aE (xI) a0))) (ak (iF PassesOwn.leaving iB.nd (dM (xV 1)) (gN 3) (ak (jm (yI (bS.st (tw uc uc rfl (xV 2) (xV 3) (bU hu (aP 0 (aE (xI) a0)))))) (aq (c9 (xB))) (dO)) (aq (bA 2 iB.nd (xV 3))))) (aq (c9 (xB))))) PB.HH
abbrev bX:Stmt:=top 11
theorem ly:aQ ["web","looks"] ["web","looks"] (ai bX):=⟨rfl,rfl,rfl,by decide +kernel,rfl,by decide +kernel,by decide +kernel⟩
theorem lq (T:Txt K mg)(h_are_looks:aJ P w K mg base 1 "are_looks" ["web","looks"] (aD mg K [false,false] qO)){f:Addr}{fd:FuncData}(F:dh K "refuse_wrong_looks" "refuse_wrong_looks" bX f fd):bF P w K mg base (bT P w) 2 f fd ["web","looks"] (aD mg K [false,false] pG) :=
 bZ (m:=0) F ly rfl (by decide) (d:=fG qO) (fun cdv A outer s H Ex hr=>aq (jm (yI (bS.st (DN (bq h_are_looks bQ hr (aP 0 (aP 1 a0)))))) (aq (q8 T.Fg)) (dO))) PB.II
abbrev cG:Stmt:=top 7
theorem nN:aQ ["web","place"] ["web","place"] (ai cG):=⟨rfl,rfl,rfl,by decide +kernel,rfl,by decide +kernel,by decide +kernel⟩
theorem nq (T:Txt K mg){f:Addr}{fd:FuncData}(F:dh K "refuse_no_place" "refuse_no_place" cG f fd):bF P w K mg base (bT P w) 1 f fd ["web","place"] (aD mg K [false,false] su) :=
 bZ (m:=0) F nN rfl (by decide) (d:=gx) (fun cdv A outer s H Ex hr=>have hu:=hr.units;aq (jm (yI (bS.st (tw JD uc rfl (xI) (xV 1) (bU hu (aP 0 (aE (xI) a0)))))) (aq (q8 T.FE)) (dO))) PB.HD
abbrev cC:Stmt:=top 6
theorem dX:aQ ["web","many","ties","lists","one","other"] ["web"] (ai cC):=⟨rfl,rfl,rfl,by decide +kernel,rfl,by decide +kernel,by decide +kernel⟩
theorem mJ (T:Txt K mg){f:Addr}{fd:FuncData}(F:dh K "neighbour_lists" "neighbour_lists" cC f fd):bF P w K mg base (bT P w) 1 f fd ["web"] (aD mg K [false] rP) :=
 bZ (m:=6) F dX rfl (by decide) (d:=gD) (fun cdv A outer s H Ex hr=>ak (yy dX.nd (gC 1 (gC 2 g0)) (xV 0)) (ak (Gf (j:=3) dX.nd (vs:=["place"]) (NB:=["place"]) (ix:=[]) (by rfl) (oE T.range (aP 1 a0)) (fun _ _ _ _=>gN 0) (fun _ _ _ _=>.nil) (fun _ _ _ _=>gA a0)) (ak (iF PassesOwn.leaving dX.nd (dM (xV 2)) (gT (gC 4 (gC 5 g0))) (ak (gM (CN 3 5 eZ dZ PySem.F.slot_list_append PySem.F.type_list_append (xV 4))) (aq (gM (CN 3 4 eZ dZ PySem.F.slot_list_append PySem.F.type_list_append (xV 5)))))) (aq (qN 3))))) PB.Ge
abbrev dm:Stmt:=top 15
theorem dY:aQ ["lists","place","neighbour","piece","steps","last","here"] ["lists","place","neighbour"] (ai dm):=⟨rfl,rfl,rfl,by decide +kernel,rfl,by decide +kernel,by decide +kernel⟩
theorem qG (T:Txt K mg){f:Addr}{fd:FuncData}(F:dh K "piece_behind" "piece_behind" dm f fd):bF P w K mg base (bT P w) 1 f fd ["lists","place","neighbour"] (aD mg K [false,false,false] rW) :=
 bZ (m:=5) F dY rfl (by decide) (d:=ja) (fun cdv A outer s H Ex hr=>have hu:=hr.units;ak (bA 3 dY.nd (gA a0)) (ak (bA 4 dY.nd (gA (aE (pH (aP 1 (aP 2 a0))) a0))) (ak (zO PassesOwn.leaving (tV 4) (ak (yy dY.nd (gC 5 (gC 6 g0)) (xM 4 w9 wC PySem.F.slot_list_pop PySem.F.type_list_pop (e0))) (ak (gM (xM 3 eZ dZ PySem.F.slot_list_append PySem.F.type_list_append (eC (xV 6) e0))) (aq (KU 4 dY.nd (gq (vs:=["there"]) (NB:=["there","here","last"]) (ix:=[6,5]) (by rfl) (dM (bU hu (aP 0 (aP 6 a0)))) (fun _ _ _ _=>gN 0) (fun _ _ _ _=>.one (bS.st (zz hu (aP 0 (aP 2 a0))))) (fun _ _ _ _ _=>dg (pH (aP 1 (aP 0 a0)))))))))) (aq (c9 (qK T.sorted (aP 3 a0))))))) PB.HB
abbrev eW:Stmt:=top 16
theorem nG:aQ ["web","place","lists"] ["web","place"] (ai eW):=⟨rfl,rfl,rfl,by decide +kernel,rfl,by decide +kernel,by decide +kernel⟩
theorem vP (T:Txt K mg)(h_refuse_no_tree:aJ P w K mg base 2 "refuse_no_tree" ["web"] (aD mg K [false] lK))(h_refuse_no_place:aJ P w K mg base 1 "refuse_no_place" ["web","place"] (aD mg K [false,false] su))(h_neighbour_lists:aJ P w K mg base 1 "neighbour_lists" ["web"] (aD mg K [false] rP))(h_piece_behind:aJ P w K mg base 1 "piece_behind" ["lists","place","neighbour"] (aD mg K [false,false,false] rW)){f:Addr}{fd:FuncData}(F:dh K "pieces_at" "pieces_at" eW f fd):bF P w K mg base (bT P w) 3 f fd ["web","place"] (aD mg K [false,false] sj) :=
 bZ (m:=2) F nG rfl (by decide) (d:=kJ lK su rP rW) (fun cdv A outer s H Ex hr=>have hu:=hr.units;ak (gM (bq h_refuse_no_tree bQ hr (aP 0 a0))) (ak (gM (bq h_refuse_no_place bQ hr (aP 0 (aP 1 a0)))) (ak (bA 2 nG.nd (bq h_neighbour_lists bQ hr (aP 0 a0))) (aq (c9 (gq (vs:=["neighbour"]) (NB:=["neighbour","lists","place"]) (ix:=[2,1]) (by rfl) (dM (bU hu (aP 2 (aP 1 a0)))) (fun _ _ _ _=>gN 0) (fun _ _ _ _=>.nil) (fun _ _ _ _ _=>dg (bq h_piece_behind nW hr (aP 1 (aP 2 (aP 0 a0))))))))))) PB.HX
abbrev cE:Stmt:=top 17
theorem mK:aQ ["web","looks","place"] ["web","looks","place"] (ai cE):=⟨rfl,rfl,rfl,by decide +kernel,rfl,by decide +kernel,by decide +kernel⟩
theorem mP (T:Txt K mg)(h_pieces_at:aJ P w K mg base 3 "pieces_at" ["web","place"] (aD mg K [false,false] sj)){f:Addr}{fd:FuncData}(F:dh K "looks_in_pieces" "looks_in_pieces" cE f fd):bF P w K mg base (bT P w) 4 f fd ["web","looks","place"] (aD mg K [false,false,false] q9) :=
 bZ (m:=2) F mK rfl (by decide) (d:=gr sj) (fun cdv A outer s H Ex hr=>have hu:=hr.units;aq (c9 (qK T.sorted (aE (Gx (cx:="piece") (vs:=["piece"]) (NB:=["piece","looks"]) (ix:=[1]) (by rfl) (dM (bq h_pieces_at bQ hr (aP 0 (aP 2 a0)))) (fun _ _ _ _ _=>gN 0) (fun _ _ _ _ _=>.nil) (fun _ _ _ _ _ _=>dg (fY T.len (aE (gq (vs:=["look"]) (NB:=["look","piece"]) (ix:=[0]) (by rfl) (dM (xV 1)) (fun _ _ _ _=>gN 0) (fun _ _ _ _=>.one (bS.st (Kr hu (aP 0 (aP 1 a0))))) (fun _ _ _ _ _=>dg (xV 0))) a0)))) a0)))) PB.Gm
abbrev eE:Stmt:=top 9
theorem iy:aQ ["web","kind","many","ties","places","joins"] ["web","kind"] (ai eE):=⟨rfl,rfl,rfl,by decide +kernel,rfl,by decide +kernel,by decide +kernel⟩
theorem vN (T:Txt K mg){f:Addr}{fd:FuncData}(F:dh K "things_of" "things_of" eE f fd):bF P w K mg base (bT P w) 1 f fd ["web","kind"] (aD mg K [false,false] rY) :=
 bZ (m:=4) F iy rfl (by decide) (d:=kN) (fun cdv A outer s H Ex hr=>have hu:=hr.units;ak (yy iy.nd (gC 2 (gC 3 g0)) (xV 0)) (ak (bA 4 iy.nd (yP (bS.st (xx hu (aP 1 (aE (xS) a0)))) (gA a0) (qH T.list T.range (aP 2 a0)))) (ak (bA 5 iy.nd (yP (bS.st (xx hu (aP 1 (aE (xS) a0)))) (gA a0) (nZ T.list (aP 3 a0)))) (aq (c9 (iU (aP 4 (aP 5 a0)))))))) PB.Jd
abbrev cZ:Stmt:=top 18
theorem jO:aQ ["web","looks","kind","counts"] ["web","looks","kind"] (ai cZ):=⟨rfl,rfl,rfl,by decide +kernel,rfl,by decide +kernel,by decide +kernel⟩
theorem pX (T:Txt K mg)(h_refuse_no_tree:aJ P w K mg base 2 "refuse_no_tree" ["web"] (aD mg K [false] lK))(h_refuse_wrong_looks:aJ P w K mg base 2 "refuse_wrong_looks" ["web","looks"] (aD mg K [false,false] pG))(h_things_of:aJ P w K mg base 1 "things_of" ["web","kind"] (aD mg K [false,false] rY))(h_looks_in_pieces:aJ P w K mg base 4 "looks_in_pieces" ["web","looks","place"] (aD mg K [false,false,false] q9)){f:Addr}{fd:FuncData}(F:dh K "tree_strength" "tree_strength" cZ f fd):bF P w K mg base (bT P w) 5 f fd ["web","looks","kind"] (aD mg K [false,false,false] sd) :=
 bZ (m:=2) F jO rfl (by decide) (d:=iA lK pG rY q9) (fun cdv A outer s H Ex hr=>have hu:=hr.units;ak (gM (bq h_refuse_no_tree bQ hr (aP 0 a0))) (ak (gM (bq h_refuse_wrong_looks bQ hr (aP 0 (aP 1 a0)))) (ak (jm (bS.st (wZ (aE (fY T.len (aE (bq h_things_of bQ hr (aP 0 (aP 2 a0))) a0)) (aE (xI) a0)))) (aq (c9 (xN))) (dO)) (ak (HL (j:=3) jO.nd (vs:=["place"]) (NB:=["place","web","looks"]) (ix:=[0,1]) (by rfl) (oE T.range (aE (bU hu (aP 0 (aE (xI) a0))) a0)) (fun _ _ _ _=>gN 0) (fun _ _ _ _=>.nil) (fun _ _ _ _ _=>dg (bq h_looks_in_pieces nW hr (aP 1 (aP 2 (aP 0 a0)))))) (ak (jm (bS.st (xx hu (aP 2 (aE (xS) a0)))) (aq (c9 (DJ T.min (aE (gq (vs:=["row"]) (NB:=["row"]) (ix:=[]) (by rfl) (dM (xV 3)) (fun _ _ _ _=>gN 0) (fun _ _ _ _=>.nil) (fun _ _ _ _ _=>dg (bU hu (aP 0 (aE (xI) a0))))) a0)))) (dO)) (aq (c9 (Jy T.min (aE (gq (vs:=["row"]) (NB:=["row"]) (ix:=[]) (by rfl) (dM (xV 3)) (fun _ _ _ _=>gN 0) (fun _ _ _ _=>.one (bS.st (C8 (aE (fY T.len (aP 0 a0)) (aE (xI) a0))))) (fun _ _ _ _ _=>dg (iU (aE (bU hu (aP 0 (aE (xI) a0))) (aE (bU hu (aP 0 (aE (xI) a0))) a0))))) (aE (fY T.len (aP 1 a0)) a0)))))))))) PB.F7
abbrev fV:Stmt:=top 26
theorem kG:aQ ["web","found","a","b"] ["web"] (ai fV):=⟨rfl,rfl,rfl,by decide +kernel,rfl,by decide +kernel,by decide +kernel⟩
theorem vY (T:Txt K mg){f:Addr}{fd:FuncData}(F:dh K "_law_near" "_law_near" fV f fd):bF P w K mg base (bT P w) 1 f fd ["web"] (aD mg K [false] rM) :=
 bZ (m:=4) F kG rfl (by decide) (d:=iz) (fun cdv A outer s H Ex hr=>have hu:=hr.units;ak (Gf (j:=1) kG.nd (vs:=["place"]) (NB:=["place"]) (ix:=[]) (by rfl) (oE T.range (aE (bU hu (aP 0 (aE (xI) a0))) a0)) (fun _ _ _ _=>gN 0) (fun _ _ _ _=>.nil) (fun _ _ _ _=>gA a0)) (ak (iF PassesOwn.leaving kG.nd (dM (bU hu (aP 0 (aE (xI) a0)))) (gT (gC 2 (gC 3 g0))) (ak (gM (CN 1 3 eZ dZ PySem.F.slot_list_append PySem.F.type_list_append (xV 2))) (aq (gM (CN 1 2 eZ dZ PySem.F.slot_list_append PySem.F.type_list_append (xV 3)))))) (aq (c9 (gq (vs:=["row"]) (NB:=["row"]) (ix:=[]) (by rfl) (dM (xV 1)) (fun _ _ _ _=>gN 0) (fun _ _ _ _=>.nil) (fun _ _ _ _ _=>dg (qK T.sorted (aP 0 a0)))))))) PB.Gw
abbrev eg:Stmt:=top 27
theorem dP:aQ ["near","place","found","edge","beyond","one","other"] ["near","place"] (ai eg):=⟨rfl,rfl,rfl,by decide +kernel,rfl,by decide +kernel,by decide +kernel⟩
theorem uU (T:Txt K mg){f:Addr}{fd:FuncData}(F:dh K "_law_steps" "_law_steps" eg f fd):bF P w K mg base (bT P w) 1 f fd ["near","place"] (aD mg K [false,false] qR) :=
 bZ (m:=5) F dP rfl (by decide) (d:=gR) (fun cdv A outer s H Ex hr=>have hu:=hr.units;ak (bA 2 dP.nd (Gd (aE (xV 1) (aE (xI) a0)))) (ak (bA 3 dP.nd (gA (aP 1 a0))) (ak (zO PassesOwn.leaving (bS.st (C8 (aE (fY T.len (aP 3 a0)) (aE (xI) a0)))) (ak (bA 4 dP.nd (gA a0)) (ak (iF PassesOwn.leaving dP.nd (dM (xV 3)) (gN 5) (aq (iF PassesOwn.leaving dP.nd (dM (bU hu (aP 0 (aP 5 a0)))) (gN 6) (aq (jm (bS.st (Iu hu (aP 6 (aP 2 a0)))) (ak (sf 2 hu (iU (aE (bU hu (aP 2 (aP 5 a0))) (aE (xI) a0))) (xV 6)) (aq (gM (xM 4 eZ dZ PySem.F.slot_list_append PySem.F.type_list_append (eC (xV 6) e0))))) (dO)))))) (aq (bA 3 dP.nd (xV 4)))))) (aq (qN 2))))) PB.HJ
abbrev fP:Stmt:=top 29
theorem v9:aQ ["steps","thing"] ["steps","thing"] (ai fP):=⟨rfl,rfl,rfl,by decide +kernel,rfl,by decide +kernel,by decide +kernel⟩
theorem wo (T:Txt K mg){f:Addr}{fd:FuncData}(F:dh K "_law_code" "_law_code" fP f fd):bF P w K mg base (bT P w) 1 f fd ["steps","thing"] (aD mg K [false,false] qW) :=
 bZ (m:=1) F v9 rfl (by decide) (d:=iI) (fun cdv A outer s H Ex hr=>have hu:=hr.units;ak (jm (bS.st (DN (Cj T.kit T.isinstance T.tuple PyProof.Rows.boot_tuple (aP 1 a0)))) (aq (c9 (uE T.tuple (aE (gq (vs:=["row"]) (NB:=["row","thing"]) (ix:=[1]) (by rfl) (dM (xV 0)) (fun _ _ _ _=>gN 0) (fun _ _ _ _=>.nil) (fun _ _ _ _ _=>dg (BE T.min (aE (bU hu (aP 0 (aE (bU hu (aP 1 (aE (xI) a0))) a0))) (aE (bU hu (aP 0 (aE (bU hu (aP 1 (aE (xI) a0))) a0))) a0))))) a0)))) (dO)) (aq (c9 (uE T.tuple (aE (gq (vs:=["row"]) (NB:=["row","thing"]) (ix:=[1]) (by rfl) (dM (xV 0)) (fun _ _ _ _=>gN 0) (fun _ _ _ _=>.nil) (fun _ _ _ _ _=>dg (bU hu (aP 0 (aP 1 a0))))) a0))))) PB.Il
abbrev dS:Stmt:=top 28
theorem mC:aQ ["web","kind","places"] ["web","kind"] (ai dS):=⟨rfl,rfl,rfl,by decide +kernel,rfl,by decide +kernel,by decide +kernel⟩
theorem tR (T:Txt K mg){f:Addr}{fd:FuncData}(F:dh K "_law_things" "_law_things" dS f fd):bF P w K mg base (bT P w) 1 f fd ["web","kind"] (aD mg K [false,false] qP) :=
 bZ (m:=1) F mC rfl (by decide) (d:=gw) (fun cdv A outer s H Ex hr=>have hu:=hr.units;ak (bA 2 mC.nd (qH T.list T.range (aE (bU hu (aP 0 (aE (xI) a0))) a0))) (aq (c9 (bU hu (aE (G9 (aE (xS) (aE (xV 2) (aE (xS) (aE (nZ T.list (aE (bU hu (aP 0 (aE (xI) a0))) a0)) (aE (xS) (aE (iU (aP 2 (aE (nZ T.list (aE (bU hu (aP 0 (aE (xI) a0))) a0)) a0))) a0))))))) (aP 1 a0)))))) PB.GW
abbrev eY:Stmt:=top 30
theorem jN:aQ ["web","looks","kind","near","steps"] ["web","looks","kind"] (ai eY):=⟨rfl,rfl,rfl,by decide +kernel,rfl,by decide +kernel,by decide +kernel⟩
theorem vO (T:Txt K mg)(h_law_near:aJ P w K mg base 1 "_law_near" ["web"] (aD mg K [false] rM))(h_law_steps:aJ P w K mg base 1 "_law_steps" ["near","place"] (aD mg K [false,false] qR))(h_law_things:aJ P w K mg base 1 "_law_things" ["web","kind"] (aD mg K [false,false] qP))(h_law_code:aJ P w K mg base 1 "_law_code" ["steps","thing"] (aD mg K [false,false] qW)){f:Addr}{fd:FuncData}(F:dh K "_law_codes" "_law_codes" eY f fd):bF P w K mg base (bT P w) 2 f fd ["web","looks","kind"] (aD mg K [false,false,false] rK) :=
 bZ (m:=3) F jN rfl (by decide) (d:=g8 rM qR qP qW) (fun cdv A outer s H Ex hr=>ak (bA 3 jN.nd (bq h_law_near bQ hr (aP 0 a0))) (ak (bA 4 jN.nd (gq (vs:=["look"]) (NB:=["look","near"]) (ix:=[3]) (by rfl) (dM (xV 1)) (fun _ _ _ _=>gN 0) (fun _ _ _ _=>.nil) (fun _ _ _ _ _=>dg (bq h_law_steps nW hr (aP 1 (aP 0 a0)))))) (aq (c9 (gq (vs:=["thing"]) (NB:=["thing","steps"]) (ix:=[4]) (by rfl) (dM (bq h_law_things bQ hr (aP 0 (aP 2 a0)))) (fun _ _ _ _=>gN 0) (fun _ _ _ _=>.nil) (fun _ _ _ _ _=>dg (bq h_law_code nW hr (aP 1 (aP 0 a0))))))))) PB.Hy
abbrev eS:Stmt:=top 33
theorem uW:aQ ["thing"] ["thing"] (ai eS):=⟨rfl,rfl,rfl,by decide +kernel,rfl,by decide +kernel,by decide +kernel⟩
theorem vE (T:Txt K mg){f:Addr}{fd:FuncData}(F:dh K "_law_whole" "_law_whole" eS f fd):bF P w K mg base (bT P w) 1 f fd ["thing"] (aD mg K [false] rX) :=
 bZ (m:=0) F uW rfl (by decide) (d:=gQ) (fun cdv A outer s H Ex hr=>aq (c9 (I0 (Cj T.kit T.isinstance T.int PyProof.Rows.boot_int (aP 0 a0)) (HU (Hu (Cj T.kit T.isinstance T.bool PyProof.Rows.boot_bool (aP 0 a0))))))) PB.Hx
abbrev iG:Stmt:=top 36
theorem fJ:aQ ["script","cells","k","pool","web","kind","looks","due","handed","turn","found"] ["script"] (ai iG):=⟨rfl,rfl,rfl,by decide +kernel,rfl,by decide +kernel,by decide +kernel⟩
theorem IM (T:Txt K mg)(h_law_cells:aJ P w K mg base 1 "_law_cells" ["script","many"] (aD mg K [false,false] lz))(h_law_pool:aJ P w K mg base 1 "_law_pool" ["cells","k"] (aD mg K [false,false] nR))(h_law_tree:aJ P w K mg base 4 "_law_tree" ["pool","most"] (aD mg K [true,false] n6))(h_law_take:aJ P w K mg base 1 "_law_take" ["pool","many"] (aD mg K [true,false] fB))(h_law_looks:aJ P w K mg base 2 "_law_looks" ["pool","many"] (aD mg K [true,false] lI))(h_law_least:aJ P w K mg base 2 "_law_least" ["codes"] (aD mg K [false] rE))(h_law_codes:aJ P w K mg base 2 "_law_codes" ["web","looks","kind"] (aD mg K [false,false,false] rK))(h_law_by_pieces:aJ P w K mg base 1 "_law_by_pieces" ["web","looks","kind"] (aD mg K [false,false,false] rF))(h_tree_strength:aJ P w K mg base 5 "tree_strength" ["web","looks","kind"] (aD mg K [false,false,false] sd))(h_law_whole:aJ P w K mg base 1 "_law_whole" ["thing"] (aD mg K [false] rX)){f:Addr}{fd:FuncData}(F:dh K "law" "law" iG f fd):bF P w K mg base (bT P w) 6 f fd ["script"] (aD mg K [false] rL) :=
 bZ (m:=10) F fJ rfl (by decide) (d:=l9 lz nR n6 fB lI rE rK rF sd rX) (fun cdv A outer s H Ex hr=>have hu:=hr.units;ak (bA 1 fJ.nd (bq h_law_cells bQ hr (aP 0 (aE (xI) a0)))) (ak (iF PassesOwn.leaving fJ.nd (oE T.range (aE (Cg T.max (aE (xI) (aE (fY T.len (aP 1 a0)) a0))) a0)) (gN 2) (ak (bA 3 fJ.nd (bq h_law_pool bQ hr (aP 1 (aP 2 a0)))) (ak (bA 4 fJ.nd (bq h_law_tree bQ hr (aP 3 (aE (bU hu (aE (gA (aE (xI) (aE (xI) a0))) (aE (K2 T.int (aE (KO hu (aE (bq h_law_take bQ hr (aP 3 (aE (xI) a0))) (aE (xI) a0))) a0)) a0))) a0)))) (aq (iF PassesOwn.leaving fJ.nd (dM (gA (aE (xS) (aE (xS) (aE (xS) a0))))) (gN 5) (ak (bA 6 fJ.nd (bq h_law_looks bQ hr (aP 3 (aE (bU hu (aP 4 (aE (xI) a0))) a0)))) (uu (jm (bS.st (wZ (aE (bU hu (aP 4 (aE (xI) a0))) (aE (xI) a0)))) (aq (bA 7 fJ.nd (bq h_law_least bQ hr (aE (bq h_law_codes bQ hr (aP 4 (aP 6 (aP 5 a0)))) a0)))) (aq (bA 7 fJ.nd (bq h_law_by_pieces bQ hr (aP 4 (aP 6 (aP 5 a0))))))) (ak (bA 8 fJ.nd (nZ T.list (aP 6 a0))) (aq (iF PassesOwn.leaving fJ.nd (oE T.range (aE (xI) a0)) (gN 9) (ak (bA 10 fJ.nd (bq h_tree_strength bQ hr (aP 4 (aP 8 (aP 5 a0))))) (aq (jm (bS.st (mq.uR (qc (zz hu (aP 10 (aP 7 a0))) (qc (zz hu (aP 8 (aP 6 a0))) (kR (mq.uR (xg (KR (aP 7 (aE (xN) a0))) (kR (EY (DN (bq h_law_whole bQ hr (aP 10 a0)))))))))))) (aq (c9 (xB))) (dO)))))))))))))) (aq (c9 (xB))))) PB.BG
end
theorem w6:∀ {us:List Value},us.length=1->∃ a0,us=[a0]
 | [a0],_=>⟨_,rfl⟩
theorem kj:∀ {us:List Value},us.length=2->∃ a0 a1,us=[a0,a1]
 | [a0,a1],_=>⟨_,_,rfl⟩
theorem vQ:∀ {us:List Value},us.length=3->∃ a0 a1 a2,us=[a0,a1,a2]
 | [a0,a1,a2],_=>⟨_,_,_,rfl⟩
theorem all_mk {l:OpenLaw}{w:World}{K:Frag}{h:Heap}{mg:Str->Option Value}{cNoLooks cNoPlace cNoTree fa fd00 fd01 fd02 fd03 fd04 fd05 fd06 fd07 fd08 fd09 fd10 fd11 fd12 fd13 fd14 fd15 fd16 fd17 fd18 fd19 fd20 fd21 fd22 fd23 fd24 fd25 fd26 fd27:Addr}(X:K.In h)(G:h.Ns mainGlobals mg)(hfa:mg "law"=some (.ref fa))
  {odd00 and00:Option Addr}{sld00:Array (Option Value)}{ocd00 kVd00 dcd00 pmd00 cdd00 ctd00:Value}
  {odd01 and01:Option Addr}{sld01:Array (Option Value)}{ocd01 kVd01 dcd01 pmd01 cdd01 ctd01:Value}
  {odd02 and02:Option Addr}{sld02:Array (Option Value)}{ocd02 kVd02 dcd02 pmd02 cdd02 ctd02:Value}
  {odd03 and03:Option Addr}{sld03:Array (Option Value)}{ocd03 kVd03 dcd03 pmd03 cdd03 ctd03:Value}
  {odd04 and04:Option Addr}{sld04:Array (Option Value)}{ocd04 kVd04 dcd04 pmd04 cdd04 ctd04:Value}
  {odd05 and05:Option Addr}{sld05:Array (Option Value)}{ocd05 kVd05 dcd05 pmd05 cdd05 ctd05:Value}
  {odd06 and06:Option Addr}{sld06:Array (Option Value)}{ocd06 kVd06 dcd06 pmd06 cdd06 ctd06:Value}
  {odd07 and07:Option Addr}{sld07:Array (Option Value)}{ocd07 kVd07 dcd07 pmd07 cdd07 ctd07:Value}
  {odd08 and08:Option Addr}{sld08:Array (Option Value)}{ocd08 kVd08 dcd08 pmd08 cdd08 ctd08:Value}
  {odd09 and09:Option Addr}{sld09:Array (Option Value)}{ocd09 kVd09 dcd09 pmd09 cdd09 ctd09:Value}
  {odd10 and10:Option Addr}{sld10:Array (Option Value)}{ocd10 kVd10 dcd10 pmd10 cdd10 ctd10:Value}
  {odd11 and11:Option Addr}{sld11:Array (Option Value)}{ocd11 kVd11 dcd11 pmd11 cdd11 ctd11:Value}
  {odd12 and12:Option Addr}{sld12:Array (Option Value)}{ocd12 kVd12 dcd12 pmd12 cdd12 ctd12:Value}
  {odd13 and13:Option Addr}{sld13:Array (Option Value)}{ocd13 kVd13 dcd13 pmd13 cdd13 ctd13:Value}
  {odd14 and14:Option Addr}{sld14:Array (Option Value)}{ocd14 kVd14 dcd14 pmd14 cdd14 ctd14:Value}
  {odd15 and15:Option Addr}{sld15:Array (Option Value)}{ocd15 kVd15 dcd15 pmd15 cdd15 ctd15:Value}
  {odd16 and16:Option Addr}{sld16:Array (Option Value)}{ocd16 kVd16 dcd16 pmd16 cdd16 ctd16:Value}
  {odd17 and17:Option Addr}{sld17:Array (Option Value)}{ocd17 kVd17 dcd17 pmd17 cdd17 ctd17:Value}
  {odd18 and18:Option Addr}{sld18:Array (Option Value)}{ocd18 kVd18 dcd18 pmd18 cdd18 ctd18:Value}
  {odd19 and19:Option Addr}{sld19:Array (Option Value)}{ocd19 kVd19 dcd19 pmd19 cdd19 ctd19:Value}
  {odd20 and20:Option Addr}{sld20:Array (Option Value)}{ocd20 kVd20 dcd20 pmd20 cdd20 ctd20:Value}
  {odd21 and21:Option Addr}{sld21:Array (Option Value)}{ocd21 kVd21 dcd21 pmd21 cdd21 ctd21:Value}
  {odd22 and22:Option Addr}{sld22:Array (Option Value)}{ocd22 kVd22 dcd22 pmd22 cdd22 ctd22:Value}
  {odd23 and23:Option Addr}{sld23:Array (Option Value)}{ocd23 kVd23 dcd23 pmd23 cdd23 ctd23:Value}
  {odd24 and24:Option Addr}{sld24:Array (Option Value)}{ocd24 kVd24 dcd24 pmd24 cdd24 ctd24:Value}
  {odd25 and25:Option Addr}{sld25:Array (Option Value)}{ocd25 kVd25 dcd25 pmd25 cdd25 ctd25:Value}
  {odd26 and26:Option Addr}{sld26:Array (Option Value)}{ocd26 kVd26 dcd26 pmd26 cdd26 ctd26:Value}
  {odd27 and27:Option Addr}{sld27:Array (Option Value)}{ocd27 kVd27 dcd27 pmd27 cdd27 ctd27:Value}
  (nd00:nsIn K mainGlobals "_law_cells"=some (some (.ref fd00)))
  (ld00:K.lookup fd00=some ⟨ocd00,odd00,.func (fnOf "_law_cells" "_law_cells" (aM eL) (aH eL) (ai eL) .none kVd00 dcd00 pmd00 and00 cdd00 ctd00),sld00⟩)
  (ed00:codeIn K cdd00 "_law_cells"=true)
  (pd00:keepIn K (.ref fd00)=true)
  (nd01:nsIn K mainGlobals "_law_pool"=some (some (.ref fd01)))
  (ld01:K.lookup fd01=some ⟨ocd01,odd01,.func (fnOf "_law_pool" "_law_pool" (aM fT) (aH fT) (ai fT) .none kVd01 dcd01 pmd01 and01 cdd01 ctd01),sld01⟩)
  (ed01:codeIn K cdd01 "_law_pool"=true)
  (pd01:keepIn K (.ref fd01)=true)
  (nd02:nsIn K mainGlobals "_law_take"=some (some (.ref fd02)))
  (ld02:K.lookup fd02=some ⟨ocd02,odd02,.func (fnOf "_law_take" "_law_take" (aM fN) (aH fN) (ai fN) .none kVd02 dcd02 pmd02 and02 cdd02 ctd02),sld02⟩)
  (ed02:codeIn K cdd02 "_law_take"=true)
  (pd02:keepIn K (.ref fd02)=true)
  (nd03:nsIn K mainGlobals "_law_some"=some (some (.ref fd03)))
  (ld03:K.lookup fd03=some ⟨ocd03,odd03,.func (fnOf "_law_some" "_law_some" (aM fQ) (aH fQ) (ai fQ) .none kVd03 dcd03 pmd03 and03 cdd03 ctd03),sld03⟩)
  (ed03:codeIn K cdd03 "_law_some"=true)
  (pd03:keepIn K (.ref fd03)=true)
  (nd04:nsIn K mainGlobals "_law_named"=some (some (.ref fd04)))
  (ld04:K.lookup fd04=some ⟨ocd04,odd04,.func (fnOf "_law_named" "_law_named" (aM eK) (aH eK) (ai eK) .none kVd04 dcd04 pmd04 and04 cdd04 ctd04),sld04⟩)
  (ed04:codeIn K cdd04 "_law_named"=true)
  (pd04:keepIn K (.ref fd04)=true)
  (nd05:nsIn K mainGlobals "_law_tree"=some (some (.ref fd05)))
  (ld05:K.lookup fd05=some ⟨ocd05,odd05,.func (fnOf "_law_tree" "_law_tree" (aM fU) (aH fU) (ai fU) .none kVd05 dcd05 pmd05 and05 cdd05 ctd05),sld05⟩)
  (ed05:codeIn K cdd05 "_law_tree"=true)
  (pd05:keepIn K (.ref fd05)=true)
  (nd06:nsIn K mainGlobals "_law_looks"=some (some (.ref fd06)))
  (ld06:K.lookup fd06=some ⟨ocd06,odd06,.func (fnOf "_law_looks" "_law_looks" (aM eX) (aH eX) (ai eX) .none kVd06 dcd06 pmd06 and06 cdd06 ctd06),sld06⟩)
  (ed06:codeIn K cdd06 "_law_looks"=true)
  (pd06:keepIn K (.ref fd06)=true)
  (nd07:nsIn K mainGlobals "_law_unlike"=some (some (.ref fd07)))
  (ld07:K.lookup fd07=some ⟨ocd07,odd07,.func (fnOf "_law_unlike" "_law_unlike" (aM dU) (aH dU) (ai dU) .none kVd07 dcd07 pmd07 and07 cdd07 ctd07),sld07⟩)
  (ed07:codeIn K cdd07 "_law_unlike"=true)
  (pd07:keepIn K (.ref fd07)=true)
  (nd08:nsIn K mainGlobals "_law_least"=some (some (.ref fd08)))
  (ld08:K.lookup fd08=some ⟨ocd08,odd08,.func (fnOf "_law_least" "_law_least" (aM ez) (aH ez) (ai ez) .none kVd08 dcd08 pmd08 and08 cdd08 ctd08),sld08⟩)
  (ed08:codeIn K cdd08 "_law_least"=true)
  (pd08:keepIn K (.ref fd08)=true)
  (nd09:nsIn K mainGlobals "_law_by_pieces"=some (some (.ref fd09)))
  (ld09:K.lookup fd09=some ⟨ocd09,odd09,.func (fnOf "_law_by_pieces" "_law_by_pieces" (aM c6) (aH c6) (ai c6) .none kVd09 dcd09 pmd09 and09 cdd09 ctd09),sld09⟩)
  (ed09:codeIn K cdd09 "_law_by_pieces"=true)
  (pd09:keepIn K (.ref fd09)=true)
  (nd10:nsIn K mainGlobals "is_tree"=some (some (.ref fd10)))
  (ld10:K.lookup fd10=some ⟨ocd10,odd10,.func (fnOf "is_tree" "is_tree" (aM gf) (aH gf) (ai gf) .none kVd10 dcd10 pmd10 and10 cdd10 ctd10),sld10⟩)
  (ed10:codeIn K cdd10 "is_tree"=true)
  (pd10:keepIn K (.ref fd10)=true)
  (nd11:nsIn K mainGlobals "refuse_no_tree"=some (some (.ref fd11)))
  (ld11:K.lookup fd11=some ⟨ocd11,odd11,.func (fnOf "refuse_no_tree" "refuse_no_tree" (aM cP) (aH cP) (ai cP) .none kVd11 dcd11 pmd11 and11 cdd11 ctd11),sld11⟩)
  (ed11:codeIn K cdd11 "refuse_no_tree"=true)
  (pd11:keepIn K (.ref fd11)=true)
  (nd12:nsIn K mainGlobals "are_looks"=some (some (.ref fd12)))
  (ld12:K.lookup fd12=some ⟨ocd12,odd12,.func (fnOf "are_looks" "are_looks" (aM eO) (aH eO) (ai eO) .none kVd12 dcd12 pmd12 and12 cdd12 ctd12),sld12⟩)
  (ed12:codeIn K cdd12 "are_looks"=true)
  (pd12:keepIn K (.ref fd12)=true)
  (nd13:nsIn K mainGlobals "refuse_wrong_looks"=some (some (.ref fd13)))
  (ld13:K.lookup fd13=some ⟨ocd13,odd13,.func (fnOf "refuse_wrong_looks" "refuse_wrong_looks" (aM bX) (aH bX) (ai bX) .none kVd13 dcd13 pmd13 and13 cdd13 ctd13),sld13⟩)
  (ed13:codeIn K cdd13 "refuse_wrong_looks"=true)
  (pd13:keepIn K (.ref fd13)=true)
  (nd14:nsIn K mainGlobals "refuse_no_place"=some (some (.ref fd14)))
  (ld14:K.lookup fd14=some ⟨ocd14,odd14,.func (fnOf "refuse_no_place" "refuse_no_place" (aM cG) (aH cG) (ai cG) .none kVd14 dcd14 pmd14 and14 cdd14 ctd14),sld14⟩)
  (ed14:codeIn K cdd14 "refuse_no_place"=true)
  (pd14:keepIn K (.ref fd14)=true)
  (nd15:nsIn K mainGlobals "neighbour_lists"=some (some (.ref fd15)))
  (ld15:K.lookup fd15=some ⟨ocd15,odd15,.func (fnOf "neighbour_lists" "neighbour_lists" (aM cC) (aH cC) (ai cC) .none kVd15 dcd15 pmd15 and15 cdd15 ctd15),sld15⟩)
  (ed15:codeIn K cdd15 "neighbour_lists"=true)
  (pd15:keepIn K (.ref fd15)=true)
  (nd16:nsIn K mainGlobals "piece_behind"=some (some (.ref fd16)))
  (ld16:K.lookup fd16=some ⟨ocd16,odd16,.func (fnOf "piece_behind" "piece_behind" (aM dm) (aH dm) (ai dm) .none kVd16 dcd16 pmd16 and16 cdd16 ctd16),sld16⟩)
  (ed16:codeIn K cdd16 "piece_behind"=true)
  (pd16:keepIn K (.ref fd16)=true)
  (nd17:nsIn K mainGlobals "pieces_at"=some (some (.ref fd17)))
  (ld17:K.lookup fd17=some ⟨ocd17,odd17,.func (fnOf "pieces_at" "pieces_at" (aM eW) (aH eW) (ai eW) .none kVd17 dcd17 pmd17 and17 cdd17 ctd17),sld17⟩)
  (ed17:codeIn K cdd17 "pieces_at"=true)
  (pd17:keepIn K (.ref fd17)=true)
  (nd18:nsIn K mainGlobals "looks_in_pieces"=some (some (.ref fd18)))
  (ld18:K.lookup fd18=some ⟨ocd18,odd18,.func (fnOf "looks_in_pieces" "looks_in_pieces" (aM cE) (aH cE) (ai cE) .none kVd18 dcd18 pmd18 and18 cdd18 ctd18),sld18⟩)
  (ed18:codeIn K cdd18 "looks_in_pieces"=true)
  (pd18:keepIn K (.ref fd18)=true)
  (nd19:nsIn K mainGlobals "things_of"=some (some (.ref fd19)))
  (ld19:K.lookup fd19=some ⟨ocd19,odd19,.func (fnOf "things_of" "things_of" (aM eE) (aH eE) (ai eE) .none kVd19 dcd19 pmd19 and19 cdd19 ctd19),sld19⟩)
  (ed19:codeIn K cdd19 "things_of"=true)
  (pd19:keepIn K (.ref fd19)=true)
  (nd20:nsIn K mainGlobals "tree_strength"=some (some (.ref fd20)))
  (ld20:K.lookup fd20=some ⟨ocd20,odd20,.func (fnOf "tree_strength" "tree_strength" (aM cZ) (aH cZ) (ai cZ) .none kVd20 dcd20 pmd20 and20 cdd20 ctd20),sld20⟩)
  (ed20:codeIn K cdd20 "tree_strength"=true)
  (pd20:keepIn K (.ref fd20)=true)
  (nd21:nsIn K mainGlobals "_law_near"=some (some (.ref fd21)))
  (ld21:K.lookup fd21=some ⟨ocd21,odd21,.func (fnOf "_law_near" "_law_near" (aM fV) (aH fV) (ai fV) .none kVd21 dcd21 pmd21 and21 cdd21 ctd21),sld21⟩)
  (ed21:codeIn K cdd21 "_law_near"=true)
  (pd21:keepIn K (.ref fd21)=true)
  (nd22:nsIn K mainGlobals "_law_steps"=some (some (.ref fd22)))
  (ld22:K.lookup fd22=some ⟨ocd22,odd22,.func (fnOf "_law_steps" "_law_steps" (aM eg) (aH eg) (ai eg) .none kVd22 dcd22 pmd22 and22 cdd22 ctd22),sld22⟩)
  (ed22:codeIn K cdd22 "_law_steps"=true)
  (pd22:keepIn K (.ref fd22)=true)
  (nd23:nsIn K mainGlobals "_law_code"=some (some (.ref fd23)))
  (ld23:K.lookup fd23=some ⟨ocd23,odd23,.func (fnOf "_law_code" "_law_code" (aM fP) (aH fP) (ai fP) .none kVd23 dcd23 pmd23 and23 cdd23 ctd23),sld23⟩)
  (ed23:codeIn K cdd23 "_law_code"=true)
  (pd23:keepIn K (.ref fd23)=true)
  (nd24:nsIn K mainGlobals "_law_things"=some (some (.ref fd24)))
  (ld24:K.lookup fd24=some ⟨ocd24,odd24,.func (fnOf "_law_things" "_law_things" (aM dS) (aH dS) (ai dS) .none kVd24 dcd24 pmd24 and24 cdd24 ctd24),sld24⟩)
  (ed24:codeIn K cdd24 "_law_things"=true)
  (pd24:keepIn K (.ref fd24)=true)
  (nd25:nsIn K mainGlobals "_law_codes"=some (some (.ref fd25)))
  (ld25:K.lookup fd25=some ⟨ocd25,odd25,.func (fnOf "_law_codes" "_law_codes" (aM eY) (aH eY) (ai eY) .none kVd25 dcd25 pmd25 and25 cdd25 ctd25),sld25⟩)
  (ed25:codeIn K cdd25 "_law_codes"=true)
  (pd25:keepIn K (.ref fd25)=true)
  (nd26:nsIn K mainGlobals "_law_whole"=some (some (.ref fd26)))
  (ld26:K.lookup fd26=some ⟨ocd26,odd26,.func (fnOf "_law_whole" "_law_whole" (aM eS) (aH eS) (ai eS) .none kVd26 dcd26 pmd26 and26 cdd26 ctd26),sld26⟩)
  (ed26:codeIn K cdd26 "_law_whole"=true)
  (pd26:keepIn K (.ref fd26)=true)
  (nd27:nsIn K mainGlobals "law"=some (some (.ref fd27)))
  (ld27:K.lookup fd27=some ⟨ocd27,odd27,.func (fnOf "law" "law" (aM iG) (aH iG) (ai iG) .none kVd27 dcd27 pmd27 and27 cdd27 ctd27),sld27⟩)
  (ed27:codeIn K cdd27 "law"=true)
  (pd27:keepIn K (.ref fd27)=true)
  (zabs:nsIn K mainGlobals "abs"=some none)
  (zbool:nsIn K mainGlobals "bool"=some none)
  (zenumerate:nsIn K mainGlobals "enumerate"=some none)
  (zint:nsIn K mainGlobals "int"=some none)
  (zisinstance:nsIn K mainGlobals "isinstance"=some none)
  (zlen:nsIn K mainGlobals "len"=some none)
  (zlist:nsIn K mainGlobals "list"=some none)
  (zmax:nsIn K mainGlobals "max"=some none)
  (zmin:nsIn K mainGlobals "min"=some none)
  (zrange:nsIn K mainGlobals "range"=some none)
  (zsorted:nsIn K mainGlobals "sorted"=some none)
  (zsum:nsIn K mainGlobals "sum"=some none)
  (ztuple:nsIn K mainGlobals "tuple"=some none)
  (xNoLooks:nsIn K mainGlobals "NoLooks"=some (some (.ref cNoLooks)))
  (yNoLooks:gH K cNoLooks sQ "ValueError.__new__" none=true)
  (xNoPlace:nsIn K mainGlobals "NoPlace"=some (some (.ref cNoPlace)))
  (yNoPlace:gH K cNoPlace sQ "ValueError.__new__" none=true)
  (xNoTree:nsIn K mainGlobals "NoTree"=some (some (.ref cNoTree)))
  (yNoTree:gH K cNoTree sQ "ValueError.__new__" none=true)
  (kit:uw K ["bool","int","tuple"]=true) :
  ∃ fd:FuncData,(∀ (s:Shared)(v:Value),BindsTo s fd ⟨[v],[]⟩ [("script",v)])/\∀ base:Heap,K.In base->base.Ns mainGlobals mg->bF l.prog w K mg base (bT l.prog w) 6 fa fd ["script"] (aD mg K [false] rL):=by
 have e:=hfa.symm.trans (mg_of X G nd27)
 cases e
 have T:Txt K mg:=⟨mg_none_of X G zabs,mg_none_of X G zbool,mg_none_of X G zenumerate,mg_none_of X G zint,mg_none_of X G zisinstance,mg_none_of X G zlen,mg_none_of X G zlist,mg_none_of X G zmax,mg_none_of X G zmin,mg_none_of X G zrange,mg_none_of X G zsorted,mg_none_of X G zsum,mg_none_of X G ztuple,⟨_,mg_of X G xNoLooks,yNoLooks⟩,⟨_,mg_of X G xNoPlace,yNoPlace⟩,⟨_,mg_of X G xNoTree,yNoTree⟩,kit⟩
 have Fd00:=bC (st:=eL) ld00 ed00 pd00
 have bd00:=Fd00.binds (ps:=["script","many"]) fun _ _ _ _ _ _ us hl=>by obtain ⟨_,_,rfl⟩:=kj hl;rfl
 have Fd01:=bC (st:=fT) ld01 ed01 pd01
 have bd01:=Fd01.binds (ps:=["cells","k"]) fun _ _ _ _ _ _ us hl=>by obtain ⟨_,_,rfl⟩:=kj hl;rfl
 have Fd02:=bC (st:=fN) ld02 ed02 pd02
 have bd02:=Fd02.binds (ps:=["pool","many"]) fun _ _ _ _ _ _ us hl=>by obtain ⟨_,_,rfl⟩:=kj hl;rfl
 have Fd03:=bC (st:=fQ) ld03 ed03 pd03
 have bd03:=Fd03.binds (ps:=["pool","menu","many"]) fun _ _ _ _ _ _ us hl=>by obtain ⟨_,_,_,rfl⟩:=vQ hl;rfl
 have Fd04:=bC (st:=eK) ld04 ed04 pd04
 have bd04:=Fd04.binds (ps:=["pool","many","ties"]) fun _ _ _ _ _ _ us hl=>by obtain ⟨_,_,_,rfl⟩:=vQ hl;rfl
 have Fd05:=bC (st:=fU) ld05 ed05 pd05
 have bd05:=Fd05.binds (ps:=["pool","most"]) fun _ _ _ _ _ _ us hl=>by obtain ⟨_,_,rfl⟩:=kj hl;rfl
 have Fd06:=bC (st:=eX) ld06 ed06 pd06
 have bd06:=Fd06.binds (ps:=["pool","many"]) fun _ _ _ _ _ _ us hl=>by obtain ⟨_,_,rfl⟩:=kj hl;rfl
 have Fd07:=bC (st:=dU) ld07 ed07 pd07
 have bd07:=Fd07.binds (ps:=["one","other"]) fun _ _ _ _ _ _ us hl=>by obtain ⟨_,_,rfl⟩:=kj hl;rfl
 have Fd08:=bC (st:=ez) ld08 ed08 pd08
 have bd08:=Fd08.binds (ps:=["codes"]) fun _ _ _ _ _ _ us hl=>by obtain ⟨_,rfl⟩:=w6 hl;rfl
 have Fd09:=bC (st:=c6) ld09 ed09 pd09
 have bd09:=Fd09.binds (ps:=["web","looks","kind"]) fun _ _ _ _ _ _ us hl=>by obtain ⟨_,_,_,rfl⟩:=vQ hl;rfl
 have Fd10:=bC (st:=gf) ld10 ed10 pd10
 have bd10:=Fd10.binds (ps:=["web"]) fun _ _ _ _ _ _ us hl=>by obtain ⟨_,rfl⟩:=w6 hl;rfl
 have Fd11:=bC (st:=cP) ld11 ed11 pd11
 have bd11:=Fd11.binds (ps:=["web"]) fun _ _ _ _ _ _ us hl=>by obtain ⟨_,rfl⟩:=w6 hl;rfl
 have Fd12:=bC (st:=eO) ld12 ed12 pd12
 have bd12:=Fd12.binds (ps:=["web","looks"]) fun _ _ _ _ _ _ us hl=>by obtain ⟨_,_,rfl⟩:=kj hl;rfl
 have Fd13:=bC (st:=bX) ld13 ed13 pd13
 have bd13:=Fd13.binds (ps:=["web","looks"]) fun _ _ _ _ _ _ us hl=>by obtain ⟨_,_,rfl⟩:=kj hl;rfl
 have Fd14:=bC (st:=cG) ld14 ed14 pd14
 have bd14:=Fd14.binds (ps:=["web","place"]) fun _ _ _ _ _ _ us hl=>by obtain ⟨_,_,rfl⟩:=kj hl;rfl
 have Fd15:=bC (st:=cC) ld15 ed15 pd15
 have bd15:=Fd15.binds (ps:=["web"]) fun _ _ _ _ _ _ us hl=>by obtain ⟨_,rfl⟩:=w6 hl;rfl
 have Fd16:=bC (st:=dm) ld16 ed16 pd16
 have bd16:=Fd16.binds (ps:=["lists","place","neighbour"]) fun _ _ _ _ _ _ us hl=>by obtain ⟨_,_,_,rfl⟩:=vQ hl;rfl
 have Fd17:=bC (st:=eW) ld17 ed17 pd17
 have bd17:=Fd17.binds (ps:=["web","place"]) fun _ _ _ _ _ _ us hl=>by obtain ⟨_,_,rfl⟩:=kj hl;rfl
 have Fd18:=bC (st:=cE) ld18 ed18 pd18
 have bd18:=Fd18.binds (ps:=["web","looks","place"]) fun _ _ _ _ _ _ us hl=>by obtain ⟨_,_,_,rfl⟩:=vQ hl;rfl
 have Fd19:=bC (st:=eE) ld19 ed19 pd19
 have bd19:=Fd19.binds (ps:=["web","kind"]) fun _ _ _ _ _ _ us hl=>by obtain ⟨_,_,rfl⟩:=kj hl;rfl
 have Fd20:=bC (st:=cZ) ld20 ed20 pd20
 have bd20:=Fd20.binds (ps:=["web","looks","kind"]) fun _ _ _ _ _ _ us hl=>by obtain ⟨_,_,_,rfl⟩:=vQ hl;rfl
 have Fd21:=bC (st:=fV) ld21 ed21 pd21
 have bd21:=Fd21.binds (ps:=["web"]) fun _ _ _ _ _ _ us hl=>by obtain ⟨_,rfl⟩:=w6 hl;rfl
 have Fd22:=bC (st:=eg) ld22 ed22 pd22
 have bd22:=Fd22.binds (ps:=["near","place"]) fun _ _ _ _ _ _ us hl=>by obtain ⟨_,_,rfl⟩:=kj hl;rfl
 have Fd23:=bC (st:=fP) ld23 ed23 pd23
 have bd23:=Fd23.binds (ps:=["steps","thing"]) fun _ _ _ _ _ _ us hl=>by obtain ⟨_,_,rfl⟩:=kj hl;rfl
 have Fd24:=bC (st:=dS) ld24 ed24 pd24
 have bd24:=Fd24.binds (ps:=["web","kind"]) fun _ _ _ _ _ _ us hl=>by obtain ⟨_,_,rfl⟩:=kj hl;rfl
 have Fd25:=bC (st:=eY) ld25 ed25 pd25
 have bd25:=Fd25.binds (ps:=["web","looks","kind"]) fun _ _ _ _ _ _ us hl=>by obtain ⟨_,_,_,rfl⟩:=vQ hl;rfl
 have Fd26:=bC (st:=eS) ld26 ed26 pd26
 have bd26:=Fd26.binds (ps:=["thing"]) fun _ _ _ _ _ _ us hl=>by obtain ⟨_,rfl⟩:=w6 hl;rfl
 have Fd27:=bC (st:=iG) ld27 ed27 pd27
 refine ⟨fnOf "law" "law" (aM iG) (aH iG) (ai iG) .none kVd27 dcd27 pmd27 and27 cdd27 ctd27,fun s v=>.of_eq rfl,fun base _ _=>?_⟩
 have Hd00:aJ l.prog w K mg base 1 "_law_cells" ["script","many"] (aD mg K [false,false] lz):=⟨_,_,mg_of X G nd00,pd00,bd00,vR T Fd00⟩
 have Hd01:aJ l.prog w K mg base 1 "_law_pool" ["cells","k"] (aD mg K [false,false] nR):=⟨_,_,mg_of X G nd01,pd01,bd01,v8 T Fd01⟩
 have Hd02:aJ l.prog w K mg base 1 "_law_take" ["pool","many"] (aD mg K [true,false] fB):=⟨_,_,mg_of X G nd02,pd02,bd02,vZ T Fd02⟩
 have Hd03:aJ l.prog w K mg base 2 "_law_some" ["pool","menu","many"] (aD mg K [true,false,false] oq):=⟨_,_,mg_of X G nd03,pd03,bd03,wk T Hd02 Fd03⟩
 have Hd04:aJ l.prog w K mg base 3 "_law_named" ["pool","many","ties"] (aD mg K [true,false,false] k9):=⟨_,_,mg_of X G nd04,pd04,bd04,uo T Hd03 Fd04⟩
 have Hd05:aJ l.prog w K mg base 4 "_law_tree" ["pool","most"] (aD mg K [true,false] n6):=⟨_,_,mg_of X G nd05,pd05,bd05,we T Hd02 Hd04 Fd05⟩
 have Hd06:aJ l.prog w K mg base 2 "_law_looks" ["pool","many"] (aD mg K [true,false] lI):=⟨_,_,mg_of X G nd06,pd06,bd06,vD T Hd02 Fd06⟩
 have Hd07:aJ l.prog w K mg base 1 "_law_unlike" ["one","other"] (aD mg K [false,false] rZ):=⟨_,_,mg_of X G nd07,pd07,bd07,tQ T Fd07⟩
 have Hd08:aJ l.prog w K mg base 2 "_law_least" ["codes"] (aD mg K [false] rE):=⟨_,_,mg_of X G nd08,pd08,bd08,ux T Hd07 Fd08⟩
 have Hd09:aJ l.prog w K mg base 1 "_law_by_pieces" ["web","looks","kind"] (aD mg K [false,false,false] rF):=⟨_,_,mg_of X G nd09,pd09,bd09,pL T Fd09⟩
 have Hd10:aJ l.prog w K mg base 1 "is_tree" ["web"] (aD mg K [false] rD):=⟨_,_,mg_of X G nd10,pd10,bd10,yh T Fd10⟩
 have Hd11:aJ l.prog w K mg base 2 "refuse_no_tree" ["web"] (aD mg K [false] lK):=⟨_,_,mg_of X G nd11,pd11,bd11,oA T Hd10 Fd11⟩
 have Hd12:aJ l.prog w K mg base 1 "are_looks" ["web","looks"] (aD mg K [false,false] qO):=⟨_,_,mg_of X G nd12,pd12,bd12,uz T Fd12⟩
 have Hd13:aJ l.prog w K mg base 2 "refuse_wrong_looks" ["web","looks"] (aD mg K [false,false] pG):=⟨_,_,mg_of X G nd13,pd13,bd13,lq T Hd12 Fd13⟩
 have Hd14:aJ l.prog w K mg base 1 "refuse_no_place" ["web","place"] (aD mg K [false,false] su):=⟨_,_,mg_of X G nd14,pd14,bd14,nq T Fd14⟩
 have Hd15:aJ l.prog w K mg base 1 "neighbour_lists" ["web"] (aD mg K [false] rP):=⟨_,_,mg_of X G nd15,pd15,bd15,mJ T Fd15⟩
 have Hd16:aJ l.prog w K mg base 1 "piece_behind" ["lists","place","neighbour"] (aD mg K [false,false,false] rW):=⟨_,_,mg_of X G nd16,pd16,bd16,qG T Fd16⟩
 have Hd17:aJ l.prog w K mg base 3 "pieces_at" ["web","place"] (aD mg K [false,false] sj):=⟨_,_,mg_of X G nd17,pd17,bd17,vP T Hd11 Hd14 Hd15 Hd16 Fd17⟩
 have Hd18:aJ l.prog w K mg base 4 "looks_in_pieces" ["web","looks","place"] (aD mg K [false,false,false] q9):=⟨_,_,mg_of X G nd18,pd18,bd18,mP T Hd17 Fd18⟩
 have Hd19:aJ l.prog w K mg base 1 "things_of" ["web","kind"] (aD mg K [false,false] rY):=⟨_,_,mg_of X G nd19,pd19,bd19,vN T Fd19⟩
 have Hd20:aJ l.prog w K mg base 5 "tree_strength" ["web","looks","kind"] (aD mg K [false,false,false] sd):=⟨_,_,mg_of X G nd20,pd20,bd20,pX T Hd11 Hd13 Hd19 Hd18 Fd20⟩
 have Hd21:aJ l.prog w K mg base 1 "_law_near" ["web"] (aD mg K [false] rM):=⟨_,_,mg_of X G nd21,pd21,bd21,vY T Fd21⟩
 have Hd22:aJ l.prog w K mg base 1 "_law_steps" ["near","place"] (aD mg K [false,false] qR):=⟨_,_,mg_of X G nd22,pd22,bd22,uU T Fd22⟩
 have Hd23:aJ l.prog w K mg base 1 "_law_code" ["steps","thing"] (aD mg K [false,false] qW):=⟨_,_,mg_of X G nd23,pd23,bd23,wo T Fd23⟩
 have Hd24:aJ l.prog w K mg base 1 "_law_things" ["web","kind"] (aD mg K [false,false] qP):=⟨_,_,mg_of X G nd24,pd24,bd24,tR T Fd24⟩
 have Hd25:aJ l.prog w K mg base 2 "_law_codes" ["web","looks","kind"] (aD mg K [false,false,false] rK):=⟨_,_,mg_of X G nd25,pd25,bd25,vO T Hd21 Hd22 Hd24 Hd23 Fd25⟩
 have Hd26:aJ l.prog w K mg base 1 "_law_whole" ["thing"] (aD mg K [false] rX):=⟨_,_,mg_of X G nd26,pd26,bd26,vE T Fd26⟩
 exact IM T Hd00 Hd01 Hd05 Hd02 Hd06 Hd08 Hd25 Hd09 Hd20 Hd26 Fd27
theorem walk {l:OpenLaw}{q:Program}{loose:List Str}{XP:(Str->Option Value)->Heap->Prop}{YP:World->Heap->Prop}{d:DefRec}{K:Params->Frag}(hn:l.most=some 63)(hdf:d.params.defaults=[])
  (hY:∀ (w:World)(h:Heap),YP w h->(K w.params).In h)
  (F:∀ (w:World)(mg:Str->Option Value)(fa:Addr)(h:Heap),(K w.params).In h->h.Ns mainGlobals mg->mg d.name=some (.ref fa) ->
   ∃ fd:FuncData,(∀ (s:Shared)(u:Value),BindsTo s fd ⟨[u],[]⟩ [("script",u)])/\∀ base:Heap,(K w.params).In base->base.Ns mainGlobals mg->bF l.prog w (K w.params) mg base (bT l.prog w) 6 fa fd ["script"] (aD mg (K w.params) [false] rL)) :
  WalkO q loose XP YP l.row.toRowW d [] (fun f vs=>PySem.call f vs):=AK hn hdf ⟨rfl,by decide,by decide⟩ hY F
end Ga
open PySem PySem.W PyProof.Rows
set_option maxRecDepth 100000 in
set_option maxHeartbeats 0 in
theorem PySem.Challenge.cw_farhail_k20_tree_strength_told_holds : PySem.Challenge.rw_farhail_k20_tree_strength_told.Holds := by
 w_on;o_law;k_head;(case hw=>w_witness2)
 k_fill
 refine Ga.walk (l:=PySem.Challenge.rw_farhail_k20_tree_strength_told) rfl rfl (fun w h Y=>PySem.W.kIn_of Y) ?F
 case F =>
  intro w mg fa h KX G hmg
  refine' Ga.all_mk KX G hmg ?nd00 ?ld00 ?ed00 ?pd00 ?nd01 ?ld01 ?ed01 ?pd01 ?nd02 ?ld02 ?ed02 ?pd02 ?nd03 ?ld03 ?ed03 ?pd03 ?nd04 ?ld04 ?ed04 ?pd04 ?nd05 ?ld05 ?ed05 ?pd05 ?nd06 ?ld06 ?ed06 ?pd06 ?nd07 ?ld07 ?ed07 ?pd07 ?nd08 ?ld08 ?ed08 ?pd08 ?nd09 ?ld09 ?ed09 ?pd09 ?nd10 ?ld10 ?ed10 ?pd10 ?nd11 ?ld11 ?ed11 ?pd11 ?nd12 ?ld12 ?ed12 ?pd12 ?nd13 ?ld13 ?ed13 ?pd13 ?nd14 ?ld14 ?ed14 ?pd14 ?nd15 ?ld15 ?ed15 ?pd15 ?nd16 ?ld16 ?ed16 ?pd16 ?nd17 ?ld17 ?ed17 ?pd17 ?nd18 ?ld18 ?ed18 ?pd18 ?nd19 ?ld19 ?ed19 ?pd19 ?nd20 ?ld20 ?ed20 ?pd20 ?nd21 ?ld21 ?ed21 ?pd21 ?nd22 ?ld22 ?ed22 ?pd22 ?nd23 ?ld23 ?ed23 ?pd23 ?nd24 ?ld24 ?ed24 ?pd24 ?nd25 ?ld25 ?ed25 ?pd25 ?nd26 ?ld26 ?ed26 ?pd26 ?nd27 ?ld27 ?ed27 ?pd27 ?zabs ?zbool ?zenumerate ?zint ?zisinstance ?zlen ?zlist ?zmax ?zmin ?zrange ?zsorted ?zsum ?ztuple ?xNoLooks ?yNoLooks ?xNoPlace ?yNoPlace ?xNoTree ?yNoTree ?kit
  all_goals try first | k_is | kernel_rfl
