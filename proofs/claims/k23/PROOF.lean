import PyProof.Rows.All
import Wide.All
import OpenK.AllK
import Wide.FinOn
import HandS.ForMost
import HandS.Wide
import HandS.IsInst
import HandS.RaiseMore
import HandS.Defaults
import HandS.EndBits
import HandS.ForExc
import HandS.ExcInit
import HandS.ExcField
import HandS.ClsMeth
import HandS.Property
import HandS.MakeKw
import HandS.SlotsOwn
import HandS.TryMany
import KE.SortData
import KE.DatumOrd
import KE.SortCalls
import HandS.DictComp
import HandS.Sort
import HandS.Conv
import HandS.MakeKwOnly
import HandS.Walk
import HandS.Style
import HandS.SortKw
import HandS.Star
import HandS.More
import HandS.Dict
import HandS.Steps
import HandS.DeepEq
import KE.DatumMoreOrd
import HandS.OwnEq
import HandS.DictEq
import HandS.Iter
import KE.SortKeyHeap
import HandS.Flow
import HandS.Small
import KE.DatumMore
import HandS.Head2
import HandS.Head1
import HandS.Head0
import KE.KStateDown
import PySem.Challenge.RW_surehollows_k23_whole_passes_of_all_land
set_option Elab.async false
set_option linter.all false
set_option maxRecDepth 100000
set_option maxHeartbeats 0
namespace L9
open PySem PySem.Spec PyProof.Rows L2
def lets : Str := "abcdefghijklmnopqrstuvwxyz"
def MH : Int := 10 ^ 12
def spLaw (K : PySem.W.Frag) : Sp := fun vs H Q _ => ∃ (a : Addr) (ns : List Int), vs = [.ref a] ∧ SqL K H a (ns.map V.int) ∧ ns.length ≤ 63 ∧ ∀ H', Q (.bl true) H'
end L9
namespace K23
open PySem PySem.Spec PyProof.Rows L2 L9
def topS (i : Nat) : Stmt := PySem.Challenge.pw_surehollows_k23_whole_passes_of_all_land.main.body.getD i (.Pass ⟨0, 0, 0, 0⟩)
abbrev s_is_whole : Stmt := topS 19
abbrev s_is_height : Stmt := topS 20
abbrev s_check_height : Stmt := topS 22
abbrev s_is_name : Stmt := topS 21
abbrev s_Bounds___init__ : Stmt := inClass (topS 23) 0
abbrev s_is_place : Stmt := topS 26
abbrev s_check_places : Stmt := topS 30
abbrev s_Chart_names : Stmt := inClass (topS 36) 1
abbrev s_Chart_outlets : Stmt := inClass (topS 36) 3
abbrev s_Chart___contains__ : Stmt := inClass (topS 36) 11
abbrev s_check_place : Stmt := topS 29
abbrev s_Chart_neighbours : Stmt := inClass (topS 36) 4
abbrev s_Chart___getitem__ : Stmt := inClass (topS 36) 9
abbrev s_check_chart : Stmt := topS 28
abbrev s_low_heights : Stmt := topS 38
abbrev s_high_heights : Stmt := topS 39
abbrev s__law_take : Stmt := topS 58
abbrev s__law_cell : Stmt := topS 56
abbrev s__law_box : Stmt := topS 57
abbrev s__law_mixed : Stmt := topS 59
abbrev s_Chart___len__ : Stmt := inClass (topS 36) 12
abbrev s_Bounds___contains__ : Stmt := inClass (topS 23) 5
abbrev s_flood : Stmt := topS 40
abbrev s_levels_from : Stmt := topS 41
abbrev s_are_heights_for : Stmt := topS 43
abbrev s_Land___init__ : Stmt := inClass (topS 45) 0
abbrev s_Land___call__ : Stmt := inClass (topS 45) 6
abbrev s_is_pair : Stmt := topS 27
abbrev s_check_ties : Stmt := topS 31
abbrev s_check_listed : Stmt := topS 32
abbrev s_tied_places : Stmt := topS 34
abbrev s_Chart___init__ : Stmt := inClass (topS 36) 0
abbrev s_Chart_ties : Stmt := inClass (topS 36) 2
abbrev s_Bounds___neg__ : Stmt := inClass (topS 23) 8
abbrev s__law_names : Stmt := topS 60
abbrev s__law_height : Stmt := topS 61
abbrev s__law_model : Stmt := topS 62
abbrev s__law_chart : Stmt := topS 63
abbrev s__law_heights : Stmt := topS 64
abbrev s_Land_heights : Stmt := inClass (topS 45) 4
abbrev s_Bounds___eq__ : Stmt := inClass (topS 23) 6
abbrev s_Chart___eq__ : Stmt := inClass (topS 36) 13
abbrev s_check_land : Stmt := topS 46
abbrev s_Land___eq__ : Stmt := inClass (topS 45) 7
abbrev s_check_bounds : Stmt := topS 33
abbrev s_Chart_with_bounds : Stmt := inClass (topS 36) 6
abbrev s_Bounds_exact : Stmt := inClass (topS 23) 1
abbrev s_Land_pinned : Stmt := inClass (topS 45) 5
abbrev s_nearest_height : Stmt := topS 44
abbrev s_Land_clipped : Stmt := inClass (topS 45) 3
abbrev s_least_pass : Stmt := topS 49
abbrev s_check_passes : Stmt := topS 48
abbrev s_pass_level : Stmt := topS 50
abbrev s_low_pass : Stmt := topS 51
abbrev s_high_pass : Stmt := topS 52
abbrev s_part_around : Stmt := topS 35
abbrev s_check_rim : Stmt := topS 53
abbrev s_rim : Stmt := topS 54
abbrev s__law_later : Stmt := topS 65
abbrev s__law_pinned_right : Stmt := topS 66
abbrev s__law_between_right : Stmt := topS 67
abbrev s__law_rims_right : Stmt := topS 68
abbrev s_law : Stmt := topS 69
abbrev AllMk : Prop := ∀ {l : PySem.W.OpenLaw} {w : World} {K : PySem.W.Frag} {h : Heap} {mg : Str → Option Value} {fa CB CH CL f1 f2 f3 f4 f5 f6 f7 f8 f9 f10 f11 f12 f13 f14 f15 f16 f17 f18 f19 f20 f21 f22 f23 f24 f25 f26 f27 f28 f29 f30 f31 f32 f33 f34 f35 f36 f37 f38 f39 f40 f41 f42 f43 f44 f45 f46 f47 f48 f49 f50 f51 f52 f53 f54 f55 f56 f57 f58 pL49 pB51 : Addr} (X : K.In h) (G : h.Ns mainGlobals mg) (hfa : mg "law" = some (.ref fa))
    {od1 an1 : Option Addr} {sl1 : Array (Option Value)} {oc1 kV1 dc1 pm1 cd1 ct1 : Value}
    {od2 an2 : Option Addr} {sl2 : Array (Option Value)} {oc2 kV2 dc2 pm2 cd2 ct2 : Value}
    {od3 an3 : Option Addr} {sl3 : Array (Option Value)} {oc3 kV3 dc3 pm3 cd3 ct3 : Value}
    {od4 an4 : Option Addr} {sl4 : Array (Option Value)} {oc4 kV4 dc4 pm4 cd4 ct4 : Value}
    {od5 an5 : Option Addr} {sl5 : Array (Option Value)} {oc5 kV5 dc5 pm5 cd5 ct5 : Value}
    {od6 an6 : Option Addr} {sl6 : Array (Option Value)} {oc6 kV6 dc6 pm6 cd6 ct6 : Value}
    {od7 an7 : Option Addr} {sl7 : Array (Option Value)} {oc7 kV7 dc7 pm7 cd7 ct7 : Value}
    {od8 an8 : Option Addr} {sl8 : Array (Option Value)} {oc8 kV8 dc8 pm8 cd8 ct8 : Value}
    {od9 an9 : Option Addr} {sl9 : Array (Option Value)} {oc9 kV9 dc9 pm9 cd9 ct9 : Value}
    {od10 an10 : Option Addr} {sl10 : Array (Option Value)} {oc10 kV10 dc10 pm10 cd10 ct10 : Value}
    {od11 an11 : Option Addr} {sl11 : Array (Option Value)} {oc11 kV11 dc11 pm11 cd11 ct11 : Value}
    {od12 an12 : Option Addr} {sl12 : Array (Option Value)} {oc12 kV12 dc12 pm12 cd12 ct12 : Value}
    {od13 an13 : Option Addr} {sl13 : Array (Option Value)} {oc13 kV13 dc13 pm13 cd13 ct13 : Value}
    {od14 an14 : Option Addr} {sl14 : Array (Option Value)} {oc14 kV14 dc14 pm14 cd14 ct14 : Value}
    {od15 an15 : Option Addr} {sl15 : Array (Option Value)} {oc15 kV15 dc15 pm15 cd15 ct15 : Value}
    {od16 an16 : Option Addr} {sl16 : Array (Option Value)} {oc16 kV16 dc16 pm16 cd16 ct16 : Value}
    {od17 an17 : Option Addr} {sl17 : Array (Option Value)} {oc17 kV17 dc17 pm17 cd17 ct17 : Value}
    {od18 an18 : Option Addr} {sl18 : Array (Option Value)} {oc18 kV18 dc18 pm18 cd18 ct18 : Value}
    {od19 an19 : Option Addr} {sl19 : Array (Option Value)} {oc19 kV19 dc19 pm19 cd19 ct19 : Value}
    {Td19 pD19 : Addr} {ocT19 : Value} {odT19 : Option Addr} {slT19 : Array (Option Value)} {nT19 : Nat}
    {od20 an20 : Option Addr} {sl20 : Array (Option Value)} {oc20 kV20 dc20 pm20 cd20 ct20 : Value}
    {od21 an21 : Option Addr} {sl21 : Array (Option Value)} {oc21 kV21 dc21 pm21 cd21 ct21 : Value}
    {od22 an22 : Option Addr} {sl22 : Array (Option Value)} {oc22 kV22 dc22 pm22 cd22 ct22 : Value}
    {od23 an23 : Option Addr} {sl23 : Array (Option Value)} {oc23 kV23 dc23 pm23 cd23 ct23 : Value}
    {od24 an24 : Option Addr} {sl24 : Array (Option Value)} {oc24 kV24 dc24 pm24 cd24 ct24 : Value}
    {od25 an25 : Option Addr} {sl25 : Array (Option Value)} {oc25 kV25 dc25 pm25 cd25 ct25 : Value}
    {od26 an26 : Option Addr} {sl26 : Array (Option Value)} {oc26 kV26 dc26 pm26 cd26 ct26 : Value}
    {od27 an27 : Option Addr} {sl27 : Array (Option Value)} {oc27 kV27 dc27 pm27 cd27 ct27 : Value}
    {Td27 pD27 : Addr} {ocT27 : Value} {odT27 : Option Addr} {slT27 : Array (Option Value)} {nT27 : Nat}
    {od28 an28 : Option Addr} {sl28 : Array (Option Value)} {oc28 kV28 dc28 pm28 cd28 ct28 : Value}
    {Td28 pD28 : Addr} {ocT28 : Value} {odT28 : Option Addr} {slT28 : Array (Option Value)} {nT28 : Nat}
    {od29 an29 : Option Addr} {sl29 : Array (Option Value)} {oc29 kV29 dc29 pm29 cd29 ct29 : Value}
    {od30 an30 : Option Addr} {sl30 : Array (Option Value)} {oc30 kV30 dc30 pm30 cd30 ct30 : Value}
    {od31 an31 : Option Addr} {sl31 : Array (Option Value)} {oc31 kV31 dc31 pm31 cd31 ct31 : Value}
    {od32 an32 : Option Addr} {sl32 : Array (Option Value)} {oc32 kV32 dc32 pm32 cd32 ct32 : Value}
    {od33 an33 : Option Addr} {sl33 : Array (Option Value)} {oc33 kV33 dc33 pm33 cd33 ct33 : Value}
    {od34 an34 : Option Addr} {sl34 : Array (Option Value)} {oc34 kV34 dc34 pm34 cd34 ct34 : Value}
    {od35 an35 : Option Addr} {sl35 : Array (Option Value)} {oc35 kV35 dc35 pm35 cd35 ct35 : Value}
    {od36 an36 : Option Addr} {sl36 : Array (Option Value)} {oc36 kV36 dc36 pm36 cd36 ct36 : Value}
    {od37 an37 : Option Addr} {sl37 : Array (Option Value)} {oc37 kV37 dc37 pm37 cd37 ct37 : Value}
    {od38 an38 : Option Addr} {sl38 : Array (Option Value)} {oc38 kV38 dc38 pm38 cd38 ct38 : Value}
    {od39 an39 : Option Addr} {sl39 : Array (Option Value)} {oc39 kV39 dc39 pm39 cd39 ct39 : Value}
    {od40 an40 : Option Addr} {sl40 : Array (Option Value)} {oc40 kV40 dc40 pm40 cd40 ct40 : Value}
    {od41 an41 : Option Addr} {sl41 : Array (Option Value)} {oc41 kV41 dc41 pm41 cd41 ct41 : Value}
    {od42 an42 : Option Addr} {sl42 : Array (Option Value)} {oc42 kV42 dc42 pm42 cd42 ct42 : Value}
    {od43 an43 : Option Addr} {sl43 : Array (Option Value)} {oc43 kV43 dc43 pm43 cd43 ct43 : Value}
    {od44 an44 : Option Addr} {sl44 : Array (Option Value)} {oc44 kV44 dc44 pm44 cd44 ct44 : Value}
    {od45 an45 : Option Addr} {sl45 : Array (Option Value)} {oc45 kV45 dc45 pm45 cd45 ct45 : Value}
    {od46 an46 : Option Addr} {sl46 : Array (Option Value)} {oc46 kV46 dc46 pm46 cd46 ct46 : Value}
    {od47 an47 : Option Addr} {sl47 : Array (Option Value)} {oc47 kV47 dc47 pm47 cd47 ct47 : Value}
    {od48 an48 : Option Addr} {sl48 : Array (Option Value)} {oc48 kV48 dc48 pm48 cd48 ct48 : Value}
    {od49 an49 : Option Addr} {sl49 : Array (Option Value)} {oc49 kV49 dc49 pm49 cd49 ct49 : Value}
    {od50 an50 : Option Addr} {sl50 : Array (Option Value)} {oc50 kV50 dc50 pm50 cd50 ct50 : Value}
    {od51 an51 : Option Addr} {sl51 : Array (Option Value)} {oc51 kV51 dc51 pm51 cd51 ct51 : Value}
    {od52 an52 : Option Addr} {sl52 : Array (Option Value)} {oc52 kV52 dc52 pm52 cd52 ct52 : Value}
    {od53 an53 : Option Addr} {sl53 : Array (Option Value)} {oc53 kV53 dc53 pm53 cd53 ct53 : Value}
    {od54 an54 : Option Addr} {sl54 : Array (Option Value)} {oc54 kV54 dc54 pm54 cd54 ct54 : Value}
    {od55 an55 : Option Addr} {sl55 : Array (Option Value)} {oc55 kV55 dc55 pm55 cd55 ct55 : Value}
    {od56 an56 : Option Addr} {sl56 : Array (Option Value)} {oc56 kV56 dc56 pm56 cd56 ct56 : Value}
    {od57 an57 : Option Addr} {sl57 : Array (Option Value)} {oc57 kV57 dc57 pm57 cd57 ct57 : Value}
    {od58 an58 : Option Addr} {sl58 : Array (Option Value)} {oc58 kV58 dc58 pm58 cd58 ct58 : Value}
    {tk0 : Tok}
    {tk1 : Tok}
    {tk2 : Tok}
    {tk3 : Tok}
    {odG : Option Addr} {slG : Array (Option Value)} {nG : Nat}
    {re49 : List Value}
    {re51 : List Value}
    (gB : PySem.W.nsIn K mainGlobals "Bounds" = some (some (.ref CB)))
    (gH : PySem.W.nsIn K mainGlobals "Chart" = some (some (.ref CH)))
    (gL : PySem.W.nsIn K mainGlobals "Land" = some (some (.ref CL)))
    (mk2B : PySem.W.findIn K (.ref CB) "__init__" = some (some (.ref f11)))
    (mk2H : PySem.W.findIn K (.ref CH) "__init__" = some (some (.ref f19)))
    (mk2L : PySem.W.findIn K (.ref CL) "__init__" = some (some (.ref f47)))
    (a1 : PySem.W.nsIn K mainGlobals "_law_cell" = some (some (.ref f1)))
    (a2 : PySem.W.nsIn K mainGlobals "_law_box" = some (some (.ref f2)))
    (a3 : PySem.W.nsIn K mainGlobals "_law_take" = some (some (.ref f3)))
    (a4 : PySem.W.nsIn K mainGlobals "_law_mixed" = some (some (.ref f4)))
    (a5 : PySem.W.nsIn K mainGlobals "_law_names" = some (some (.ref f5)))
    (a6 : PySem.W.nsIn K mainGlobals "_law_height" = some (some (.ref f6)))
    (a7 : PySem.W.nsIn K mainGlobals "_law_model" = some (some (.ref f7)))
    (a8 : PySem.W.nsIn K mainGlobals "is_whole" = some (some (.ref f8)))
    (a9 : PySem.W.nsIn K mainGlobals "is_height" = some (some (.ref f9)))
    (a10 : PySem.W.nsIn K mainGlobals "check_height" = some (some (.ref f10)))
    (a12 : PySem.W.nsIn K mainGlobals "is_name" = some (some (.ref f12)))
    (a13 : PySem.W.nsIn K mainGlobals "check_places" = some (some (.ref f13)))
    (a14 : PySem.W.nsIn K mainGlobals "is_place" = some (some (.ref f14)))
    (a15 : PySem.W.nsIn K mainGlobals "is_pair" = some (some (.ref f15)))
    (a16 : PySem.W.nsIn K mainGlobals "check_ties" = some (some (.ref f16)))
    (a17 : PySem.W.nsIn K mainGlobals "check_listed" = some (some (.ref f17)))
    (a18 : PySem.W.nsIn K mainGlobals "tied_places" = some (some (.ref f18)))
    (a20 : PySem.W.nsIn K mainGlobals "_law_chart" = some (some (.ref f20)))
    (a21 : PySem.W.nsIn K mainGlobals "_law_heights" = some (some (.ref f21)))
    (a22 : PySem.W.nsIn K mainGlobals "check_chart" = some (some (.ref f22)))
    (a23 : PySem.W.findIn K (.ref CH) "__contains__" = some (some (.ref f23)))
    (a24 : PySem.W.nsIn K mainGlobals "check_place" = some (some (.ref f24)))
    (a25 : PySem.W.nsIn K mainGlobals "check_passes" = some (some (.ref f25)))
    (a26 : PySem.W.findIn K (.ref CH) "neighbours" = some (some (.ref f26)))
    (a27 : PySem.W.nsIn K mainGlobals "flood" = some (some (.ref f27)))
    (a28 : PySem.W.nsIn K mainGlobals "levels_from" = some (some (.ref f28)))
    (a29 : PySem.W.nsIn K mainGlobals "least_pass" = some (some (.ref f29)))
    (a30 : PySem.W.findIn K (.ref CH) "names" = some (some (.ref f30)))
    (a31 : PySem.W.findIn K (.ref CH) "__getitem__" = some (some (.ref f31)))
    (a32 : PySem.W.nsIn K mainGlobals "low_heights" = some (some (.ref f32)))
    (a33 : PySem.W.nsIn K mainGlobals "low_pass" = some (some (.ref f33)))
    (a34 : PySem.W.nsIn K mainGlobals "check_bounds" = some (some (.ref f34)))
    (a35 : PySem.W.findIn K (.ref CH) "ties" = some (some (.ref f35)))
    (a36 : PySem.W.findIn K (.ref CH) "outlets" = some (some (.ref f36)))
    (a37 : PySem.W.findIn K (.ref CH) "with_bounds" = some (some (.ref f37)))
    (a38 : PySem.W.nsIn K mainGlobals "_law_later" = some (some (.ref f38)))
    (a39 : PySem.W.nsIn K mainGlobals "high_heights" = some (some (.ref f39)))
    (a40 : PySem.W.nsIn K mainGlobals "high_pass" = some (some (.ref f40)))
    (a41 : PySem.W.nsIn K mainGlobals "check_land" = some (some (.ref f41)))
    (a42 : PySem.W.findIn K (.ref CL) "heights" = some (some (.ref f42)))
    (a43 : PySem.W.nsIn K mainGlobals "pass_level" = some (some (.ref f43)))
    (a44 : PySem.W.findIn K (.ref CB) "__contains__" = some (some (.ref f44)))
    (a45 : PySem.W.findIn K (.ref CH) "__len__" = some (some (.ref f45)))
    (a46 : PySem.W.nsIn K mainGlobals "are_heights_for" = some (some (.ref f46)))
    (a48 : PySem.W.nsIn K mainGlobals "nearest_height" = some (some (.ref f48)))
    (cf49 : PySem.W.findCls K (.ref CL) (.type "type") "clipped" = some (.get (.builtin "classmethod.__get__") (.ref pL49) .none (.ref CL)))
    (cr49 : PySem.W.recIn K pL49 "classmethod" = some (.ref f49 :: re49))
    (a50 : PySem.W.nsIn K mainGlobals "_law_between_right" = some (some (.ref f50)))
    (cf51 : PySem.W.findCls K (.ref CB) (.type "type") "exact" = some (.get (.builtin "classmethod.__get__") (.ref pB51) .none (.ref CB)))
    (cr51 : PySem.W.recIn K pB51 "classmethod" = some (.ref f51 :: re51))
    (a52 : PySem.W.findIn K (.ref CL) "pinned" = some (some (.ref f52)))
    (a53 : PySem.W.nsIn K mainGlobals "_law_pinned_right" = some (some (.ref f53)))
    (a54 : PySem.W.nsIn K mainGlobals "check_rim" = some (some (.ref f54)))
    (a55 : PySem.W.nsIn K mainGlobals "part_around" = some (some (.ref f55)))
    (a56 : PySem.W.nsIn K mainGlobals "rim" = some (some (.ref f56)))
    (a57 : PySem.W.nsIn K mainGlobals "_law_rims_right" = some (some (.ref f57)))
    (a58 : PySem.W.nsIn K mainGlobals "law" = some (some (.ref f58)))
    (cl1B : PySem.W.plainGet K CB Str.empty = true)
    (cl2B : PySem.W.hasDictIn K CB = true)
    (cl3B : PySem.W.plainOver K CB = true)
    (cl4B : PySem.W.findIn K (.ref CB) "__setattr__" = some (some (.builtin "object.__setattr__")))
    (caB : PySem.W.findIn K (.ref CB) "__class__" = some (some (.builtin "object.__class__")))
    (cnB : PySem.W.specialIn K (.builtin "object.__class__") "__get__" = some (some (.builtin "getset_descriptor.__get__")))
    (ctB : PySem.W.takesIn K (.builtin "object.__class__") = some true)
    (cmB : PySem.W.mroIn K CB (.type "object") = some true)
    (kbB : PySem.W.kitOne K (.ref CB) (.ref CB) = some true)
    (cl1H : PySem.W.plainGet K CH Str.empty = true)
    (cl2H : PySem.W.hasDictIn K CH = true)
    (cl3H : PySem.W.plainOver K CH = true)
    (cl4H : PySem.W.findIn K (.ref CH) "__setattr__" = some (some (.builtin "object.__setattr__")))
    (caH : PySem.W.findIn K (.ref CH) "__class__" = some (some (.builtin "object.__class__")))
    (cnH : PySem.W.specialIn K (.builtin "object.__class__") "__get__" = some (some (.builtin "getset_descriptor.__get__")))
    (ctH : PySem.W.takesIn K (.builtin "object.__class__") = some true)
    (cmH : PySem.W.mroIn K CH (.type "object") = some true)
    (kbH : PySem.W.kitOne K (.ref CH) (.ref CH) = some true)
    (cl1L : PySem.W.plainGet K CL Str.empty = true)
    (cl2L : PySem.W.hasDictIn K CL = true)
    (cl3L : PySem.W.plainOver K CL = true)
    (cl4L : PySem.W.findIn K (.ref CL) "__setattr__" = some (some (.builtin "object.__setattr__")))
    (caL : PySem.W.findIn K (.ref CL) "__class__" = some (some (.builtin "object.__class__")))
    (cnL : PySem.W.specialIn K (.builtin "object.__class__") "__get__" = some (some (.builtin "getset_descriptor.__get__")))
    (ctL : PySem.W.takesIn K (.builtin "object.__class__") = some true)
    (cmL : PySem.W.mroIn K CL (.type "object") = some true)
    (kbL : PySem.W.kitOne K (.ref CL) (.ref CL) = some true)
    (l1 : K.lookup f1 = some ⟨oc1, od1, .func (PySem.W.fnOf "_law_cell" "_law_cell" (defArgs s__law_cell) (defBody s__law_cell) (defScope s__law_cell) .none kV1 dc1 pm1 an1 cd1 ct1), sl1⟩)
    (c1 : PySem.W.codeIn K cd1 "_law_cell" = true)
    (k1 : PySem.W.keepIn K (.ref f1) = true)
    (l2 : K.lookup f2 = some ⟨oc2, od2, .func (PySem.W.fnOf "_law_box" "_law_box" (defArgs s__law_box) (defBody s__law_box) (defScope s__law_box) .none kV2 dc2 pm2 an2 cd2 ct2), sl2⟩)
    (c2 : PySem.W.codeIn K cd2 "_law_box" = true)
    (k2 : PySem.W.keepIn K (.ref f2) = true)
    (l3 : K.lookup f3 = some ⟨oc3, od3, .func (PySem.W.fnOf "_law_take" "_law_take" (defArgs s__law_take) (defBody s__law_take) (defScope s__law_take) .none kV3 dc3 pm3 an3 cd3 ct3), sl3⟩)
    (c3 : PySem.W.codeIn K cd3 "_law_take" = true)
    (k3 : PySem.W.keepIn K (.ref f3) = true)
    (l4 : K.lookup f4 = some ⟨oc4, od4, .func (PySem.W.fnOf "_law_mixed" "_law_mixed" (defArgs s__law_mixed) (defBody s__law_mixed) (defScope s__law_mixed) .none kV4 dc4 pm4 an4 cd4 ct4), sl4⟩)
    (c4 : PySem.W.codeIn K cd4 "_law_mixed" = true)
    (k4 : PySem.W.keepIn K (.ref f4) = true)
    (l5 : K.lookup f5 = some ⟨oc5, od5, .func (PySem.W.fnOf "_law_names" "_law_names" (defArgs s__law_names) (defBody s__law_names) (defScope s__law_names) .none kV5 dc5 pm5 an5 cd5 ct5), sl5⟩)
    (c5 : PySem.W.codeIn K cd5 "_law_names" = true)
    (k5 : PySem.W.keepIn K (.ref f5) = true)
    (l6 : K.lookup f6 = some ⟨oc6, od6, .func (PySem.W.fnOf "_law_height" "_law_height" (defArgs s__law_height) (defBody s__law_height) (defScope s__law_height) .none kV6 dc6 pm6 an6 cd6 ct6), sl6⟩)
    (c6 : PySem.W.codeIn K cd6 "_law_height" = true)
    (k6 : PySem.W.keepIn K (.ref f6) = true)
    (l7 : K.lookup f7 = some ⟨oc7, od7, .func (PySem.W.fnOf "_law_model" "_law_model" (defArgs s__law_model) (defBody s__law_model) (defScope s__law_model) .none kV7 dc7 pm7 an7 cd7 ct7), sl7⟩)
    (c7 : PySem.W.codeIn K cd7 "_law_model" = true)
    (k7 : PySem.W.keepIn K (.ref f7) = true)
    (l8 : K.lookup f8 = some ⟨oc8, od8, .func (PySem.W.fnOf "is_whole" "is_whole" (defArgs s_is_whole) (defBody s_is_whole) (defScope s_is_whole) .none kV8 dc8 pm8 an8 cd8 ct8), sl8⟩)
    (c8 : PySem.W.codeIn K cd8 "is_whole" = true)
    (k8 : PySem.W.keepIn K (.ref f8) = true)
    (l9 : K.lookup f9 = some ⟨oc9, od9, .func (PySem.W.fnOf "is_height" "is_height" (defArgs s_is_height) (defBody s_is_height) (defScope s_is_height) .none kV9 dc9 pm9 an9 cd9 ct9), sl9⟩)
    (c9 : PySem.W.codeIn K cd9 "is_height" = true)
    (k9 : PySem.W.keepIn K (.ref f9) = true)
    (l10 : K.lookup f10 = some ⟨oc10, od10, .func (PySem.W.fnOf "check_height" "check_height" (defArgs s_check_height) (defBody s_check_height) (defScope s_check_height) .none kV10 dc10 pm10 an10 cd10 ct10), sl10⟩)
    (c10 : PySem.W.codeIn K cd10 "check_height" = true)
    (k10 : PySem.W.keepIn K (.ref f10) = true)
    (l11 : K.lookup f11 = some ⟨oc11, od11, .func (PySem.W.fnOf "__init__" "Bounds.__init__" (defArgs s_Bounds___init__) (defBody s_Bounds___init__) (defScope s_Bounds___init__) .none kV11 dc11 pm11 an11 cd11 ct11), sl11⟩)
    (c11 : PySem.W.codeIn K cd11 "Bounds.__init__" = true)
    (k11 : PySem.W.keepIn K (.ref f11) = true)
    (l12 : K.lookup f12 = some ⟨oc12, od12, .func (PySem.W.fnOf "is_name" "is_name" (defArgs s_is_name) (defBody s_is_name) (defScope s_is_name) .none kV12 dc12 pm12 an12 cd12 ct12), sl12⟩)
    (c12 : PySem.W.codeIn K cd12 "is_name" = true)
    (k12 : PySem.W.keepIn K (.ref f12) = true)
    (l13 : K.lookup f13 = some ⟨oc13, od13, .func (PySem.W.fnOf "check_places" "check_places" (defArgs s_check_places) (defBody s_check_places) (defScope s_check_places) .none kV13 dc13 pm13 an13 cd13 ct13), sl13⟩)
    (c13 : PySem.W.codeIn K cd13 "check_places" = true)
    (k13 : PySem.W.keepIn K (.ref f13) = true)
    (l14 : K.lookup f14 = some ⟨oc14, od14, .func (PySem.W.fnOf "is_place" "is_place" (defArgs s_is_place) (defBody s_is_place) (defScope s_is_place) .none kV14 dc14 pm14 an14 cd14 ct14), sl14⟩)
    (c14 : PySem.W.codeIn K cd14 "is_place" = true)
    (k14 : PySem.W.keepIn K (.ref f14) = true)
    (l15 : K.lookup f15 = some ⟨oc15, od15, .func (PySem.W.fnOf "is_pair" "is_pair" (defArgs s_is_pair) (defBody s_is_pair) (defScope s_is_pair) .none kV15 dc15 pm15 an15 cd15 ct15), sl15⟩)
    (c15 : PySem.W.codeIn K cd15 "is_pair" = true)
    (k15 : PySem.W.keepIn K (.ref f15) = true)
    (l16 : K.lookup f16 = some ⟨oc16, od16, .func (PySem.W.fnOf "check_ties" "check_ties" (defArgs s_check_ties) (defBody s_check_ties) (defScope s_check_ties) .none kV16 dc16 pm16 an16 cd16 ct16), sl16⟩)
    (c16 : PySem.W.codeIn K cd16 "check_ties" = true)
    (k16 : PySem.W.keepIn K (.ref f16) = true)
    (l17 : K.lookup f17 = some ⟨oc17, od17, .func (PySem.W.fnOf "check_listed" "check_listed" (defArgs s_check_listed) (defBody s_check_listed) (defScope s_check_listed) .none kV17 dc17 pm17 an17 cd17 ct17), sl17⟩)
    (c17 : PySem.W.codeIn K cd17 "check_listed" = true)
    (k17 : PySem.W.keepIn K (.ref f17) = true)
    (l18 : K.lookup f18 = some ⟨oc18, od18, .func (PySem.W.fnOf "tied_places" "tied_places" (defArgs s_tied_places) (defBody s_tied_places) (defScope s_tied_places) .none kV18 dc18 pm18 an18 cd18 ct18), sl18⟩)
    (c18 : PySem.W.codeIn K cd18 "tied_places" = true)
    (k18 : PySem.W.keepIn K (.ref f18) = true)
    (l19 : K.lookup f19 = some ⟨oc19, od19, .func (PySem.W.fnOf "__init__" "Chart.__init__" (defArgs s_Chart___init__) (defBody s_Chart___init__) (defScope s_Chart___init__) (.ref Td19) kV19 dc19 pm19 an19 cd19 ct19), sl19⟩)
    (lT19 : K.lookup Td19 = some ⟨ocT19, odT19, .seq #[.ref pD19] nT19, slT19⟩)
    (c19 : PySem.W.codeIn K cd19 "Chart.__init__" = true)
    (k19 : PySem.W.keepIn K (.ref f19) = true)
    (l20 : K.lookup f20 = some ⟨oc20, od20, .func (PySem.W.fnOf "_law_chart" "_law_chart" (defArgs s__law_chart) (defBody s__law_chart) (defScope s__law_chart) .none kV20 dc20 pm20 an20 cd20 ct20), sl20⟩)
    (c20 : PySem.W.codeIn K cd20 "_law_chart" = true)
    (k20 : PySem.W.keepIn K (.ref f20) = true)
    (l21 : K.lookup f21 = some ⟨oc21, od21, .func (PySem.W.fnOf "_law_heights" "_law_heights" (defArgs s__law_heights) (defBody s__law_heights) (defScope s__law_heights) .none kV21 dc21 pm21 an21 cd21 ct21), sl21⟩)
    (c21 : PySem.W.codeIn K cd21 "_law_heights" = true)
    (k21 : PySem.W.keepIn K (.ref f21) = true)
    (l22 : K.lookup f22 = some ⟨oc22, od22, .func (PySem.W.fnOf "check_chart" "check_chart" (defArgs s_check_chart) (defBody s_check_chart) (defScope s_check_chart) .none kV22 dc22 pm22 an22 cd22 ct22), sl22⟩)
    (c22 : PySem.W.codeIn K cd22 "check_chart" = true)
    (k22 : PySem.W.keepIn K (.ref f22) = true)
    (l23 : K.lookup f23 = some ⟨oc23, od23, .func (PySem.W.fnOf "__contains__" "Chart.__contains__" (defArgs s_Chart___contains__) (defBody s_Chart___contains__) (defScope s_Chart___contains__) .none kV23 dc23 pm23 an23 cd23 ct23), sl23⟩)
    (c23 : PySem.W.codeIn K cd23 "Chart.__contains__" = true)
    (k23 : PySem.W.keepIn K (.ref f23) = true)
    (l24 : K.lookup f24 = some ⟨oc24, od24, .func (PySem.W.fnOf "check_place" "check_place" (defArgs s_check_place) (defBody s_check_place) (defScope s_check_place) .none kV24 dc24 pm24 an24 cd24 ct24), sl24⟩)
    (c24 : PySem.W.codeIn K cd24 "check_place" = true)
    (k24 : PySem.W.keepIn K (.ref f24) = true)
    (l25 : K.lookup f25 = some ⟨oc25, od25, .func (PySem.W.fnOf "check_passes" "check_passes" (defArgs s_check_passes) (defBody s_check_passes) (defScope s_check_passes) .none kV25 dc25 pm25 an25 cd25 ct25), sl25⟩)
    (c25 : PySem.W.codeIn K cd25 "check_passes" = true)
    (k25 : PySem.W.keepIn K (.ref f25) = true)
    (l26 : K.lookup f26 = some ⟨oc26, od26, .func (PySem.W.fnOf "neighbours" "Chart.neighbours" (defArgs s_Chart_neighbours) (defBody s_Chart_neighbours) (defScope s_Chart_neighbours) .none kV26 dc26 pm26 an26 cd26 ct26), sl26⟩)
    (c26 : PySem.W.codeIn K cd26 "Chart.neighbours" = true)
    (k26 : PySem.W.keepIn K (.ref f26) = true)
    (l27 : K.lookup f27 = some ⟨oc27, od27, .func (PySem.W.fnOf "flood" "flood" (defArgs s_flood) (defBody s_flood) (defScope s_flood) (.ref Td27) kV27 dc27 pm27 an27 cd27 ct27), sl27⟩)
    (lT27 : K.lookup Td27 = some ⟨ocT27, odT27, .seq #[.ref pD27] nT27, slT27⟩)
    (c27 : PySem.W.codeIn K cd27 "flood" = true)
    (k27 : PySem.W.keepIn K (.ref f27) = true)
    (l28 : K.lookup f28 = some ⟨oc28, od28, .func (PySem.W.fnOf "levels_from" "levels_from" (defArgs s_levels_from) (defBody s_levels_from) (defScope s_levels_from) (.ref Td28) kV28 dc28 pm28 an28 cd28 ct28), sl28⟩)
    (lT28 : K.lookup Td28 = some ⟨ocT28, odT28, .seq #[.ref pD28] nT28, slT28⟩)
    (c28 : PySem.W.codeIn K cd28 "levels_from" = true)
    (k28 : PySem.W.keepIn K (.ref f28) = true)
    (l29 : K.lookup f29 = some ⟨oc29, od29, .func (PySem.W.fnOf "least_pass" "least_pass" (defArgs s_least_pass) (defBody s_least_pass) (defScope s_least_pass) .none kV29 dc29 pm29 an29 cd29 ct29), sl29⟩)
    (c29 : PySem.W.codeIn K cd29 "least_pass" = true)
    (k29 : PySem.W.keepIn K (.ref f29) = true)
    (l30 : K.lookup f30 = some ⟨oc30, od30, .func (PySem.W.fnOf "names" "Chart.names" (defArgs s_Chart_names) (defBody s_Chart_names) (defScope s_Chart_names) .none kV30 dc30 pm30 an30 cd30 ct30), sl30⟩)
    (c30 : PySem.W.codeIn K cd30 "Chart.names" = true)
    (k30 : PySem.W.keepIn K (.ref f30) = true)
    (l31 : K.lookup f31 = some ⟨oc31, od31, .func (PySem.W.fnOf "__getitem__" "Chart.__getitem__" (defArgs s_Chart___getitem__) (defBody s_Chart___getitem__) (defScope s_Chart___getitem__) .none kV31 dc31 pm31 an31 cd31 ct31), sl31⟩)
    (c31 : PySem.W.codeIn K cd31 "Chart.__getitem__" = true)
    (k31 : PySem.W.keepIn K (.ref f31) = true)
    (l32 : K.lookup f32 = some ⟨oc32, od32, .func (PySem.W.fnOf "low_heights" "low_heights" (defArgs s_low_heights) (defBody s_low_heights) (defScope s_low_heights) .none kV32 dc32 pm32 an32 cd32 ct32), sl32⟩)
    (c32 : PySem.W.codeIn K cd32 "low_heights" = true)
    (k32 : PySem.W.keepIn K (.ref f32) = true)
    (l33 : K.lookup f33 = some ⟨oc33, od33, .func (PySem.W.fnOf "low_pass" "low_pass" (defArgs s_low_pass) (defBody s_low_pass) (defScope s_low_pass) .none kV33 dc33 pm33 an33 cd33 ct33), sl33⟩)
    (c33 : PySem.W.codeIn K cd33 "low_pass" = true)
    (k33 : PySem.W.keepIn K (.ref f33) = true)
    (l34 : K.lookup f34 = some ⟨oc34, od34, .func (PySem.W.fnOf "check_bounds" "check_bounds" (defArgs s_check_bounds) (defBody s_check_bounds) (defScope s_check_bounds) .none kV34 dc34 pm34 an34 cd34 ct34), sl34⟩)
    (c34 : PySem.W.codeIn K cd34 "check_bounds" = true)
    (k34 : PySem.W.keepIn K (.ref f34) = true)
    (l35 : K.lookup f35 = some ⟨oc35, od35, .func (PySem.W.fnOf "ties" "Chart.ties" (defArgs s_Chart_ties) (defBody s_Chart_ties) (defScope s_Chart_ties) .none kV35 dc35 pm35 an35 cd35 ct35), sl35⟩)
    (c35 : PySem.W.codeIn K cd35 "Chart.ties" = true)
    (k35 : PySem.W.keepIn K (.ref f35) = true)
    (l36 : K.lookup f36 = some ⟨oc36, od36, .func (PySem.W.fnOf "outlets" "Chart.outlets" (defArgs s_Chart_outlets) (defBody s_Chart_outlets) (defScope s_Chart_outlets) .none kV36 dc36 pm36 an36 cd36 ct36), sl36⟩)
    (c36 : PySem.W.codeIn K cd36 "Chart.outlets" = true)
    (k36 : PySem.W.keepIn K (.ref f36) = true)
    (l37 : K.lookup f37 = some ⟨oc37, od37, .func (PySem.W.fnOf "with_bounds" "Chart.with_bounds" (defArgs s_Chart_with_bounds) (defBody s_Chart_with_bounds) (defScope s_Chart_with_bounds) .none kV37 dc37 pm37 an37 cd37 ct37), sl37⟩)
    (c37 : PySem.W.codeIn K cd37 "Chart.with_bounds" = true)
    (k37 : PySem.W.keepIn K (.ref f37) = true)
    (l38 : K.lookup f38 = some ⟨oc38, od38, .func (PySem.W.fnOf "_law_later" "_law_later" (defArgs s__law_later) (defBody s__law_later) (defScope s__law_later) .none kV38 dc38 pm38 an38 cd38 ct38), sl38⟩)
    (c38 : PySem.W.codeIn K cd38 "_law_later" = true)
    (k38 : PySem.W.keepIn K (.ref f38) = true)
    (l39 : K.lookup f39 = some ⟨oc39, od39, .func (PySem.W.fnOf "high_heights" "high_heights" (defArgs s_high_heights) (defBody s_high_heights) (defScope s_high_heights) .none kV39 dc39 pm39 an39 cd39 ct39), sl39⟩)
    (c39 : PySem.W.codeIn K cd39 "high_heights" = true)
    (k39 : PySem.W.keepIn K (.ref f39) = true)
    (l40 : K.lookup f40 = some ⟨oc40, od40, .func (PySem.W.fnOf "high_pass" "high_pass" (defArgs s_high_pass) (defBody s_high_pass) (defScope s_high_pass) .none kV40 dc40 pm40 an40 cd40 ct40), sl40⟩)
    (c40 : PySem.W.codeIn K cd40 "high_pass" = true)
    (k40 : PySem.W.keepIn K (.ref f40) = true)
    (l41 : K.lookup f41 = some ⟨oc41, od41, .func (PySem.W.fnOf "check_land" "check_land" (defArgs s_check_land) (defBody s_check_land) (defScope s_check_land) .none kV41 dc41 pm41 an41 cd41 ct41), sl41⟩)
    (c41 : PySem.W.codeIn K cd41 "check_land" = true)
    (k41 : PySem.W.keepIn K (.ref f41) = true)
    (l42 : K.lookup f42 = some ⟨oc42, od42, .func (PySem.W.fnOf "heights" "Land.heights" (defArgs s_Land_heights) (defBody s_Land_heights) (defScope s_Land_heights) .none kV42 dc42 pm42 an42 cd42 ct42), sl42⟩)
    (c42 : PySem.W.codeIn K cd42 "Land.heights" = true)
    (k42 : PySem.W.keepIn K (.ref f42) = true)
    (l43 : K.lookup f43 = some ⟨oc43, od43, .func (PySem.W.fnOf "pass_level" "pass_level" (defArgs s_pass_level) (defBody s_pass_level) (defScope s_pass_level) .none kV43 dc43 pm43 an43 cd43 ct43), sl43⟩)
    (c43 : PySem.W.codeIn K cd43 "pass_level" = true)
    (k43 : PySem.W.keepIn K (.ref f43) = true)
    (l44 : K.lookup f44 = some ⟨oc44, od44, .func (PySem.W.fnOf "__contains__" "Bounds.__contains__" (defArgs s_Bounds___contains__) (defBody s_Bounds___contains__) (defScope s_Bounds___contains__) .none kV44 dc44 pm44 an44 cd44 ct44), sl44⟩)
    (c44 : PySem.W.codeIn K cd44 "Bounds.__contains__" = true)
    (k44 : PySem.W.keepIn K (.ref f44) = true)
    (l45 : K.lookup f45 = some ⟨oc45, od45, .func (PySem.W.fnOf "__len__" "Chart.__len__" (defArgs s_Chart___len__) (defBody s_Chart___len__) (defScope s_Chart___len__) .none kV45 dc45 pm45 an45 cd45 ct45), sl45⟩)
    (c45 : PySem.W.codeIn K cd45 "Chart.__len__" = true)
    (k45 : PySem.W.keepIn K (.ref f45) = true)
    (l46 : K.lookup f46 = some ⟨oc46, od46, .func (PySem.W.fnOf "are_heights_for" "are_heights_for" (defArgs s_are_heights_for) (defBody s_are_heights_for) (defScope s_are_heights_for) .none kV46 dc46 pm46 an46 cd46 ct46), sl46⟩)
    (c46 : PySem.W.codeIn K cd46 "are_heights_for" = true)
    (k46 : PySem.W.keepIn K (.ref f46) = true)
    (l47 : K.lookup f47 = some ⟨oc47, od47, .func (PySem.W.fnOf "__init__" "Land.__init__" (defArgs s_Land___init__) (defBody s_Land___init__) (defScope s_Land___init__) .none kV47 dc47 pm47 an47 cd47 ct47), sl47⟩)
    (c47 : PySem.W.codeIn K cd47 "Land.__init__" = true)
    (k47 : PySem.W.keepIn K (.ref f47) = true)
    (l48 : K.lookup f48 = some ⟨oc48, od48, .func (PySem.W.fnOf "nearest_height" "nearest_height" (defArgs s_nearest_height) (defBody s_nearest_height) (defScope s_nearest_height) .none kV48 dc48 pm48 an48 cd48 ct48), sl48⟩)
    (c48 : PySem.W.codeIn K cd48 "nearest_height" = true)
    (k48 : PySem.W.keepIn K (.ref f48) = true)
    (l49 : K.lookup f49 = some ⟨oc49, od49, .func (PySem.W.fnOf "clipped" "Land.clipped" (defArgs s_Land_clipped) (defBody s_Land_clipped) (defScope s_Land_clipped) .none kV49 dc49 pm49 an49 cd49 ct49), sl49⟩)
    (c49 : PySem.W.codeIn K cd49 "Land.clipped" = true)
    (k49 : PySem.W.keepIn K (.ref f49) = true)
    (l50 : K.lookup f50 = some ⟨oc50, od50, .func (PySem.W.fnOf "_law_between_right" "_law_between_right" (defArgs s__law_between_right) (defBody s__law_between_right) (defScope s__law_between_right) .none kV50 dc50 pm50 an50 cd50 ct50), sl50⟩)
    (c50 : PySem.W.codeIn K cd50 "_law_between_right" = true)
    (k50 : PySem.W.keepIn K (.ref f50) = true)
    (l51 : K.lookup f51 = some ⟨oc51, od51, .func (PySem.W.fnOf "exact" "Bounds.exact" (defArgs s_Bounds_exact) (defBody s_Bounds_exact) (defScope s_Bounds_exact) .none kV51 dc51 pm51 an51 cd51 ct51), sl51⟩)
    (c51 : PySem.W.codeIn K cd51 "Bounds.exact" = true)
    (k51 : PySem.W.keepIn K (.ref f51) = true)
    (l52 : K.lookup f52 = some ⟨oc52, od52, .func (PySem.W.fnOf "pinned" "Land.pinned" (defArgs s_Land_pinned) (defBody s_Land_pinned) (defScope s_Land_pinned) .none kV52 dc52 pm52 an52 cd52 ct52), sl52⟩)
    (c52 : PySem.W.codeIn K cd52 "Land.pinned" = true)
    (k52 : PySem.W.keepIn K (.ref f52) = true)
    (l53 : K.lookup f53 = some ⟨oc53, od53, .func (PySem.W.fnOf "_law_pinned_right" "_law_pinned_right" (defArgs s__law_pinned_right) (defBody s__law_pinned_right) (defScope s__law_pinned_right) .none kV53 dc53 pm53 an53 cd53 ct53), sl53⟩)
    (c53 : PySem.W.codeIn K cd53 "_law_pinned_right" = true)
    (k53 : PySem.W.keepIn K (.ref f53) = true)
    (l54 : K.lookup f54 = some ⟨oc54, od54, .func (PySem.W.fnOf "check_rim" "check_rim" (defArgs s_check_rim) (defBody s_check_rim) (defScope s_check_rim) .none kV54 dc54 pm54 an54 cd54 ct54), sl54⟩)
    (c54 : PySem.W.codeIn K cd54 "check_rim" = true)
    (k54 : PySem.W.keepIn K (.ref f54) = true)
    (l55 : K.lookup f55 = some ⟨oc55, od55, .func (PySem.W.fnOf "part_around" "part_around" (defArgs s_part_around) (defBody s_part_around) (defScope s_part_around) .none kV55 dc55 pm55 an55 cd55 ct55), sl55⟩)
    (c55 : PySem.W.codeIn K cd55 "part_around" = true)
    (k55 : PySem.W.keepIn K (.ref f55) = true)
    (l56 : K.lookup f56 = some ⟨oc56, od56, .func (PySem.W.fnOf "rim" "rim" (defArgs s_rim) (defBody s_rim) (defScope s_rim) .none kV56 dc56 pm56 an56 cd56 ct56), sl56⟩)
    (c56 : PySem.W.codeIn K cd56 "rim" = true)
    (k56 : PySem.W.keepIn K (.ref f56) = true)
    (l57 : K.lookup f57 = some ⟨oc57, od57, .func (PySem.W.fnOf "_law_rims_right" "_law_rims_right" (defArgs s__law_rims_right) (defBody s__law_rims_right) (defScope s__law_rims_right) .none kV57 dc57 pm57 an57 cd57 ct57), sl57⟩)
    (c57 : PySem.W.codeIn K cd57 "_law_rims_right" = true)
    (k57 : PySem.W.keepIn K (.ref f57) = true)
    (l58 : K.lookup f58 = some ⟨oc58, od58, .func (PySem.W.fnOf "law" "law" (defArgs s_law) (defBody s_law) (defScope s_law) .none kV58 dc58 pm58 an58 cd58 ct58), sl58⟩)
    (c58 : PySem.W.codeIn K cd58 "law" = true)
    (k58 : PySem.W.keepIn K (.ref f58) = true)
    (mk1B : PySem.W.makesIn K CB = true)
    (mk3B : PySem.W.isFn K (.ref f11) = true)
    (mk4B : PySem.W.keepIn K (.ref CB) = true)
    (mk1H : PySem.W.makesIn K CH = true)
    (mk3H : PySem.W.isFn K (.ref f19) = true)
    (mk4H : PySem.W.keepIn K (.ref CH) = true)
    (mk1L : PySem.W.makesIn K CL = true)
    (mk3L : PySem.W.isFn K (.ref f47) = true)
    (mk4L : PySem.W.keepIn K (.ref CL) = true)
    (no_B_low : PySem.W.findIn K (.ref CB) "low" = some none)
    (no_B_high : PySem.W.findIn K (.ref CB) "high" = some none)
    (no_H_bounds_by_name : PySem.W.findIn K (.ref CH) "bounds_by_name" = some none)
    (no_H_tied_by_name : PySem.W.findIn K (.ref CH) "tied_by_name" = some none)
    (no_H_outlet_names : PySem.W.findIn K (.ref CH) "outlet_names" = some none)
    (no_L_chart : PySem.W.findIn K (.ref CL) "chart" = some none)
    (no_L_height_by_name : PySem.W.findIn K (.ref CL) "height_by_name" = some none)
    (z_len : PySem.W.nsIn K mainGlobals "len" = some none)
    (z_int : PySem.W.nsIn K mainGlobals "int" = some none)
    (z_max : PySem.W.nsIn K mainGlobals "max" = some none)
    (z_min : PySem.W.nsIn K mainGlobals "min" = some none)
    (z_range : PySem.W.nsIn K mainGlobals "range" = some none)
    (z_all : PySem.W.nsIn K mainGlobals "all" = some none)
    (z_any : PySem.W.nsIn K mainGlobals "any" = some none)
    (z_isinstance : PySem.W.nsIn K mainGlobals "isinstance" = some none)
    (z_list : PySem.W.nsIn K mainGlobals "list" = some none)
    (z_sorted : PySem.W.nsIn K mainGlobals "sorted" = some none)
    (z_bool : PySem.W.nsIn K mainGlobals "bool" = some none)
    (z_str : PySem.W.nsIn K mainGlobals "str" = some none)
    (z_tuple : PySem.W.nsIn K mainGlobals "tuple" = some none)
    (z_dict : PySem.W.nsIn K mainGlobals "dict" = some none)
    (z_set : PySem.W.nsIn K mainGlobals "set" = some none)
    (z_repr : PySem.W.nsIn K mainGlobals "repr" = some none)
    (z_enumerate : PySem.W.nsIn K mainGlobals "enumerate" = some none)
    (cst0 : PySem.W.nsIn K mainGlobals "MOST_HEIGHT" = some (some (.int MH tk0)))
    (cst1 : PySem.W.nsIn K mainGlobals "MOST_LETTERS" = some (some (.int 8 tk1)))
    (cst2 : PySem.W.nsIn K mainGlobals "LETTERS" = some (some (.str lets tk2)))
    (cst3 : PySem.W.nsIn K mainGlobals "MOST_PLACES" = some (some (.int 60 tk3)))
    (nfC : PySem.W.notFirst K CH (.ref CH) = true)
    (neC : PySem.W.findIn K (.ref CH) "__ne__" = some (some (.builtin "object.__ne__")))
    (nfL : PySem.W.notFirst K CL (.ref CL) = true)
    (neL : PySem.W.findIn K (.ref CL) "__ne__" = some (some (.builtin "object.__ne__")))
    (d23 : PySem.W.isFn K (.ref f23) = true)
    (e23 : PySem.W.fnIn K f23 = true)
    (d26 : PySem.W.isFn K (.ref f26) = true)
    (lG : K.lookup pD28 = some ⟨.type "tuple", odG, .seq #[] nG, slG⟩)
    (d30 : PySem.W.isFn K (.ref f30) = true)
    (d31 : PySem.W.isFn K (.ref f31) = true)
    (e31 : PySem.W.fnIn K f31 = true)
    (d35 : PySem.W.isFn K (.ref f35) = true)
    (d36 : PySem.W.isFn K (.ref f36) = true)
    (d37 : PySem.W.isFn K (.ref f37) = true)
    (d42 : PySem.W.isFn K (.ref f42) = true)
    (d44 : PySem.W.isFn K (.ref f44) = true)
    (e44 : PySem.W.fnIn K f44 = true)
    (d45 : PySem.W.isFn K (.ref f45) = true)
    (e45 : PySem.W.fnIn K f45 = true)
    (rdL : PySem.W.readsIn K CL (.type "type") = true)
    (rgL : PySem.W.specialIn K (.ref CL) "__getattribute__" = some (some (.builtin "type.__getattribute__")))
    (ce49 : PySem.W.fnIn K f49 = true)
    (rdB : PySem.W.readsIn K CB (.type "type") = true)
    (rgB : PySem.W.specialIn K (.ref CB) "__getattribute__" = some (some (.builtin "type.__getattribute__")))
    (ce51 : PySem.W.fnIn K f51 = true)
    (d52 : PySem.W.isFn K (.ref f52) = true), ∃ fd : FuncData, (∀ (s : Shared) (v : Value), BindsTo s fd ⟨[v], []⟩ [("_law_script", v)]) ∧ ∀ base : Heap, K.In base → base.Ns mainGlobals mg → FnOk l.prog w K mg base CX0 11 fa fd ["_law_script"] (spLaw K)
end K23
section
namespace HLx
open PySem PySem.W PySem.Calls PyProof.Rows
abbrev R : OpenRow := OpenLaw.row PySem.Challenge.rw_surehollows_k23_whole_passes_of_all_land
abbrev qv : Program := view R.prog [69]
def names : List PySem.Str := (["_wall", "SurveyError", "InvalidHeight", "InvalidBounds", "InvalidPlaces", "InvalidTie", "InvalidHeights", "UnknownPlace", "TooLarge", "OutOfBounds", "Contradiction", "NotBounds"] : List PySem.Str) ++ (["NotChart", "NotLand", "MOST_HEIGHT", "MOST_LETTERS", "LETTERS", "is_whole", "is_height", "is_name", "check_height", "Bounds", "MOST_PLACES", "is_place"] : List PySem.Str) ++ (["is_pair", "check_chart", "check_place", "check_places", "check_ties", "check_listed", "check_bounds", "tied_places", "part_around", "Chart", "low_heights", "high_heights"] : List PySem.Str) ++ (["flood", "levels_from", "are_heights_for", "nearest_height", "Land", "check_land", "check_passes", "least_pass", "pass_level", "low_pass", "high_pass", "check_rim"] : List PySem.Str) ++ (["rim", "_law_cell", "_law_box", "_law_take", "_law_mixed", "_law_names", "_law_height", "_law_model", "_law_chart", "_law_heights", "_law_later", "_law_pinned_right"] : List PySem.Str) ++ (["_law_between_right", "_law_rims_right"] : List PySem.Str)
theorem pair_map {a a' : List (Option Obj)} {b b' : List (Option Obj)} (h : a = a') (h' : b = b') : (a, b) = (a', b') := by rw [h, h']
theorem law_name : (HandSHeadRun.topDef R.prog 69).name = ("law" : PySem.Str) := by kernel_rfl
end HLx
local macro_rules | `(tactic| o_head (kHook $K $A $e)) => `(tactic| refine HandSHeadRun.head_any (r := HLx.R) (q := HLx.qv) (H := PySem.W.kHook $K $A $e) (ob := fun s => ($A).map (HandSHeadRun.getT s)) (M := 30000) (loose := HLx.names) (d := HandSHeadRun.topDef HLx.R.prog 69) (kwd := []) (fun s => List.map_congr_left fun a _ => HandSHeadRun.getT_eq s a)
    (by kernel_rfl) (fun s => by kernel_rfl) (by intro w os; kernel_rfl) (by kernel_rfl) (by kernel_rfl) (by kernel_rfl) (by rfl) (by first | assumption | decide +kernel) (by decide +kernel) ⟨rfl, rfl, rfl, rfl, rfl, by decide +kernel⟩ ?_ ?_)
open PySem PySem.W PyProof.Rows
set_option maxRecDepth 100000 in
set_option maxHeartbeats 0 in
theorem HLx.top (AMK : K23.AllMk) : PySem.Challenge.rw_surehollows_k23_whole_passes_of_all_land.Holds := by
  w_on; o_law; k_head
  · w_witness2
  k_fill
  refine L2.walk_of (l := PySem.Challenge.rw_surehollows_k23_whole_passes_of_all_land) (n := 63) (k := 11) (x := "_law_script") (CX := fun _ => L2.CX0) (sp := fun w => L9.spLaw _) rfl (by decide) (by kernel_rfl) ⟨rfl, by decide, by decide⟩ (fun w h Y => PySem.W.kIn_of Y) ?F (fun _ _ a ns hl _ hS => ⟨a, ns, rfl, hS, hl, fun _ => rfl⟩) (fun _ _ _ _ _ h => h)
  case F =>
    intro w mg fa h KX G hmg
    rw [HLx.law_name] at hmg
    refine' AMK KX G hmg ?ff_gB ?ff_gH ?ff_gL ?ff_mk2B ?ff_mk2H ?ff_mk2L ?ff_a1 ?ff_a2 ?ff_a3 ?ff_a4 ?ff_a5 ?ff_a6 ?ff_a7 ?ff_a8 ?ff_a9 ?ff_a10 ?ff_a12 ?ff_a13 ?ff_a14 ?ff_a15 ?ff_a16 ?ff_a17 ?ff_a18 ?ff_a20 ?ff_a21 ?ff_a22 ?ff_a23 ?ff_a24 ?ff_a25 ?ff_a26 ?ff_a27 ?ff_a28 ?ff_a29 ?ff_a30 ?ff_a31 ?ff_a32 ?ff_a33 ?ff_a34 ?ff_a35 ?ff_a36 ?ff_a37 ?ff_a38 ?ff_a39 ?ff_a40 ?ff_a41 ?ff_a42 ?ff_a43 ?ff_a44 ?ff_a45 ?ff_a46 ?ff_a48 ?ff_cf49 ?ff_cr49 ?ff_a50 ?ff_cf51 ?ff_cr51 ?ff_a52 ?ff_a53 ?ff_a54 ?ff_a55 ?ff_a56 ?ff_a57 ?ff_a58 ?ff_cl1B ?ff_cl2B ?ff_cl3B ?ff_cl4B ?ff_caB ?ff_cnB ?ff_ctB ?ff_cmB ?ff_kbB ?ff_cl1H ?ff_cl2H ?ff_cl3H ?ff_cl4H ?ff_caH ?ff_cnH ?ff_ctH ?ff_cmH ?ff_kbH ?ff_cl1L ?ff_cl2L ?ff_cl3L ?ff_cl4L ?ff_caL ?ff_cnL ?ff_ctL ?ff_cmL ?ff_kbL ?ff_l1 ?ff_c1 ?ff_k1 ?ff_l2 ?ff_c2 ?ff_k2 ?ff_l3 ?ff_c3 ?ff_k3 ?ff_l4 ?ff_c4 ?ff_k4 ?ff_l5 ?ff_c5 ?ff_k5 ?ff_l6 ?ff_c6 ?ff_k6 ?ff_l7 ?ff_c7 ?ff_k7 ?ff_l8 ?ff_c8 ?ff_k8 ?ff_l9 ?ff_c9 ?ff_k9 ?ff_l10 ?ff_c10 ?ff_k10 ?ff_l11 ?ff_c11 ?ff_k11 ?ff_l12 ?ff_c12 ?ff_k12 ?ff_l13 ?ff_c13 ?ff_k13 ?ff_l14 ?ff_c14 ?ff_k14 ?ff_l15 ?ff_c15 ?ff_k15 ?ff_l16 ?ff_c16 ?ff_k16 ?ff_l17 ?ff_c17 ?ff_k17 ?ff_l18 ?ff_c18 ?ff_k18 ?ff_l19 ?ff_lT19 ?ff_c19 ?ff_k19 ?ff_l20 ?ff_c20 ?ff_k20 ?ff_l21 ?ff_c21 ?ff_k21 ?ff_l22 ?ff_c22 ?ff_k22 ?ff_l23 ?ff_c23 ?ff_k23 ?ff_l24 ?ff_c24 ?ff_k24 ?ff_l25 ?ff_c25 ?ff_k25 ?ff_l26 ?ff_c26 ?ff_k26 ?ff_l27 ?ff_lT27 ?ff_c27 ?ff_k27 ?ff_l28 ?ff_lT28 ?ff_c28 ?ff_k28 ?ff_l29 ?ff_c29 ?ff_k29 ?ff_l30 ?ff_c30 ?ff_k30 ?ff_l31 ?ff_c31 ?ff_k31 ?ff_l32 ?ff_c32 ?ff_k32 ?ff_l33 ?ff_c33 ?ff_k33 ?ff_l34 ?ff_c34 ?ff_k34 ?ff_l35 ?ff_c35 ?ff_k35 ?ff_l36 ?ff_c36 ?ff_k36 ?ff_l37 ?ff_c37 ?ff_k37 ?ff_l38 ?ff_c38 ?ff_k38 ?ff_l39 ?ff_c39 ?ff_k39 ?ff_l40 ?ff_c40 ?ff_k40 ?ff_l41 ?ff_c41 ?ff_k41 ?ff_l42 ?ff_c42 ?ff_k42 ?ff_l43 ?ff_c43 ?ff_k43 ?ff_l44 ?ff_c44 ?ff_k44 ?ff_l45 ?ff_c45 ?ff_k45 ?ff_l46 ?ff_c46 ?ff_k46 ?ff_l47 ?ff_c47 ?ff_k47 ?ff_l48 ?ff_c48 ?ff_k48 ?ff_l49 ?ff_c49 ?ff_k49 ?ff_l50 ?ff_c50 ?ff_k50 ?ff_l51 ?ff_c51 ?ff_k51 ?ff_l52 ?ff_c52 ?ff_k52 ?ff_l53 ?ff_c53 ?ff_k53 ?ff_l54 ?ff_c54 ?ff_k54 ?ff_l55 ?ff_c55 ?ff_k55 ?ff_l56 ?ff_c56 ?ff_k56 ?ff_l57 ?ff_c57 ?ff_k57 ?ff_l58 ?ff_c58 ?ff_k58 ?ff_mk1B ?ff_mk3B ?ff_mk4B ?ff_mk1H ?ff_mk3H ?ff_mk4H ?ff_mk1L ?ff_mk3L ?ff_mk4L ?ff_no_B_low ?ff_no_B_high ?ff_no_H_bounds_by_name ?ff_no_H_tied_by_name ?ff_no_H_outlet_names ?ff_no_L_chart ?ff_no_L_height_by_name ?ff_z_len ?ff_z_int ?ff_z_max ?ff_z_min ?ff_z_range ?ff_z_all ?ff_z_any ?ff_z_isinstance ?ff_z_list ?ff_z_sorted ?ff_z_bool ?ff_z_str ?ff_z_tuple ?ff_z_dict ?ff_z_set ?ff_z_repr ?ff_z_enumerate ?ff_cst0 ?ff_cst1 ?ff_cst2 ?ff_cst3 ?ff_nfC ?ff_neC ?ff_nfL ?ff_neL ?ff_d23 ?ff_e23 ?ff_d26 ?ff_lG ?ff_d30 ?ff_d31 ?ff_e31 ?ff_d35 ?ff_d36 ?ff_d37 ?ff_d42 ?ff_d44 ?ff_e44 ?ff_d45 ?ff_e45 ?ff_rdL ?ff_rgL ?ff_ce49 ?ff_rdB ?ff_rgB ?ff_ce51 ?ff_d52
    (case ff_gB => first | k_is | rfl | decide +kernel)
    (case ff_gH => first | k_is | rfl | decide +kernel)
    (case ff_gL => first | k_is | rfl | decide +kernel)
    (case ff_mk2B => first | k_is | rfl | decide +kernel)
    (case ff_mk2H => first | k_is | rfl | decide +kernel)
    (case ff_mk2L => first | k_is | rfl | decide +kernel)
    (case ff_a1 => first | k_is | rfl | decide +kernel)
    (case ff_a2 => first | k_is | rfl | decide +kernel)
    (case ff_a3 => first | k_is | rfl | decide +kernel)
    (case ff_a4 => first | k_is | rfl | decide +kernel)
    (case ff_a5 => first | k_is | rfl | decide +kernel)
    (case ff_a6 => first | k_is | rfl | decide +kernel)
    (case ff_a7 => first | k_is | rfl | decide +kernel)
    (case ff_a8 => first | k_is | rfl | decide +kernel)
    (case ff_a9 => first | k_is | rfl | decide +kernel)
    (case ff_a10 => first | k_is | rfl | decide +kernel)
    (case ff_a12 => first | k_is | rfl | decide +kernel)
    (case ff_a13 => first | k_is | rfl | decide +kernel)
    (case ff_a14 => first | k_is | rfl | decide +kernel)
    (case ff_a15 => first | k_is | rfl | decide +kernel)
    (case ff_a16 => first | k_is | rfl | decide +kernel)
    (case ff_a17 => first | k_is | rfl | decide +kernel)
    (case ff_a18 => first | k_is | rfl | decide +kernel)
    (case ff_a20 => first | k_is | rfl | decide +kernel)
    (case ff_a21 => first | k_is | rfl | decide +kernel)
    (case ff_a22 => first | k_is | rfl | decide +kernel)
    (case ff_a23 => first | k_is | rfl | decide +kernel)
    (case ff_a24 => first | k_is | rfl | decide +kernel)
    (case ff_a25 => first | k_is | rfl | decide +kernel)
    (case ff_a26 => first | k_is | rfl | decide +kernel)
    (case ff_a27 => first | k_is | rfl | decide +kernel)
    (case ff_a28 => first | k_is | rfl | decide +kernel)
    (case ff_a29 => first | k_is | rfl | decide +kernel)
    (case ff_a30 => first | k_is | rfl | decide +kernel)
    (case ff_a31 => first | k_is | rfl | decide +kernel)
    (case ff_a32 => first | k_is | rfl | decide +kernel)
    (case ff_a33 => first | k_is | rfl | decide +kernel)
    (case ff_a34 => first | k_is | rfl | decide +kernel)
    (case ff_a35 => first | k_is | rfl | decide +kernel)
    (case ff_a36 => first | k_is | rfl | decide +kernel)
    (case ff_a37 => first | k_is | rfl | decide +kernel)
    (case ff_a38 => first | k_is | rfl | decide +kernel)
    (case ff_a39 => first | k_is | rfl | decide +kernel)
    (case ff_a40 => first | k_is | rfl | decide +kernel)
    (case ff_a41 => first | k_is | rfl | decide +kernel)
    (case ff_a42 => first | k_is | rfl | decide +kernel)
    (case ff_a43 => first | k_is | rfl | decide +kernel)
    (case ff_a44 => first | k_is | rfl | decide +kernel)
    (case ff_a45 => first | k_is | rfl | decide +kernel)
    (case ff_a46 => first | k_is | rfl | decide +kernel)
    (case ff_a48 => first | k_is | rfl | decide +kernel)
    (case ff_cf49 => first | k_is | rfl | decide +kernel)
    (case ff_cr49 => first | k_is | rfl | decide +kernel)
    (case ff_a50 => first | k_is | rfl | decide +kernel)
    (case ff_cf51 => first | k_is | rfl | decide +kernel)
    (case ff_cr51 => first | k_is | rfl | decide +kernel)
    (case ff_a52 => first | k_is | rfl | decide +kernel)
    (case ff_a53 => first | k_is | rfl | decide +kernel)
    (case ff_a54 => first | k_is | rfl | decide +kernel)
    (case ff_a55 => first | k_is | rfl | decide +kernel)
    (case ff_a56 => first | k_is | rfl | decide +kernel)
    (case ff_a57 => first | k_is | rfl | decide +kernel)
    (case ff_a58 => first | k_is | rfl | decide +kernel)
    (case ff_cl1B => first | k_is | rfl | decide +kernel)
    (case ff_cl2B => first | k_is | rfl | decide +kernel)
    (case ff_cl3B => first | k_is | rfl | decide +kernel)
    (case ff_cl4B => first | k_is | rfl | decide +kernel)
    (case ff_caB => first | k_is | rfl | decide +kernel)
    (case ff_cnB => first | k_is | rfl | decide +kernel)
    (case ff_ctB => first | k_is | rfl | decide +kernel)
    (case ff_cmB => first | k_is | rfl | decide +kernel)
    (case ff_kbB => first | k_is | rfl | decide +kernel)
    (case ff_cl1H => first | k_is | rfl | decide +kernel)
    (case ff_cl2H => first | k_is | rfl | decide +kernel)
    (case ff_cl3H => first | k_is | rfl | decide +kernel)
    (case ff_cl4H => first | k_is | rfl | decide +kernel)
    (case ff_caH => first | k_is | rfl | decide +kernel)
    (case ff_cnH => first | k_is | rfl | decide +kernel)
    (case ff_ctH => first | k_is | rfl | decide +kernel)
    (case ff_cmH => first | k_is | rfl | decide +kernel)
    (case ff_kbH => first | k_is | rfl | decide +kernel)
    (case ff_cl1L => first | k_is | rfl | decide +kernel)
    (case ff_cl2L => first | k_is | rfl | decide +kernel)
    (case ff_cl3L => first | k_is | rfl | decide +kernel)
    (case ff_cl4L => first | k_is | rfl | decide +kernel)
    (case ff_caL => first | k_is | rfl | decide +kernel)
    (case ff_cnL => first | k_is | rfl | decide +kernel)
    (case ff_ctL => first | k_is | rfl | decide +kernel)
    (case ff_cmL => first | k_is | rfl | decide +kernel)
    (case ff_kbL => first | k_is | rfl | decide +kernel)
    (case ff_l1 => first | k_is | rfl | decide +kernel)
    (case ff_c1 => first | k_is | rfl | decide +kernel)
    (case ff_k1 => first | k_is | rfl | decide +kernel)
    (case ff_l2 => first | k_is | rfl | decide +kernel)
    (case ff_c2 => first | k_is | rfl | decide +kernel)
    (case ff_k2 => first | k_is | rfl | decide +kernel)
    (case ff_l3 => first | k_is | rfl | decide +kernel)
    (case ff_c3 => first | k_is | rfl | decide +kernel)
    (case ff_k3 => first | k_is | rfl | decide +kernel)
    (case ff_l4 => first | k_is | rfl | decide +kernel)
    (case ff_c4 => first | k_is | rfl | decide +kernel)
    (case ff_k4 => first | k_is | rfl | decide +kernel)
    (case ff_l5 => first | k_is | rfl | decide +kernel)
    (case ff_c5 => first | k_is | rfl | decide +kernel)
    (case ff_k5 => first | k_is | rfl | decide +kernel)
    (case ff_l6 => first | k_is | rfl | decide +kernel)
    (case ff_c6 => first | k_is | rfl | decide +kernel)
    (case ff_k6 => first | k_is | rfl | decide +kernel)
    (case ff_l7 => first | k_is | rfl | decide +kernel)
    (case ff_c7 => first | k_is | rfl | decide +kernel)
    (case ff_k7 => first | k_is | rfl | decide +kernel)
    (case ff_l8 => first | k_is | rfl | decide +kernel)
    (case ff_c8 => first | k_is | rfl | decide +kernel)
    (case ff_k8 => first | k_is | rfl | decide +kernel)
    (case ff_l9 => first | k_is | rfl | decide +kernel)
    (case ff_c9 => first | k_is | rfl | decide +kernel)
    (case ff_k9 => first | k_is | rfl | decide +kernel)
    (case ff_l10 => first | k_is | rfl | decide +kernel)
    (case ff_c10 => first | k_is | rfl | decide +kernel)
    (case ff_k10 => first | k_is | rfl | decide +kernel)
    (case ff_l11 => first | k_is | rfl | decide +kernel)
    (case ff_c11 => first | k_is | rfl | decide +kernel)
    (case ff_k11 => first | k_is | rfl | decide +kernel)
    (case ff_l12 => first | k_is | rfl | decide +kernel)
    (case ff_c12 => first | k_is | rfl | decide +kernel)
    (case ff_k12 => first | k_is | rfl | decide +kernel)
    (case ff_l13 => first | k_is | rfl | decide +kernel)
    (case ff_c13 => first | k_is | rfl | decide +kernel)
    (case ff_k13 => first | k_is | rfl | decide +kernel)
    (case ff_l14 => first | k_is | rfl | decide +kernel)
    (case ff_c14 => first | k_is | rfl | decide +kernel)
    (case ff_k14 => first | k_is | rfl | decide +kernel)
    (case ff_l15 => first | k_is | rfl | decide +kernel)
    (case ff_c15 => first | k_is | rfl | decide +kernel)
    (case ff_k15 => first | k_is | rfl | decide +kernel)
    (case ff_l16 => first | k_is | rfl | decide +kernel)
    (case ff_c16 => first | k_is | rfl | decide +kernel)
    (case ff_k16 => first | k_is | rfl | decide +kernel)
    (case ff_l17 => first | k_is | rfl | decide +kernel)
    (case ff_c17 => first | k_is | rfl | decide +kernel)
    (case ff_k17 => first | k_is | rfl | decide +kernel)
    (case ff_l18 => first | k_is | rfl | decide +kernel)
    (case ff_c18 => first | k_is | rfl | decide +kernel)
    (case ff_k18 => first | k_is | rfl | decide +kernel)
    (case ff_l19 => first | k_is | rfl | decide +kernel)
    (case ff_lT19 => first | k_is | rfl | decide +kernel)
    (case ff_c19 => first | k_is | rfl | decide +kernel)
    (case ff_k19 => first | k_is | rfl | decide +kernel)
    (case ff_l20 => first | k_is | rfl | decide +kernel)
    (case ff_c20 => first | k_is | rfl | decide +kernel)
    (case ff_k20 => first | k_is | rfl | decide +kernel)
    (case ff_l21 => first | k_is | rfl | decide +kernel)
    (case ff_c21 => first | k_is | rfl | decide +kernel)
    (case ff_k21 => first | k_is | rfl | decide +kernel)
    (case ff_l22 => first | k_is | rfl | decide +kernel)
    (case ff_c22 => first | k_is | rfl | decide +kernel)
    (case ff_k22 => first | k_is | rfl | decide +kernel)
    (case ff_l23 => first | k_is | rfl | decide +kernel)
    (case ff_c23 => first | k_is | rfl | decide +kernel)
    (case ff_k23 => first | k_is | rfl | decide +kernel)
    (case ff_l24 => first | k_is | rfl | decide +kernel)
    (case ff_c24 => first | k_is | rfl | decide +kernel)
    (case ff_k24 => first | k_is | rfl | decide +kernel)
    (case ff_l25 => first | k_is | rfl | decide +kernel)
    (case ff_c25 => first | k_is | rfl | decide +kernel)
    (case ff_k25 => first | k_is | rfl | decide +kernel)
    (case ff_l26 => first | k_is | rfl | decide +kernel)
    (case ff_c26 => first | k_is | rfl | decide +kernel)
    (case ff_k26 => first | k_is | rfl | decide +kernel)
    (case ff_l27 => first | k_is | rfl | decide +kernel)
    (case ff_lT27 => first | k_is | rfl | decide +kernel)
    (case ff_c27 => first | k_is | rfl | decide +kernel)
    (case ff_k27 => first | k_is | rfl | decide +kernel)
    (case ff_l28 => first | k_is | rfl | decide +kernel)
    (case ff_lT28 => first | k_is | rfl | decide +kernel)
    (case ff_c28 => first | k_is | rfl | decide +kernel)
    (case ff_k28 => first | k_is | rfl | decide +kernel)
    (case ff_l29 => first | k_is | rfl | decide +kernel)
    (case ff_c29 => first | k_is | rfl | decide +kernel)
    (case ff_k29 => first | k_is | rfl | decide +kernel)
    (case ff_l30 => first | k_is | rfl | decide +kernel)
    (case ff_c30 => first | k_is | rfl | decide +kernel)
    (case ff_k30 => first | k_is | rfl | decide +kernel)
    (case ff_l31 => first | k_is | rfl | decide +kernel)
    (case ff_c31 => first | k_is | rfl | decide +kernel)
    (case ff_k31 => first | k_is | rfl | decide +kernel)
    (case ff_l32 => first | k_is | rfl | decide +kernel)
    (case ff_c32 => first | k_is | rfl | decide +kernel)
    (case ff_k32 => first | k_is | rfl | decide +kernel)
    (case ff_l33 => first | k_is | rfl | decide +kernel)
    (case ff_c33 => first | k_is | rfl | decide +kernel)
    (case ff_k33 => first | k_is | rfl | decide +kernel)
    (case ff_l34 => first | k_is | rfl | decide +kernel)
    (case ff_c34 => first | k_is | rfl | decide +kernel)
    (case ff_k34 => first | k_is | rfl | decide +kernel)
    (case ff_l35 => first | k_is | rfl | decide +kernel)
    (case ff_c35 => first | k_is | rfl | decide +kernel)
    (case ff_k35 => first | k_is | rfl | decide +kernel)
    (case ff_l36 => first | k_is | rfl | decide +kernel)
    (case ff_c36 => first | k_is | rfl | decide +kernel)
    (case ff_k36 => first | k_is | rfl | decide +kernel)
    (case ff_l37 => first | k_is | rfl | decide +kernel)
    (case ff_c37 => first | k_is | rfl | decide +kernel)
    (case ff_k37 => first | k_is | rfl | decide +kernel)
    (case ff_l38 => first | k_is | rfl | decide +kernel)
    (case ff_c38 => first | k_is | rfl | decide +kernel)
    (case ff_k38 => first | k_is | rfl | decide +kernel)
    (case ff_l39 => first | k_is | rfl | decide +kernel)
    (case ff_c39 => first | k_is | rfl | decide +kernel)
    (case ff_k39 => first | k_is | rfl | decide +kernel)
    (case ff_l40 => first | k_is | rfl | decide +kernel)
    (case ff_c40 => first | k_is | rfl | decide +kernel)
    (case ff_k40 => first | k_is | rfl | decide +kernel)
    (case ff_l41 => first | k_is | rfl | decide +kernel)
    (case ff_c41 => first | k_is | rfl | decide +kernel)
    (case ff_k41 => first | k_is | rfl | decide +kernel)
    (case ff_l42 => first | k_is | rfl | decide +kernel)
    (case ff_c42 => first | k_is | rfl | decide +kernel)
    (case ff_k42 => first | k_is | rfl | decide +kernel)
    (case ff_l43 => first | k_is | rfl | decide +kernel)
    (case ff_c43 => first | k_is | rfl | decide +kernel)
    (case ff_k43 => first | k_is | rfl | decide +kernel)
    (case ff_l44 => first | k_is | rfl | decide +kernel)
    (case ff_c44 => first | k_is | rfl | decide +kernel)
    (case ff_k44 => first | k_is | rfl | decide +kernel)
    (case ff_l45 => first | k_is | rfl | decide +kernel)
    (case ff_c45 => first | k_is | rfl | decide +kernel)
    (case ff_k45 => first | k_is | rfl | decide +kernel)
    (case ff_l46 => first | k_is | rfl | decide +kernel)
    (case ff_c46 => first | k_is | rfl | decide +kernel)
    (case ff_k46 => first | k_is | rfl | decide +kernel)
    (case ff_l47 => first | k_is | rfl | decide +kernel)
    (case ff_c47 => first | k_is | rfl | decide +kernel)
    (case ff_k47 => first | k_is | rfl | decide +kernel)
    (case ff_l48 => first | k_is | rfl | decide +kernel)
    (case ff_c48 => first | k_is | rfl | decide +kernel)
    (case ff_k48 => first | k_is | rfl | decide +kernel)
    (case ff_l49 => first | k_is | rfl | decide +kernel)
    (case ff_c49 => first | k_is | rfl | decide +kernel)
    (case ff_k49 => first | k_is | rfl | decide +kernel)
    (case ff_l50 => first | k_is | rfl | decide +kernel)
    (case ff_c50 => first | k_is | rfl | decide +kernel)
    (case ff_k50 => first | k_is | rfl | decide +kernel)
    (case ff_l51 => first | k_is | rfl | decide +kernel)
    (case ff_c51 => first | k_is | rfl | decide +kernel)
    (case ff_k51 => first | k_is | rfl | decide +kernel)
    (case ff_l52 => first | k_is | rfl | decide +kernel)
    (case ff_c52 => first | k_is | rfl | decide +kernel)
    (case ff_k52 => first | k_is | rfl | decide +kernel)
    (case ff_l53 => first | k_is | rfl | decide +kernel)
    (case ff_c53 => first | k_is | rfl | decide +kernel)
    (case ff_k53 => first | k_is | rfl | decide +kernel)
    (case ff_l54 => first | k_is | rfl | decide +kernel)
    (case ff_c54 => first | k_is | rfl | decide +kernel)
    (case ff_k54 => first | k_is | rfl | decide +kernel)
    (case ff_l55 => first | k_is | rfl | decide +kernel)
    (case ff_c55 => first | k_is | rfl | decide +kernel)
    (case ff_k55 => first | k_is | rfl | decide +kernel)
    (case ff_l56 => first | k_is | rfl | decide +kernel)
    (case ff_c56 => first | k_is | rfl | decide +kernel)
    (case ff_k56 => first | k_is | rfl | decide +kernel)
    (case ff_l57 => first | k_is | rfl | decide +kernel)
    (case ff_c57 => first | k_is | rfl | decide +kernel)
    (case ff_k57 => first | k_is | rfl | decide +kernel)
    (case ff_l58 => first | k_is | rfl | decide +kernel)
    (case ff_c58 => first | k_is | rfl | decide +kernel)
    (case ff_k58 => first | k_is | rfl | decide +kernel)
    (case ff_mk1B => first | k_is | rfl | decide +kernel)
    (case ff_mk3B => first | k_is | rfl | decide +kernel)
    (case ff_mk4B => first | k_is | rfl | decide +kernel)
    (case ff_mk1H => first | k_is | rfl | decide +kernel)
    (case ff_mk3H => first | k_is | rfl | decide +kernel)
    (case ff_mk4H => first | k_is | rfl | decide +kernel)
    (case ff_mk1L => first | k_is | rfl | decide +kernel)
    (case ff_mk3L => first | k_is | rfl | decide +kernel)
    (case ff_mk4L => first | k_is | rfl | decide +kernel)
    (case ff_no_B_low => first | k_is | rfl | decide +kernel)
    (case ff_no_B_high => first | k_is | rfl | decide +kernel)
    (case ff_no_H_bounds_by_name => first | k_is | rfl | decide +kernel)
    (case ff_no_H_tied_by_name => first | k_is | rfl | decide +kernel)
    (case ff_no_H_outlet_names => first | k_is | rfl | decide +kernel)
    (case ff_no_L_chart => first | k_is | rfl | decide +kernel)
    (case ff_no_L_height_by_name => first | k_is | rfl | decide +kernel)
    (case ff_z_len => first | k_is | rfl | decide +kernel)
    (case ff_z_int => first | k_is | rfl | decide +kernel)
    (case ff_z_max => first | k_is | rfl | decide +kernel)
    (case ff_z_min => first | k_is | rfl | decide +kernel)
    (case ff_z_range => first | k_is | rfl | decide +kernel)
    (case ff_z_all => first | k_is | rfl | decide +kernel)
    (case ff_z_any => first | k_is | rfl | decide +kernel)
    (case ff_z_isinstance => first | k_is | rfl | decide +kernel)
    (case ff_z_list => first | k_is | rfl | decide +kernel)
    (case ff_z_sorted => first | k_is | rfl | decide +kernel)
    (case ff_z_bool => first | k_is | rfl | decide +kernel)
    (case ff_z_str => first | k_is | rfl | decide +kernel)
    (case ff_z_tuple => first | k_is | rfl | decide +kernel)
    (case ff_z_dict => first | k_is | rfl | decide +kernel)
    (case ff_z_set => first | k_is | rfl | decide +kernel)
    (case ff_z_repr => first | k_is | rfl | decide +kernel)
    (case ff_z_enumerate => first | k_is | rfl | decide +kernel)
    (case ff_cst0 => first | k_is | rfl | decide +kernel)
    (case ff_cst1 => first | k_is | rfl | decide +kernel)
    (case ff_cst2 => first | k_is | rfl | decide +kernel)
    (case ff_cst3 => first | k_is | rfl | decide +kernel)
    (case ff_nfC => first | k_is | rfl | decide +kernel)
    (case ff_neC => first | k_is | rfl | decide +kernel)
    (case ff_nfL => first | k_is | rfl | decide +kernel)
    (case ff_neL => first | k_is | rfl | decide +kernel)
    (case ff_d23 => first | k_is | rfl | decide +kernel)
    (case ff_e23 => first | k_is | rfl | decide +kernel)
    (case ff_d26 => first | k_is | rfl | decide +kernel)
    (case ff_lG => first | k_is | rfl | decide +kernel)
    (case ff_d30 => first | k_is | rfl | decide +kernel)
    (case ff_d31 => first | k_is | rfl | decide +kernel)
    (case ff_e31 => first | k_is | rfl | decide +kernel)
    (case ff_d35 => first | k_is | rfl | decide +kernel)
    (case ff_d36 => first | k_is | rfl | decide +kernel)
    (case ff_d37 => first | k_is | rfl | decide +kernel)
    (case ff_d42 => first | k_is | rfl | decide +kernel)
    (case ff_d44 => first | k_is | rfl | decide +kernel)
    (case ff_e44 => first | k_is | rfl | decide +kernel)
    (case ff_d45 => first | k_is | rfl | decide +kernel)
    (case ff_e45 => first | k_is | rfl | decide +kernel)
    (case ff_rdL => first | k_is | rfl | decide +kernel)
    (case ff_rgL => first | k_is | rfl | decide +kernel)
    (case ff_ce49 => first | k_is | rfl | decide +kernel)
    (case ff_rdB => first | k_is | rfl | decide +kernel)
    (case ff_rgB => first | k_is | rfl | decide +kernel)
    (case ff_ce51 => first | k_is | rfl | decide +kernel)
    (case ff_d52 => first | k_is | rfl | decide +kernel)

end
/-! Words that the proofs of these laws share: a callee with all that its call wants, a module's name, the drawn numbers. -/
namespace L9
open PySem PySem.Spec PyProof.Rows L2

/-- the module's name x holds v -/
def GlV (mg : Str → Option Value) (x : Str) (v : V) : Prop := ∃ u, mg x = some u ∧ RelV v u

/-- the def x, with all that a call of it wants -/
structure Cal (P : Program) (w : World) (K : PySem.W.Frag) (mg : Str → Option Value) (base : Heap) (x : Str) (k : Nat) (ps : List Str) (sp : Sp) : Prop where
  ex : ∃ (f : Addr) (fd : FuncData), FnOk P w K mg base CX0 k f fd ps sp ∧ mg x = some (.ref f) ∧ PySem.W.keepIn K (.ref f) = true ∧ Binds K fd ps []

section
variable {X : Cx}
theorem pe_cal {x : Str} {k : Nat} {ps : List Str} {sp : Sp} {p pos : Pos} {e : Expr} {es : List Expr} {t : TA} (C : Cal X.prog X.w X.K X.mg X.base x k ps sp) (hr : Room k X.A) (hg : Gl X x) (ha : PA X (e :: es) t)
    (hdb : (x == ("__debug__" : Str)) = false := by decide) (he : starEach (e :: es) X.env = (false, eval e X.env) :: starEach es X.env := by rfl) (hpl : (backTo pos (starEach es X.env)).any (·.1) = false := by rfl) :
    PE X (.Call (.Name x p) (e :: es) [] pos) (tCall sp [] E0 t) := by
  obtain ⟨f, fd, G, m, kp, b⟩ := C.ex
  exact pe_call G hr hg m kp b .nil pass0 ha hdb he hpl
theorem pe_gl {x : Str} {v : V} {pos : Pos} (h : GlV X.mg x v) (hg : Gl X x := by rfl) (hd : (x == ("__debug__" : Str)) = false := by decide) : PE X (.Name x pos) (tC v) := by
  obtain ⟨u, hm, r⟩ := h
  exact pe_glob hg hm r hd
theorem pe_ty {x : Str} {T : String} {pos : Pos} (hg : Gl X x) (hm : X.mg x = none) (hv : bootBuiltins x = some (.type T) := by decide +kernel) (hn : x ≠ "__name__" := by decide) (hd : (x == ("__debug__" : Str)) = false := by decide) : PE X (.Name x pos) (tC (.ty T)) :=
  pe_bltn hg hm hv rfl hn hd
/-- True, False as texts -/
def blT (b : Bool) : Str := if b then "True" else "False"
theorem blT_inj {a b : Bool} (h : blT a = blT b) : a = b := by
  cases a <;> cases b
  · rfl
  · exact absurd h (by decide +kernel)
  · exact absurd h (by decide +kernel)
  · rfl
theorem blT_dec (a b : Bool) : decide (V.str (blT a) = V.str (blT b)) = decide (a = b) := by
  by_cases h : a = b
  · subst h
    rw [decide_eq_true rfl, decide_eq_true rfl]
  · rw [decide_eq_false h, decide_eq_false]
    intro z
    exact h (blT_inj (V.str.inj z))
theorem call_repr_bl : CallR X (.builtin "repr") (fun xs H Q => ∃ b, xs = [.bl b] ∧ Q (.str (blT b)) H) := by
  intro pins s σ H xs us Q I r h
  obtain ⟨b, rfl, q⟩ := h
  obtain ⟨u, rfl, rb⟩ := vals1 r
  cases (show u = Value.bool b from rb)
  exact PySem.P.repr_of_bool ⟨.str _, H, I.tok _, ⟨_, rfl⟩, q⟩
/-- s * 2 of one sign -/
theorem op_mul_str2 : OpR X (binaryOp .Mult) (fun x y H Q => ∃ (z : Str) (n : Int), x = .str z ∧ y = .int n ∧ MulOk z n ∧ Q (.str (Txt.mul z n)) H) := by
  intro pins s σ H x y v u Q I rx ry h
  obtain ⟨z, n, rfl, rfl, hz, q⟩ := h
  obtain ⟨t, rfl⟩ := rx
  obtain ⟨t', rfl⟩ := ry
  exact SB.mul hz fun t' k => ⟨.str (Txt.mul z n), H, I.tok _, ⟨_, rfl⟩, q⟩
/-- the def x, called with n values by place and the keywords ks -/
structure CalK (P : Program) (w : World) (K : PySem.W.Frag) (mg : Str → Option Value) (base : Heap) (x : Str) (k : Nat) (ps : List Str) (n : Nat) (ks : List Str) (gV : List V → List V → List V) (sp : Sp) : Prop where
  ex : ∃ (f : Addr) (fd : FuncData) (g : List Value → List Value → List Value), FnOk P w K mg base CX0 k f fd ps sp ∧ mg x = some (.ref f) ∧ PySem.W.keepIn K (.ref f) = true ∧ KBn K fd ps n ks g gV
/-- f(k = v, ..): keywords alone -/
theorem pe_calK0 {x : Str} {k : Nat} {ps ks : List Str} {gV : List V → List V → List V} {sp : Sp} {p pos : Pos} {kws : List Keyword} {tk : TA} (C : CalK X.prog X.w X.K X.mg X.base x k ps 0 ks gV sp) (hr : Room k X.A) (hg : Gl X x) (hkw : PK X kws tk)
    (hall : (backToKw pos (keywordEach kws X.env)).all (·.1.isSome) = true := by rfl) (hks : (backToKw pos (keywordEach kws X.env)).filterMap (·.1) = ks := by rfl)
    (hdb : (x == ("__debug__" : Str)) = false := by decide) (hpl : ((backTo pos (starEach [] X.env)).any (·.1) || (backToKw pos (keywordEach kws X.env)).any (·.1.isNone)) = false := by rfl) :
    PE X (.Call (.Name x p) [] kws pos) (tCallN 0 ks.length sp gV E0 tNil tk) := by
  obtain ⟨f, fd, g, G, m, kp, b⟩ := C.ex
  refine ⟨fun pins s σ H Q I h => ?_⟩
  refine wpAny_Call_Name_kw (ld_glob I hg m ?_ hdb)
  refine PySem.W.callWith_KW0 (h₀ := X.base) I.ok.mod.kin kp hall (thn (hkw.run pos pins s σ H _ I h) fun ws s2 ⟨zs, H2, I2, rz, l1, l2, q2⟩ => ⟨I2.kIn, ?_⟩) hpl
  rw [hks]
  exact run_fnN (us := []) G hr b pass0 I2 .nil rz l1 l2 q2
theorem tyes {A B : Hp → Prop} {σ : L2.St} {H : Hp} (h : A H) : tYes σ H fun b H3 => if b = true then A H3 else B H3 := by
  unfold tYes
  show if true = true then A H else B H
  rw [if_pos rfl]
  exact h
/-- a comprehension over a text -/
theorem lc_str {x : Str} {g : TG} {tt : TT} {te : TE} {vs : List Nat} {σ : L2.St} {H1 : Hp} {D : Addr} {Qd : Hp → Prop} (Pv : Nat → Hp → Prop) (h0 : Pv 0 (upd H1 D (.lst [])))
    (hs : ∀ i c H, x.cps[i]? = some c → Pv i H → g (.str ⟨#[c]⟩) (wipe σ vs) H fun σ2 H2 => wipe σ2 vs = wipe σ vs ∧ tt σ2 H2 fun b H3 =>
      if b = true then te σ2 H3 fun y H4 => ∃ acc, H4 D = some (.lst acc) ∧ acc.length < sizeLine ∧ Pv (i + 1) (upd H4 D (.lst (acc ++ [y]))) else Pv (i + 1) H3) (hd : ∀ H, Pv x.cps.size H → Qd H) :
    ∃ W : Nat → Nat → Hp → Prop, (∃ m, W 0 m (upd H1 D (.lst []))) ∧ ∀ i m H, W i m H →
      ((Its x).stop i H ∧ Qd H) ∨ ((Its x).go i H ∧ ∃ Nx : Hp → Prop, (∀ H', Nx H' → ∃ m', m' < m ∧ W (i + 1) m' H') ∧ ∀ y H', (Its x).yld i H y H' → g y (wipe σ vs) H' fun σ2 H2 => wipe σ2 vs = wipe σ vs ∧ tt σ2 H2 fun b H3 =>
        if b = true then te σ2 H3 fun y H4 => ∃ acc, H4 D = some (.lst acc) ∧ acc.length < sizeLine ∧ Nx (upd H4 D (.lst (acc ++ [y]))) else Nx H3) := by
  refine ⟨fun i m H => m = x.cps.size - i ∧ i ≤ x.cps.size ∧ Pv i H, ⟨x.cps.size, by simp, Nat.zero_le _, h0⟩, ?_⟩
  rintro i m H ⟨rfl, hi, p⟩
  by_cases hlt : i < x.cps.size
  · refine .inr ⟨hlt, Pv (i + 1), fun H' p' => ⟨x.cps.size - (i + 1), by omega, rfl, hlt, p'⟩, fun y H' hy => ?_⟩
    obtain ⟨e, c, hc, ey⟩ := hy
    subst e ey
    exact hs i c _ hc p
  · have e : i = x.cps.size := by omega
    subst e
    exact .inl ⟨Nat.le_refl _, hd H p⟩
end
theorem hu64 {A : Around} {k : Nat} (hr : Room k A) : A.units + 64 < cLine := Nat.lt_of_le_of_lt (Nat.add_le_add_left (by omega) _) hr.units

/-! ### heaps -/
theorem same_upd {H : Hp} {p : Addr} {o : HO} (h : H p = none) : Same H (upd H p o) := fun b x e => by
  rw [upd_ne (ne_of_none e h)]
  exact e

/-! ### data -/
theorem canLay_strs : ∀ l : List Str, (∀ x ∈ l, PyData.strOk x = true) → PyData.canLayAll0 (l.map PyData.str) = true
  | [], _ => by simp [PyData.canLayAll0]
  | x :: l, h => by simp [PyData.canLayAll0, PyData.canLay0, canLay_strs l (fun y hy => h y (List.mem_cons_of_mem _ hy)), h x List.mem_cons_self]
theorem depth_strs : ∀ l : List Str, PyData.depthAll (l.map PyData.str) = 0
  | [] => by simp [PyData.depthAll]
  | x :: l => by simp [PyData.depthAll, PyData.depth, depth_strs l]
theorem shaped_strs (l : List Str) (h : ∀ x ∈ l, PyData.strOk x = true) : SeqAt.shaped (.list (l.map PyData.str)) = true := by
  unfold SeqAt.shaped
  simp [PyData.canLay0, canLay_strs l h, PyData.depth, depth_strs l]
theorem shaped_nil : SeqAt.shaped (.list []) = true := shaped_strs [] (fun _ h => nomatch h)
theorem strOk_one {z : Str} (hz : PyData.strOk z = true) {c : Nat} (hc : c ∈ z.cps.toList) : PyData.strOk ⟨#[c]⟩ = true := by
  unfold PyData.strOk at hz ⊢
  rw [Array.all_eq_true'] at hz
  have h1 := hz c (Array.mem_toList_iff.mp hc)
  simpa using h1
theorem dp_strs {K : PySem.W.Frag} {H : Hp} : ∀ l : List Str, DpAll K H (l.map V.str) (l.map PyData.str)
  | [] => .nil
  | x :: l => .cons (.str x) (dp_strs l)
theorem eqv_strs_nil : ∀ l : List Str, PyData.eqv (.list (l.map PyData.str)) (.list []) = l.isEmpty
  | [] => by simp [PyData.eqv, PyData.eqvAll]
  | x :: l => by simp [PyData.eqv, PyData.eqvAll]
/-! ### names -/
def inL (c : Nat) : Bool := decide (c ∈ ("abcdefghijklmnopqrstuvwxyz" : Str).cps.toList)
theorem filter_all : ∀ l : List Nat, ((l.filter fun c => !inL c).map fun c => (⟨#[c]⟩ : Str)).isEmpty = l.all inL
  | [] => rfl
  | c :: l => by
    rw [List.filter_cons, List.all_cons]
    cases h : inL c with
    | true =>
      rw [Bool.not_true, if_neg Bool.false_ne_true, Bool.true_and]
      exact filter_all l
    | false =>
      rw [Bool.not_false, if_pos rfl]
      rfl
/-- whether all signs of a text are letters -/
def allLets (z : Str) : Bool := z.cps.toList.all fun c => decide (c ∈ lets.cps.toList)
def nameB (z : Str) : Bool := decide ((1 : Int) ≤ (z.length : Int)) && decide ((z.length : Int) ≤ 8) && allLets z
/-- a value of a kind that is known and no T -/
def Off (K : PySem.W.Frag) (H : Hp) (T : String) (v : V) : Prop := ∃ t : String, TyX K H v (.type t) ∧ kitB t T = some false
/-- the law's own look at a text -/
def spNamed : Sp := fun vs H Q _ => ∃ z : Str, vs = [.str z] ∧ z.length ≤ sizeLine ∧ PyData.strOk z = true ∧ ∀ H', Same H H' → Q (.bl (nameB z)) H'
def spIsName (K : PySem.W.Frag) : Sp := fun vs H Q _ => ∃ v : V, vs = [v] ∧ ((∃ z : Str, v = .str z ∧ z.length ≤ sizeLine ∧ ∀ H', Same H H' → Q (.bl (nameB z)) H') ∨ (Off K H "str" v ∧ Q (.bl false) H))
def heightB (i : Int) : Bool := decide (-MH ≤ i) && decide (i ≤ MH)
def spIsHeight (K : PySem.W.Frag) : Sp := fun vs H Q _ => ∃ v : V, vs = [v] ∧ ((∃ i : Int, v = .int i ∧ Q (.bl (heightB i)) H) ∨ ((∃ b, v = .bl b) ∧ Q (.bl false) H) ∨ (Off K H "int" v ∧ Q (.bl false) H))
/-! ### the drawn numbers -/
/-- a box whose numbers were drawn at most n times -/
def BoxV (n : Nat) (xs : List V) : Prop := ∃ x y z : Int, xs = [.int x, .int y, .int z] ∧ 0 ≤ x ∧ 0 ≤ y ∧ y < 2147483629 ∧ 0 ≤ z ∧ z ≤ n
def BoxAt (H : Hp) (b : Addr) (n : Nat) : Prop := ∃ xs, H b = some (.lst xs) ∧ BoxV n xs
theorem BoxV.mono {n m : Nat} {xs : List V} (h : BoxV n xs) (hnm : n ≤ m) : BoxV m xs := by
  obtain ⟨x, y, z, e, h1, h2, h3, h4, h5⟩ := h
  exact ⟨x, y, z, e, h1, h2, h3, h4, by omega⟩
def spTake : Sp := fun vs H Q _ => ∃ (b : Addr) (m : Int) (n : Nat), vs = [.ref b, .int m] ∧ BoxAt H b n ∧ 0 < m ∧ m ≤ 10 ^ 15 ∧ n ≤ 1000000 ∧
  ∀ (r : Int) (xs : List V), 0 ≤ r → r < m → BoxV (n + 1) xs → Q (.int r) (upd H b (.lst xs))
def spBox : Sp := fun vs H Q _ => ∃ c : Int, vs = [.int c] ∧ ∀ (p : Addr) (xs : List V), H p = none → BoxV 0 xs → Q (.ref p) (upd H p (.lst xs))
def spCellA (K : PySem.W.Frag) : Sp := fun vs H Q _ => ∃ (l : Addr) (ns : List Int) (j : Int), vs = [.ref l, .int j] ∧ SqL K H l (ns.map V.int) ∧ ns.length ≤ 63 ∧ 0 ≤ j ∧ j ≤ 1000 ∧ ∀ c : Int, Q (.int c) H
/-- a turn's heap: what stood at its start (H0) stands, and the box b, made behind it, was drawn from at most n times -/
structure Trn (H0 H : Hp) (b : Addr) (n : Nat) : Prop where
  same : Same H0 H
  free : H0 b = none
  box : BoxAt H b n
theorem Trn.take {H0 H : Hp} {b : Addr} {n : Nat} (t : Trn H0 H b n) {xs : List V} (h : BoxV (n + 1) xs) : Trn H0 (upd H b (.lst xs)) b (n + 1) :=
  ⟨fun c o e => by
    rw [upd_ne (ne_of_none e t.free)]
    exact t.same c o e, t.free, ⟨xs, upd_same, h⟩⟩
theorem Trn.go {H0 H H' : Hp} {b : Addr} {n : Nat} (t : Trn H0 H b n) (s : Same H H') : Trn H0 H' b n := by
  obtain ⟨xs, e, h⟩ := t.box
  exact ⟨t.same.trans s, t.free, ⟨xs, s _ _ e, h⟩⟩
theorem Trn.ne {H0 H : Hp} {b p : Addr} {n : Nat} (t : Trn H0 H b n) (np : H p = none) : p ≠ b := by
  intro e
  obtain ⟨xs, hb, _⟩ := t.box
  rw [e, hb] at np
  cases np
theorem Same.new {H H' : Hp} {p : Addr} {o : HO} (s : Same H H') (np : H' p = none) : Same H (upd H' p o) := s.trans (same_upd np)
theorem Same.at {H H' : Hp} {p : Addr} {o : HO} (s : Same H H') (np : H p = none) : Same H (upd H' p o) := fun b x e => by
  rw [upd_ne (ne_of_none e np)]
  exact s b x e
theorem Trn.at {H0 H : Hp} {b p : Addr} {n : Nat} {o : HO} (t : Trn H0 H b n) (np : H0 p = none) (hpb : p ≠ b) : Trn H0 (upd H p o) b n := by
  obtain ⟨xs, e, h⟩ := t.box
  exact ⟨Same.at t.same np, t.free, xs, (upd_ne hpb.symm).trans e, h⟩
theorem Trn.new {H0 H : Hp} {b p : Addr} {n : Nat} {o : HO} (t : Trn H0 H b n) (np : H p = none) : Trn H0 (upd H p o) b n := t.go (same_upd np)
/-- from H to H' at most the box b was changed, among what stood -/
structure Drw (H H' : Hp) (b : Addr) (n : Nat) : Prop where
  keep : ∀ q o, q ≠ b → H q = some o → H' q = some o
  box : BoxAt H' b n
theorem Trn.drw {H0 H H' : Hp} {b : Addr} {n m : Nat} (t : Trn H0 H b n) (d : Drw H H' b m) : Trn H0 H' b m :=
  ⟨fun q o e => d.keep q o (ne_of_none e t.free) (t.same q o e), t.free, d.box⟩
theorem Drw.take {H H' : Hp} {b : Addr} {n : Nat} {xs : List V} (d : Drw H H' b n) (h : BoxV (n + 1) xs) : Drw H (upd H' b (.lst xs)) b (n + 1) :=
  ⟨fun q o hq e => (upd_ne hq).trans (d.keep q o hq e), xs, upd_same, h⟩
theorem Drw.refl {H : Hp} {b : Addr} {n : Nat} (h : BoxAt H b n) : Drw H H b n := ⟨fun _ _ _ e => e, h⟩
theorem Drw.new {H H' : Hp} {b p : Addr} {n : Nat} {o : HO} (d : Drw H H' b n) (np : H' p = none) : Drw H (upd H' p o) b n := by
  obtain ⟨xs, e, h⟩ := d.box
  exact ⟨fun q u hq e2 => same_upd np _ _ (d.keep q u hq e2), xs, same_upd np _ _ e, h⟩
theorem Drw.go {H H' H2 : Hp} {b : Addr} {n : Nat} (d : Drw H H' b n) (s : Same H' H2) : Drw H H2 b n := by
  obtain ⟨xs, e, h⟩ := d.box
  exact ⟨fun q u hq e2 => s _ _ (d.keep q u hq e2), xs, s _ _ e, h⟩
theorem Drw.trans {H H' H2 : Hp} {b : Addr} {n m : Nat} (d : Drw H H' b n) (e : Drw H' H2 b m) : Drw H H2 b m := ⟨fun q u hq h => e.keep q u hq (d.keep q u hq h), e.box⟩
theorem Drw.ne {H H' : Hp} {b p : Addr} {n : Nat} (d : Drw H H' b n) (np : H' p = none) : p ≠ b := by
  intro e
  obtain ⟨xs, h, _⟩ := d.box
  rw [e, h] at np
  cases np
/-! ### words -/
theorem join_signs : ∀ cs : List Nat, Str.join (⟨#[]⟩ : Str) (cs.map fun c => (⟨#[c]⟩ : Str)) = ⟨cs.toArray⟩
  | [] => rfl
  | [c] => rfl
  | c :: d :: r => by
    have ih := join_signs (d :: r)
    show ((⟨#[c]⟩ : Str) ++ (⟨#[]⟩ : Str)) ++ Str.join (⟨#[]⟩ : Str) ((d :: r).map fun c => (⟨#[c]⟩ : Str)) = _
    rw [ih]
    show (⟨(#[c] ++ #[]) ++ (d :: r).toArray⟩ : Str) = ⟨(c :: d :: r).toArray⟩
    congr 1
    simp
theorem txt_join_signs (cs : List Nat) : Txt.join (⟨#[]⟩ : Str) (cs.map fun c => (⟨#[c]⟩ : Str)) = ⟨cs.toArray⟩ := by
  show Builtin.Str.glued _ _ = _
  rw [StrLaws.glued_eq_join]
  exact join_signs cs
theorem sum_signs : ∀ cs : List Nat, ((cs.map fun c => (⟨#[c]⟩ : Str)).map (·.length)).sum = cs.length
  | [] => rfl
  | c :: r => by
    rw [List.map_cons, List.map_cons, List.sum_cons, sum_signs r, List.length_cons]
    show 1 + r.length = r.length + 1
    omega
theorem ok_of_codes {z : Str} (h : ∀ c ∈ z.cps.toList, c < 1114112) : PyData.strOk z = true := by
  unfold PyData.strOk
  rw [Array.all_eq_true']
  intro c hc
  exact decide_eq_true (h c (Array.mem_toList_iff.mpr hc))
theorem codes_of_ok {z : Str} (h : PyData.strOk z = true) : ∀ c ∈ z.cps.toList, c < 1114112 := by
  intro c hc
  unfold PyData.strOk at h
  rw [Array.all_eq_true'] at h
  exact of_decide_eq_true (h c (Array.mem_toList_iff.mp hc))
theorem ok_app {a b : Str} (ha : PyData.strOk a = true) (hb : PyData.strOk b = true) : PyData.strOk (a ++ b) = true := by
  refine ok_of_codes fun c hc => ?_
  have e : (a ++ b).cps.toList = a.cps.toList ++ b.cps.toList := by
    show (a.cps ++ b.cps).toList = _
    rw [Array.toList_append]
  rw [e] at hc
  rcases List.mem_append.mp hc with h | h
  · exact codes_of_ok ha c h
  · exact codes_of_ok hb c h
theorem len_app (a b : Str) : (a ++ b).length = a.length + b.length := by
  show (a.cps ++ b.cps).size = _
  rw [Array.size_append]
  rfl
theorem ok_cut {z : Str} (h : PyData.strOk z = true) (lo hi : Option Int) : PyData.strOk (cutS z lo hi) = true := by
  refine ok_of_codes fun c hc => ?_
  unfold cutS at hc
  exact codes_of_ok h c (List.mem_of_mem_drop (List.mem_of_mem_take hc))
theorem len_cut (z : Str) (lo hi : Option Int) : (cutS z lo hi).length ≤ z.length := by
  unfold cutS
  show (List.toArray _).size ≤ z.cps.size
  rw [List.size_toArray, List.length_take, List.length_drop, Array.length_toList]
  omega
theorem mul_one_sign (c : Nat) : MulOk ⟨#[c]⟩ 2 ∧ Txt.mul ⟨#[c]⟩ 2 = ⟨#[c, c]⟩ := by
  refine ⟨⟨by decide, fun _ _ => ?_, fun _ _ => ?_⟩, ?_⟩
  · show ¬ ((1 : Int) > (2 ^ 63 - 1) / 2)
    decide
  · show Builtin.Str.tooLong (1 * 2) = false
    decide
  · unfold Txt.mul
    rw [if_neg (by decide), if_neg (by show ¬ (((2 : Int) == 1 || (1 : Nat) == 0) = true); decide)]
    rfl
theorem allLets_of {z : Str} (h : ∀ c ∈ z.cps.toList, c ∈ lets.cps.toList) : allLets z = true := by
  unfold allLets
  rw [List.all_eq_true]
  exact fun c hc => decide_eq_true (h c hc)
theorem lets_small : ∀ c ∈ lets.cps.toList, c < 1114112 := by decide +kernel
theorem lets_len : lets.cps.toList.length = 26 := by decide +kernel
theorem off_non {K : PySem.W.Frag} {H : Hp} {T : String} (h : kitB "NoneType" T = some false) : Off K H T .non := ⟨_, .base .non, h⟩
theorem off_bl {K : PySem.W.Frag} {H : Hp} {T : String} {b : Bool} (h : kitB "bool" T = some false) : Off K H T (.bl b) := ⟨_, .base (.bl b), h⟩
theorem off_int {K : PySem.W.Frag} {H : Hp} {T : String} {b : Int} (h : kitB "int" T = some false) : Off K H T (.int b) := ⟨_, .base (.int b), h⟩
theorem off_str {K : PySem.W.Frag} {H : Hp} {T : String} {b : Str} (h : kitB "str" T = some false) : Off K H T (.str b) := ⟨_, .base (.str b), h⟩
theorem off_lst {K : PySem.W.Frag} {H : Hp} {T : String} {p : Addr} {xs : List V} (e : H p = some (.lst xs)) (h : kitB "list" T = some false) : Off K H T (.ref p) := ⟨_, .base (.lst e), h⟩
theorem off_tup {K : PySem.W.Frag} {H : Hp} {T : String} {p : Addr} {xs : List V} (e : H p = some (.tup xs)) (h : kitB "tuple" T = some false) : Off K H T (.ref p) := ⟨_, .base (.tup e), h⟩
theorem off_dK {K : PySem.W.Frag} {H : Hp} {T : String} {p : Addr} {xs : List (Key × V)} (e : H p = some (.dK xs)) (h : kitB "dict" T = some false) : Off K H T (.ref p) := ⟨_, .base (.dK e), h⟩
theorem k_NoneType_str : kitB "NoneType" "str" = some false := by decide +kernel
theorem k_bool_str : kitB "bool" "str" = some false := by decide +kernel
theorem k_int_str : kitB "int" "str" = some false := by decide +kernel
theorem k_list_str : kitB "list" "str" = some false := by decide +kernel
theorem k_tuple_str : kitB "tuple" "str" = some false := by decide +kernel
theorem k_dict_str : kitB "dict" "str" = some false := by decide +kernel
theorem k_NoneType_int : kitB "NoneType" "int" = some false := by decide +kernel
theorem k_str_int : kitB "str" "int" = some false := by decide +kernel
theorem k_list_int : kitB "list" "int" = some false := by decide +kernel
theorem k_tuple_int : kitB "tuple" "int" = some false := by decide +kernel
theorem k_dict_int : kitB "dict" "int" = some false := by decide +kernel
/-- the built-ins that the drawn numbers and is_height want -/
structure Bt (mg : Str → Option Value) : Prop where
  m_len : mg "len" = none
  m_int : mg "int" = none
  m_max : mg "max" = none
structure Bh (mg : Str → Option Value) : Prop where
  m_int : mg "int" = none
  m_bool : mg "bool" = none
  m_isinstance : mg "isinstance" = none
  m_MOST_HEIGHT : GlV mg "MOST_HEIGHT" (.int MH)
theorem kit_bi : kitB "bool" "int" = some true := by decide +kernel
theorem kit_bb : kitB "bool" "bool" = some true := by decide +kernel
theorem kit_ii : kitB "int" "int" = some true := by decide +kernel
theorem kit_ib : kitB "int" "bool" = some false := by decide +kernel
theorem kit_ss : kitB "str" "str" = some true := by decide +kernel
/-- a value that is no int -/
def NoI (K : PySem.W.Frag) (H : Hp) (v : V) : Prop := (∃ b, v = .bl b) ∨ Off K H "int" v
/-- a value that is no height -/
def NoH (K : PySem.W.Frag) (H : Hp) (v : V) : Prop := (∃ i, v = .int i ∧ heightB i = false) ∨ NoI K H v
theorem TyX.mono {K : PySem.W.Frag} {H H' : Hp} {v : V} {t : Value} (s : Same H H') (h : TyX K H v t) : TyX K H' v t := by
  cases h with
  | base h =>
    refine .base ?_
    cases h with
    | non => exact .non
    | bl x => exact .bl x
    | int i => exact .int i
    | str x => exact .str x
    | flt x => exact .flt x
    | lst e => exact .lst (s _ _ e)
    | frz e => exact .frz (s _ _ e)
    | tup e => exact .tup (s _ _ e)
    | dK e => exact .dK (s _ _ e)
    | dT e => exact .dT (s _ _ e)
    | ins e cl ha hn ht hm => exact .ins (s _ _ e) cl ha hn ht hm
  | byt b => exact .byt b
  | set e => exact .set (s _ _ e)
  | kList e c => exact .kList e c
  | kTuple e c => exact .kTuple e c
  | kDict e c => exact .kDict e c
  | fTuple e => exact .fTuple (s _ _ e)
  | fDict e => exact .fDict (s _ _ e)
theorem Off.mono {K : PySem.W.Frag} {H H' : Hp} {T : String} {v : V} (s : Same H H') (h : Off K H T v) : Off K H' T v := by
  obtain ⟨t, h1, h2⟩ := h
  exact ⟨t, TyX.mono s h1, h2⟩
theorem NoI.mono {K : PySem.W.Frag} {H H' : Hp} {v : V} (s : Same H H') (h : NoI K H v) : NoI K H' v := h.imp id (Off.mono s)
theorem NoH.mono {K : PySem.W.Frag} {H H' : Hp} {v : V} (s : Same H H') (h : NoH K H v) : NoH K H' v := h.imp id (NoI.mono s)
/-- how is_height answers a value that is no height -/
theorem isH_no {K : PySem.W.Frag} {H : Hp} {v : V} {Q : VK} {E : XK} (h : NoH K H v) (q : Q (.bl false) H) : spIsHeight K ([v] ++ []) H Q E := by
  rcases h with ⟨i, rfl, hi⟩ | h | h
  · refine ⟨_, rfl, .inl ⟨i, rfl, ?_⟩⟩
    rw [hi]
    exact q
  · exact ⟨_, rfl, .inr (.inl ⟨h, q⟩)⟩
  · exact ⟨_, rfl, .inr (.inr ⟨h, q⟩)⟩
theorem isH_yes {K : PySem.W.Frag} {H : Hp} {i : Int} {Q : VK} {E : XK} (h : heightB i = true) (q : Q (.bl true) H) : spIsHeight K ([V.int i] ++ []) H Q E := by
  refine ⟨_, rfl, .inl ⟨i, rfl, ?_⟩⟩
  rw [h]
  exact q
end L9

/-! Own classes: what is called on a class, made in a try, compared, added by the class's own defs; except clauses with names. -/
namespace L9
open PySem PySem.Spec PyProof.Rows L2

section
variable {X : Cx} {CX : CXT} {k : Nat} {C f g p : Addr} {fd : FuncData} {ps : List Str} {sp : Sp} {x m : Str} {p1 p2 pos : Pos} {e o : Expr} {es : List Expr} {t : TA} {ta tb : TE}

/-- the wish of a call, by the caller's slots; a fixed one too -/
theorem passAt_of {E : XK} (h : Passes CX X E) : ∀ σ, PassesAt CX X σ E := fun σ pins H s e s' I c => h pins σ H s e s' I c
theorem pass0A {E : L2.St → XK} : ∀ σ, PassesAt CX0 X σ (E σ) := fun _ _ _ _ _ _ _ h => h.elim

/-- C0.__init__(e, ..), C0 an own class whose __init__ is the def at f -/
theorem pe_cinit {C0 : Addr} {mc : Value} {E : L2.St → XK} {pl : Sem Bool} (hg : Gl X x) (hm : X.mg x = some (.ref C0)) (r : ClX.CRead X.K C0 mc) (c : ClX.CVal X.K C0 mc m (.ref f) (.ref f)) (hk : PySem.W.keepIn X.K (.ref f) = true)
    (F : FnOk X.prog X.w X.K X.mg X.base CX k f fd ps sp) (hr : Room k X.A) (hb : Binds X.K fd ps []) (hx : ∀ σ, PassesAt CX X σ (E σ)) (ha : PA X (e :: es) t)
    (hst : starEach (e :: es) X.env = (false, eval e X.env) :: starEach es X.env := by rfl) (hpl : (backTo pos (starEach es X.env)).any (·.1) = false := by rfl) (hdb : (x == ("__debug__" : Str)) = false := by decide)
    (ht : eval (.Call (.Attribute (.Name x p1) m p2) (e :: es) [] pos) X.env = (do
      let ov ← eval (.Name x p1) X.env
      standAt p2.atName
      let (f, first) ← holding [ov] (getMethod ov m pl)
      callWith pos f first (backTo pos (starEach (e :: es) X.env)) (backToKw pos (keywordEach [] X.env))) := by rfl) :
    PE X (.Call (.Attribute (.Name x p1) m p2) (e :: es) [] pos) (tCallS sp E t) := by
  refine ⟨fun pins s σ H Q I h => ?_⟩
  refine PySem.W.methodCall_KW (pl := pl) (ld_glob I hg hm ?_ hdb) ht
  refine PySem.W.method_cls I.kIn r.ga (ClX.getcval_ok I r c fun s1 I1 => ?_)
  refine PySem.W.callWith_K (first := []) (h₀ := X.base) I.ok.mod.kin hk (thn (ha.run pos pins s1 σ H _ I1 h) fun us s2 ⟨vs, H2, I2, rv, q⟩ => ⟨I2.kIn, ?_⟩) hst hpl
  exact run_fnS F hr hb (hx σ) I2 rv q

/-- in an except suite -/
theorem pe_fldS {a : Addr} {l : List (Addr × Obj)} {e : Expr} {f : Str} {pos : Pos} {ta : TE} (he : PE (X.suite a l) e ta) (hb : attributeBase e f X.env (eval e X.env) = eval e X.env := by rfl) : PE (X.suite a l) (.Attribute e f pos) (tFld X.K ta f) := pe_fld he hb
theorem op_eqDS {a : Addr} {l : List (Addr × Obj)} (hu : X.A.units + 64 < cLine) : OpR (X.suite a l) (compareOp .Eq) (rEqD X.K) := op_eqD (X := X.suite a l) hu
/-! ### an instance made where what is raised is wished for by the slots -/
theorem run_makeS {E : L2.St → XK} {pins : List (Addr × Obj)} {σ : L2.St} {H : Hp} {s : Shared} {Q : VK} {us : List Value} {vs : List V} (M : Mk X.K C f) (F : FnOk X.prog X.w X.K X.mg X.base CX k f fd ps sp) (hr : Room (k + 1) X.A)
    (hb : Binds X.K fd ps []) (hx : PassesAt CX X σ (E σ) ∨ True) (hx2 : ∀ (H2 : Hp) (s2 : Shared) (e : Value) (s' : Shared), Inv X pins σ H2 s2 → CX X.stack H2 s2 (E σ) e s' → X.xe e s') (I : Inv X pins σ H s) (rv : Vals vs us)
    (h : ∀ y dy, H y = none → H dy = none → dy ≠ y → sp (.ref y :: vs) (upd (upd H dy (.own y)) y (.ins C dy [])) (fun v H2 => v = .non ∧ Q (.ref y) H2) (E σ)) :
    wpAny (model X.prog X.w) X.A (call (.ref C) us) (EP X pins σ Q) X.xe s := by
  have hq := h (s.heap.objs.size + 1) s.heap.objs.size (I.hok.fresh (Nat.le_succ _)) (I.hok.fresh (Nat.le_refl _)) (Nat.ne_of_lt (Nat.lt_succ_self _))
  have J := Inv.made (C := C) I
  have rr : Vals (V.ref (s.heap.objs.size + 1) :: vs) (Value.ref (s.heap.objs.size + 1) :: us) := .cons rfl rv
  have ln : (Value.ref (s.heap.objs.size + 1) :: us).length = ps.length := by
    have z := rr.length
    rw [F.len _ _ _ _ hq] at z
    exact z.symm
  have bb := hb _ (Value.ref (s.heap.objs.size + 1) :: us) J.kIn (by rw [List.append_nil]; exact ln)
  rw [List.append_nil] at bb
  refine wpAny_call (make_map (f := f) I.kIn M.makes M.init (beq_iff_eq.mp M.fn) (codeAny_mono (F.run _ X.stack _ _ ⟨Value.ref (s.heap.objs.size + 1) :: us, []⟩ _ _ _ (E σ) (hr.make C us [])
    (J.env0.make C us []) bb rr hq) fun a s' z => ?_))
  cases a with
  | error e => exact hx2 _ _ e s' J z
  | ok fl =>
    cases fl with
    | ret u =>
      obtain ⟨v, H', I3, r3, ev, q3⟩ := J.after z
      subst ev
      exact ⟨r3, ⟨V.ref (s.heap.objs.size + 1), H', I3, rfl, q3⟩⟩
    | next => exact z.elim
    | brk => exact z.elim
    | cont => exact z.elim
def tMakeS (C : Addr) (sp : Sp) (E : L2.St → XK) (t : TA) : TE := fun σ H Q => t σ H fun vs H1 => ∀ y dy, H1 y = none → H1 dy = none → dy ≠ y → sp (.ref y :: vs) (upd (upd H1 dy (.own y)) y (.ins C dy [])) (fun v H2 => v = .non ∧ Q (.ref y) H2) (E σ)
/-- C(e, ..) -/
theorem pe_makeS {E : L2.St → XK} (M : Mk X.K C f) (F : FnOk X.prog X.w X.K X.mg X.base CX k f fd ps sp) (hr : Room (k + 1) X.A) (hb : Binds X.K fd ps []) (hx : ∀ σ, PassesAt CX X σ (E σ)) (hg : Gl X x) (hm : X.mg x = some (.ref C))
    (ha : PA X (e :: es) t) (hdb : (x == ("__debug__" : Str)) = false := by decide) (hst : starEach (e :: es) X.env = (false, eval e X.env) :: starEach es X.env := by rfl) (hpl : (backTo pos (starEach es X.env)).any (·.1) = false := by rfl) :
    PE X (.Call (.Name x p1) (e :: es) [] pos) (tMakeS C sp E t) := by
  refine ⟨fun pins s σ H Q I h => ?_⟩
  refine wpAny_Call_Name_kw (ld_glob I hg hm ?_ hdb)
  refine PySem.W.callWith_K (h₀ := X.base) I.ok.mod.kin M.kp (thn (ha.run pos pins s σ H _ I h) fun us s1 ⟨vs, H1, I1, rv, q⟩ => ⟨I1.kIn, ?_⟩) hst hpl
  exact run_makeS M F hr hb (.inr trivial) (fun H2 s2 e s' J z => hx σ pins H2 s2 e s' J z) I1 rv q
/-- cls(e, ..), cls a slot that holds the class at C -/
def tMakeL (i : Nat) (C : Addr) (sp : Sp) (E : L2.St → XK) (t : TA) : TE := fun σ H Q => σ[i]? = some (some (.ref C)) ∧ tMakeS C sp E t σ H Q
theorem pe_makeL {E : L2.St → XK} {i : Nat} (M : Mk X.K C f) (F : FnOk X.prog X.w X.K X.mg X.base CX k f fd ps sp) (hr : Room (k + 1) X.A) (hb : Binds X.K fd ps []) (hx : ∀ σ, PassesAt CX X σ (E σ)) (hN : X.N[i]? = some x) (hv : Vis X.env.scope x)
    (ha : PA X (e :: es) t) (hdb : (x == ("__debug__" : Str)) = false := by decide) (hcd : (x == ("__classdict__" : Str)) = false := by decide) (hst : starEach (e :: es) X.env = (false, eval e X.env) :: starEach es X.env := by rfl)
    (hpl : (backTo pos (starEach es X.env)).any (·.1) = false := by rfl) : PE X (.Call (.Name x p1) (e :: es) [] pos) (tMakeL i C sp E t) := by
  refine ⟨fun pins s σ H Q I h => ?_⟩
  obtain ⟨hs, h⟩ := h
  refine wpAny_Call_Name_kw (thn ((pe_var (pos := p1) hN hv hdb hcd).run pins s σ H (fun v H1 => v = .ref C ∧ H1 = H) I ⟨.ref C, hs, rfl, rfl⟩) fun u s1 ⟨v, H1, I1, r1, z⟩ => ?_)
  obtain ⟨rfl, rfl⟩ := z
  cases r1
  refine PySem.W.callWith_K (h₀ := X.base) I.ok.mod.kin M.kp (thn (ha.run pos pins s1 σ _ _ I1 h) fun us s2 ⟨vs, H2, I2, rv, q⟩ => ⟨I2.kIn, ?_⟩) hst hpl
  exact run_makeS M F hr hb (.inr trivial) (fun H3 s3 e s' J z => hx σ pins H3 s3 e s' J z) I2 rv q

/-! ### class methods, their wish by the slots -/
theorem code_fnS {E : L2.St → XK} {pins : List (Addr × Obj)} {σ : L2.St} {H : Hp} {s : Shared} {Q : VK} {us : List Value} {kw : List (Str × Value)} {bs : List Value} {ws : List V} (F : FnOk X.prog X.w X.K X.mg X.base CX k g fd ps sp) (hr : Room k X.A)
    (bd : BindsTo s fd ⟨us, kw⟩ (ps.zip bs)) (hx : PassesAt CX X σ (E σ)) (I : Inv X pins σ H s) (rv : Vals ws bs) (h : sp ws H Q (E σ)) :
    codeAny (model X.prog X.w) X.A (.call (.ref g) ⟨us, kw⟩) (fun a s' => match a with | .ok (.ret v) => EP X pins σ Q v s' | .ok _ => False | .error e => X.xe e s') s := by
  refine codeAny_mono (F.run X.A X.stack s H ⟨us, kw⟩ bs ws Q (E σ) hr I.env0 bd rv h) fun a s' z => ?_
  cases a with
  | error e => exact hx pins H s e s' I z
  | ok fl =>
    cases fl with
    | ret u => exact I.after z
    | next => exact z.elim
    | brk => exact z.elim
    | cont => exact z.elim
/-- C.m(e, ..) -/
def tCm (C : Addr) (sp : Sp) (E : L2.St → XK) (ta : TE) (t : TA) : TE := fun σ H Q => ta σ H fun x H1 => x = .ref C ∧ t σ H1 fun vs H2 => sp (.ref C :: vs) H2 Q (E σ)
theorem pe_cmS {mc : Value} {E : L2.St → XK} {pl : Sem Bool} (he : PE X o ta) (r : ClX.CRead X.K C mc) (c : ClX.CMet X.K C mc m p g) (F : FnOk X.prog X.w X.K X.mg X.base CX k g fd ps sp) (hb : Binds X.K fd ps []) (hr : Room k X.A) (hx : ∀ σ, PassesAt CX X σ (E σ)) (ha : PA X (e :: es) t)
    (hst : starEach (e :: es) X.env = (false, eval e X.env) :: starEach es X.env := by rfl) (hpl : (backTo pos (starEach es X.env)).any (·.1) = false := by rfl)
    (ht : eval (.Call (.Attribute o m p2) (e :: es) [] pos) X.env = (do
      let ov ← eval o X.env
      standAt p2.atName
      let (f, first) ← holding [ov] (getMethod ov m pl)
      callWith pos f first (backTo pos (starEach (e :: es) X.env)) (backToKw pos (keywordEach [] X.env))) := by rfl) :
    PE X (.Call (.Attribute o m p2) (e :: es) [] pos) (tCm C sp E ta t) := by
  refine ⟨fun pins s σ H Q I h => ?_⟩
  refine PySem.W.methodCall_KW (pl := pl) (thn (he.run pins s σ H _ I h) fun u s1 ⟨x, H1, I1, rx, ex, q⟩ => ?_) ht
  subst ex
  obtain rfl : u = Value.ref C := rx
  refine ClX.getmethcm_ok I1 r c fun s2 I2 => ?_
  refine ClX.callwith_cm I2 (ClX.base_none I1 (Nat.le_refl _)) c.fi (thn (ha.run pos _ s2 σ H1 _ I2 q) fun us s3 ⟨vs, H2, I3, rv, q2⟩ => ⟨⟨ClX.pin_at I3, I3.kIn⟩, ?_⟩) hst hpl
  have rr : Vals (.ref C :: vs) (Value.ref C :: us) := .cons rfl rv
  have ln : (Value.ref C :: us).length = ps.length := by
    rw [← rr.length]
    exact F.len _ _ _ _ q2
  have bd := hb s3 (Value.ref C :: us) I3.kIn (by rw [List.append_nil]; exact ln)
  rw [List.append_nil] at bd
  have z := wpAny_call (PySem.W.method_call (pos := us) (kw := []) (ClX.pin_at I3) (code_fnS (X := X) (E := E) F hr bd (hx σ) I3 rr q2))
  exact thn z fun _ _ y => ClX.unpinE y
/-- C.m(k = v, ..) -/
def tCmK (n : Nat) (C : Addr) (sp : Sp) (gV : List V → List V → List V) (E : L2.St → XK) (ta : TE) (tk : TA) : TE := fun σ H Q => ta σ H fun x H1 => x = .ref C ∧ tk σ H1 fun zs H2 => zs.length = n ∧ sp (gV [.ref C] zs) H2 Q (E σ)
theorem pe_cmK0 {mc : Value} {E : L2.St → XK} {pl : Sem Bool} {kws : List Keyword} {tk : TA} {ks : List Str} {gg : List Value → List Value → List Value} {gV : List V → List V → List V} (he : PE X o ta) (r : ClX.CRead X.K C mc) (c : ClX.CMet X.K C mc m p g)
    (F : FnOk X.prog X.w X.K X.mg X.base CX k g fd ps sp) (hb : KBn X.K fd ps 1 ks gg gV) (hr : Room k X.A) (hx : ∀ σ, PassesAt CX X σ (E σ)) (hkw : PK X kws tk)
    (hall : (backToKw pos (keywordEach kws X.env)).all (·.1.isSome) = true := by rfl) (hks : (backToKw pos (keywordEach kws X.env)).filterMap (·.1) = ks := by rfl)
    (hpl : ((backTo pos (starEach [] X.env)).any (·.1) || (backToKw pos (keywordEach kws X.env)).any (·.1.isNone)) = false := by rfl)
    (ht : eval (.Call (.Attribute o m p2) [] kws pos) X.env = (do
      let ov ← eval o X.env
      standAt p2.atName
      let (f, first) ← holding [ov] (getMethod ov m pl)
      callWith pos f first (backTo pos (starEach [] X.env)) (backToKw pos (keywordEach kws X.env))) := by rfl) :
    PE X (.Call (.Attribute o m p2) [] kws pos) (tCmK ks.length C sp gV E ta tk) := by
  refine ⟨fun pins s σ H Q I h => ?_⟩
  refine PySem.W.methodCall_KW (pl := pl) (thn (he.run pins s σ H _ I h) fun u s1 ⟨x, H1, I1, rx, ex, q⟩ => ?_) ht
  subst ex
  obtain rfl : u = Value.ref C := rx
  refine ClX.getmethcm_ok I1 r c fun s2 I2 => ?_
  refine PySem.W.callWith_of (P := fun h => PySem.W.MethP X.K s1.heap.objs.size g (.ref C) h) hpl (PySem.W.keeps_M c.fi) (evalArgs_kw2_nil hall (thn (hkw.run pos _ s2 σ H1 _ I2 q) fun us s3 ⟨zs, H2, I3, rz, l1, q2⟩ => ⟨⟨ClX.pin_at I3, I3.kIn⟩, ?_⟩))
  rw [hks]
  have rr := hb.rel (vs := [.ref C]) (us := [Value.ref C]) (.cons rfl .nil) rz
  have bd := hb.to s3 [Value.ref C] us I3.kIn rfl (by rw [← l1]; exact rz.length.symm)
  have z := wpAny_call (PySem.W.method_call (pos := []) (kw := ks.zip us) (ClX.pin_at I3) (code_fnS (X := X) (E := E) F hr bd (hx σ) I3 rr q2))
  exact thn z fun _ _ y => ClX.unpinE y

/-! ### operators by the class's own defs -/
/-- x op y, both of the class at C -/
def rOwnB (C : Addr) (sp : Sp) (E : XK) : R2 := fun x y H Q => ∃ a dx fs b dy gs, x = .ref a ∧ y = .ref b ∧ H a = some (.ins C dx fs) ∧ H b = some (.ins C dy gs) ∧ sp [x, y] H Q E
theorem inst_at {pins : List (Addr × Obj)} {σ : L2.St} {H : Hp} {s : Shared} {a dx : Addr} {fs : List (Str × V)} (I : Inv X pins σ H s) (h : H a = some (.ins C dx fs)) : ∃ od, PySem.W.InstAt s.heap a (PySem.W.instObj C dx) C (some od) := by
  obtain ⟨mA, O, _⟩ := ins_get I.hok h
  obtain ⟨od, J, _⟩ := O.look
  exact ⟨od, J⟩
theorem op_ownB {op : Operator} {E : XK} (hc : PySem.W.selfFirst X.K C = true) (hs : PySem.W.findIn X.K (.ref C) (PySem.dunder op.info.2) = some (some (.ref f))) (hf : PySem.W.isFn X.K (.ref f) = true)
    (F : FnOk X.prog X.w X.K X.mg X.base CX k f fd ps sp) (hr : Room k X.A) (hb : Binds X.K fd ps []) (hx : Passes CX X E) : OpR X (binaryOp op) (rOwnB C sp E) := by
  intro pins s σ H x y v u Q I rx ry h
  obtain ⟨a, dx, fs, b, dy, gs, rfl, rfl, ha, hb2, q⟩ := h
  cases (show v = Value.ref a from rx)
  cases (show u = Value.ref b from ry)
  obtain ⟨od, J⟩ := inst_at I ha
  obtain ⟨od2, J2⟩ := inst_at I hb2
  obtain ⟨mm, hF⟩ := I.fr
  refine PySem.W.binop_K (op := op) hF I.ok.mod.kin J J2.type hc hs hf ?_
  refine wpAny_mono (run_fn (us := [.ref a, .ref b]) (vs := [.ref a, .ref b]) F hr hb .nil hx I (.cons rfl (.cons rfl .nil)) q) (fun w s' z => ?_) fun _ _ z => z
  obtain ⟨z', H', I', rz, qz⟩ := z
  exact SlX.cmpback rz ⟨z', H', I', rz, qz⟩
/-- .. where what is raised is wished for by the slots -/
def tOwnS (C : Addr) (sp : Sp) (E : L2.St → XK) (ta tb : TE) : TE := fun σ H Q => tOp (rOwnB C sp (E σ)) ta tb σ H Q
theorem pe_ownS {op : Operator} {E : L2.St → XK} {a b : Expr} (hc : PySem.W.selfFirst X.K C = true) (hs : PySem.W.findIn X.K (.ref C) (PySem.dunder op.info.2) = some (some (.ref f))) (hf : PySem.W.isFn X.K (.ref f) = true)
    (F : FnOk X.prog X.w X.K X.mg X.base CX k f fd ps sp) (hr : Room k X.A) (hb : Binds X.K fd ps []) (hx : ∀ σ, PassesAt CX X σ (E σ)) (ha : PE X a ta) (hb2 : PE X b tb) : PE X (.BinOp a op b pos) (tOwnS C sp E ta tb) := by
  refine ⟨fun pins s σ H Q I h => ?_⟩
  refine wpAny_BinOp (binT ha hb2 I h fun v u s2 x y H2 I2 rx ry q => ?_)
  obtain ⟨a', dx, fs, b', dy, gs, rfl, rfl, h1, h2, q⟩ := q
  cases (show v = Value.ref a' from rx)
  cases (show u = Value.ref b' from ry)
  obtain ⟨od, J⟩ := inst_at I2 h1
  obtain ⟨od2, J2⟩ := inst_at I2 h2
  obtain ⟨mm, hF⟩ := I2.fr
  refine PySem.W.binop_K (op := op) hF I2.ok.mod.kin J J2.type hc hs hf ?_
  refine wpAny_mono (run_fnS (us := [.ref a', .ref b']) (vs := [.ref a', .ref b']) F hr hb (hx σ) I2 (.cons rfl (.cons rfl .nil)) q) (fun w s' z => ?_) fun _ _ z => z
  obtain ⟨z', H', I', rz, qz⟩ := z
  exact SlX.cmpback rz ⟨z', H', I', rz, qz⟩
/-- -x -/
def rNegO (C : Addr) (sp : Sp) (E : XK) : V → Hp → VK → Prop := fun x H Q => ∃ a dx fs, x = .ref a ∧ H a = some (.ins C dx fs) ∧ sp [x] H Q E
theorem un_negO {E : XK} (hs : PySem.W.findIn X.K (.ref C) "__neg__" = some (some (.ref f))) (hf : PySem.W.isFn X.K (.ref f) = true) (F : FnOk X.prog X.w X.K X.mg X.base CX k f fd ps sp) (hr : Room k X.A) (hb : Binds X.K fd ps []) (hx : Passes CX X E) :
    UnR X (unaryOp .USub) (rNegO C sp E) := by
  intro pins s σ H x v Q I rx h
  obtain ⟨a, dx, fs, rfl, ha, q⟩ := h
  cases (show v = Value.ref a from rx)
  obtain ⟨od, J⟩ := inst_at I ha
  obtain ⟨mm, hF⟩ := I.fr
  exact PySem.W.ksp_neg hF I.ok.mod.kin J hs hf (run_fn (us := [.ref a]) (vs := [.ref a]) F hr hb .nil hx I (.cons rfl .nil) q)
/-- x == y, x of the class at C -/
def rEqO (K : PySem.W.Frag) (C : Addr) (sp : Sp) (E : XK) : R2 := fun x y H Q => ∃ a dx fs t, x = .ref a ∧ H a = some (.ins C dx fs) ∧ TyX K H y t ∧ PySem.W.notFirst K C t = true ∧ sp [x, y] H Q E
theorem op_eqO {E : XK} (hs : PySem.W.findIn X.K (.ref C) (cmpInfo .Eq).2.1 = some (some (.ref f))) (hf : PySem.W.isFn X.K (.ref f) = true) (F : FnOk X.prog X.w X.K X.mg X.base CX k f fd ps sp) (hr : Room k X.A) (hb : Binds X.K fd ps []) (hx : Passes CX X E) :
    OpR X (compareOp .Eq) (rEqO X.K C sp E) := by
  intro pins s σ H x y v u Q I rx ry h
  obtain ⟨a, dx, fs, t, rfl, ha, hy, hn, q⟩ := h
  cases (show v = Value.ref a from rx)
  obtain ⟨od, J⟩ := inst_at I ha
  obtain ⟨mm, hF⟩ := I.fr
  obtain ⟨Pk, kx, hP, _⟩ := kit_of I ry hy
  show wpAny _ _ (richCompare .Eq (.ref a) u) _ _ _
  refine PySem.W.cmp_K (op := .Eq) hr.units0 hF I.ok.mod.kin J (kx.ty _ _ I.kIn hP) hn hs hf ?_
  refine wpAny_mono (run_fn (us := [.ref a, u]) (vs := [.ref a, y]) F hr hb .nil hx I (.cons rfl (.cons ry .nil)) q) (fun w s' z => ?_) fun _ _ z => z
  obtain ⟨z', H', I', rz, qz⟩ := z
  exact SlX.cmpback rz ⟨z', H', I', rz, qz⟩
/-- y in x, x of the class at C, its def handing back a bool -/
def rInO (C : Addr) (sp : Sp) (E : XK) : R2 := fun y x H Q => ∃ a dx fs, x = .ref a ∧ H a = some (.ins C dx fs) ∧ sp [x, y] H (fun z H' => ∃ b, z = .bl b ∧ Q z H') E
theorem op_inO {E : XK} (hs : PySem.W.findIn X.K (.ref C) "__contains__" = some (some (.ref f))) (hf : PySem.W.isFn X.K (.ref f) = true) (F : FnOk X.prog X.w X.K X.mg X.base CX k f fd ps sp) (hr : Room k X.A) (hb : Binds X.K fd ps []) (hx : Passes CX X E) :
    OpR X (compareOp .In) (rInO C sp E) := by
  intro pins s σ H y x u v Q I ry rx h
  obtain ⟨a, dx, fs, rfl, ha, q⟩ := h
  cases (show v = Value.ref a from rx)
  obtain ⟨od, J⟩ := inst_at I ha
  obtain ⟨mm, hF⟩ := I.fr
  refine PySem.W.in_K hF I.ok.mod.kin J hs hf ?_
  refine wpAny_mono (run_fn (us := [.ref a, u]) (vs := [.ref a, y]) F hr hb .nil hx I (.cons rfl (.cons ry .nil)) q) (fun w s' z => ?_) fun _ _ z => z
  obtain ⟨z', H', I', rz, b, ez, qz⟩ := z
  subst ez
  cases (show w = Value.bool b from rz)
  exact wpAny_truthy_bool ⟨.bl b, H', I', rfl, qz⟩
end
/-! ### exceptions: the __init__ of the common class, of a class with one field, with two -/
section
variable {P : Program} {w : World} {K : PySem.W.Frag} {mg : Str → Option Value} {base : Heap}
def spSurvey (K : PySem.W.Frag) : Sp := fun vs H Q _ => ∃ (a C : Addr) (v : V), vs = [.ref a, v] ∧ OexC K C ∧ H a = some (exo a C none) ∧ Q .non H
def spErr1 (C : Addr) (f : Str) : Sp := fun vs H Q _ => ∃ (a : Addr) (v : V), vs = [.ref a, v] ∧ H a = some (exo a C none) ∧ ∀ dx, H dx = none → dx ≠ a → Q .non (upd (upd H dx (exd dx [(f, v)])) a (exo a C (some dx)))
def spErr2 (C : Addr) (f g : Str) : Sp := fun vs H Q _ => ∃ (a : Addr) (v u : V), vs = [.ref a, v, u] ∧ H a = some (exo a C none) ∧ ∀ dx H', H dx = none → dx ≠ a → (∀ b, b ≠ a → b ≠ dx → H' b = H b) → H' a = some (exo a C (some dx)) → H' dx = some (exd dx [(g, u), (f, v)]) → Q .non H'
/-- the heap behind a raise: the exception is gone, its dict stays -/
theorem same_gone {H H2 : Hp} {a d : Addr} {fs : List (Str × V)} (na : H a = none) (nd : H d = none) (k : ∀ b, b ≠ a → b ≠ d → H2 b = H b) : Same H (upd (del H2 a) d (.xd fs)) := fun b o e => by
  have h1 : b ≠ d := ne_of_none e nd
  have h2 : b ≠ a := ne_of_none e na
  rw [upd_ne h1, del_ne h2, k b h2 h1]
  exact e
theorem mk_err1 {C : Addr} {f : Str} {Q : XK} {v : V} {H1 : Hp} (h : ∀ (d : Addr) (H' : Hp), Same H1 H' → H1 d = none → H' d = some (.xd [(f, v)]) → Q (.ref C) (some d) H') :
    ([v] : List V).length ≤ 1000 ∧ ∀ a, H1 a = none → spErr1 C f (.ref a :: ([v] ++ [])) (upd H1 a (exo a C none)) (fun z H2 => z = .non ∧ ∃ (d : Addr) (fs : List (Str × V)), H2 a = some (exo a C (some d)) ∧ H2 d = some (exd d fs) ∧ H1 d = none ∧ Q (.ref C) (some d) (upd (del H2 a) d (.xd fs))) (fun _ _ _ => False) := by
  refine ⟨by show 1 ≤ 1000; decide, fun a na => ⟨a, v, rfl, upd_same, fun dx ndx ne => ⟨rfl, dx, [(f, v)], upd_same, ?_, ?_, ?_⟩⟩⟩
  · rw [upd_ne ne, upd_same]
  · rw [upd_ne ne] at ndx
    exact ndx
  · rw [upd_ne ne] at ndx
    refine h dx _ (same_gone na ndx fun b h1 h2 => ?_) ndx upd_same
    rw [upd_ne h1, upd_ne h2, upd_ne h1]
theorem mk_err2 {C : Addr} {f g : Str} {Q : XK} {v u : V} {H1 : Hp} (h : ∀ (d : Addr) (H' : Hp), Same H1 H' → H1 d = none → H' d = some (.xd [(g, u), (f, v)]) → Q (.ref C) (some d) H') :
    ([v, u] : List V).length ≤ 1000 ∧ ∀ a, H1 a = none → spErr2 C f g (.ref a :: ([v, u] ++ [])) (upd H1 a (exo a C none)) (fun z H2 => z = .non ∧ ∃ (d : Addr) (fs : List (Str × V)), H2 a = some (exo a C (some d)) ∧ H2 d = some (exd d fs) ∧ H1 d = none ∧ Q (.ref C) (some d) (upd (del H2 a) d (.xd fs))) (fun _ _ _ => False) := by
  refine ⟨by show 2 ≤ 1000; decide, fun a na => ⟨a, v, u, rfl, upd_same, fun dx H' ndx ne keep ea ed => ⟨rfl, dx, [(g, u), (f, v)], ea, ed, ?_, ?_⟩⟩⟩
  · rw [upd_ne ne] at ndx
    exact ndx
  · rw [upd_ne ne] at ndx
    refine h dx _ (same_gone na ndx fun b h1 h2 => ?_) ndx upd_same
    rw [keep b h1 h2, upd_ne h1]
end
end L9

/-! try .. except X as n: .. except Y as n: .. (several clauses, each with the name in the same slot) -/
namespace L9
open PySem PySem.Spec PyProof.Rows L2

/-- one clause: the class that it names, what its suite does -/
abbrev Clause := Value × (Addr → Value → Option Addr → TS)
/-- what lies behind a suite that had the exception in slot i: the slot is empty again -/
def gone (i : Nat) (D : Ends) : Ends := { nx := fun τ G => D.nx (τ.set i none) G, rt := D.rt, bk := fun τ G => D.bk (τ.set i none) G, ct := fun τ G => D.ct (τ.set i none) G }
/-- what the clauses wish of an exception of the body, one behind the other -/
def wAll (K : PySem.W.Frag) (i : Nat) (out : WX) (D : Ends) : List Clause → WX
  | [] => out
  | c :: r => fun cls d τ G => ∃ b, PySem.W.exmOne K cls c.1 = some b ∧ (b = true → ∀ a, G a = none → c.2 a cls d (gone i D) (τ.set i (some (.ref a))) G) ∧ (b = false → wAll K i out D r cls d τ G)
/-- the suites hold -/
inductive Clauses (X : Cx) (n : Str) : List ExceptHandler → List Clause → Prop
  | nil : Clauses X n [] []
  | cons {x : Str} {c : Value} {ts : Addr → Value → Option Addr → TS} {b0 : Stmt} {bs : List Stmt} {q1 q2 : Pos} {hs : List ExceptHandler} {l : List Clause} (hc : Names X x c)
      (hb : ∀ (a : Addr) (oe : Obj) (cls : Value) (d : Option Addr) (pn : List (Addr × Obj)), Zc cls d oe → (∃ vs, oe.data = .fields vs) → PSs (X.suite a ((a, oe) :: pn)) (b0 :: bs) (ts a cls d)) (r : Clauses X n hs l) :
      Clauses X n (.ExceptHandler (some (.Name x q1)) (some n) (b0 :: bs) q2 :: hs) ((c, ts) :: l)
section
variable {X : Cx} {n : Str} {i : Nat}
theorem ps_try_all {body : List Stmt} {h0 : ExceptHandler} {hs : List ExceptHandler} {l : List Clause} {pos : Pos} {tb : WX → TS} {out : WX} (st : X.stack = X.env :: X.outer) (fr : X.env.frame = some X.env.locals) (nd : X.N.Nodup) (hi : X.N[i]? = some n)
    (hn : X.env.kindOf n = some .local) (tk : Takes X out) (hb : ∀ (W : WX) (pn : List (Addr × Obj)) (xe : Value → Shared → Prop), Takes (X.tr pn xe) W → PassesOwn (model X.prog X.w) X.A X.env xe → PSs (X.tr pn xe) body (tb W)) (hh : Clauses X n (h0 :: hs) l) :
    PS X (.Try body (h0 :: hs) [] [] pos) (fun D σ H => tb (wAll X.K i out D l) D σ H) := by
  refine ⟨fun pins s σ H D I h => ?_⟩
  have ok := I.ok
  have frs' : X.A.frames = some (X.env :: X.outer) := by rw [ok.frames, st]
  refine wpAny_Try_except ?_
  refine wpAny_mono ((hb (wAll X.K i out D l) (X.pn ++ pins) _ (fun u s' air => ?_) PassesOwn.looking).run [] s σ H D (I.toTry _) h) (fun f s1 z => ?_) (fun _ _ z => z)
  · obtain ⟨a, B, sI, pins2, τ, G, cls, d, rfl, J0, nb, up, sky, na, os, ag, wish⟩ := air
    have J : Inv X pins τ G sI := J0.ofTry ok
    rw [st] at sky
    show wpAny (model X.prog X.w) X.A (noteFrame (.ref a) X.env) _ _ _
    refine Sky.land Zc.steady frs' fr sky fun hA flA upA => ?_
    have JA : Inv X pins τ G { s' with heap := hA } := J.landed nb flA.1 (up.trans upA) os ag
    obtain ⟨oA, vA, eA, zA, dA⟩ := flA.there
    have apart : a ∉ frs (X.env :: X.outer) := fun hm => by
      obtain ⟨_, o2, e2, nf⟩ := flA.2.2.1.mem hm
      rw [eA] at e2
      cases e2
      exact nf _ dA
    have aL : a ≠ X.env.locals := fun z => apart (List.mem_filterMap.mpr ⟨X.env, List.mem_cons_self, by rw [fr, z]⟩)
    have aF : a ∉ X.fs := fun hm => by
      obtain ⟨en, m1, m2⟩ := List.mem_filterMap.mp hm
      exact apart (List.mem_filterMap.mpr ⟨en, List.mem_cons_of_mem _ m1, m2⟩)
    have SA := JA.suite eA dA na aL aF
    have each : ∀ {ks : List ExceptHandler} {m : List Clause}, Clauses X n ks m → wAll X.K i out D m cls d τ G → wpAny (model X.prog X.w) X.A (handleBy (.ref a) X.env ks) (SP X pins D) X.xe { s' with heap := hA } := by
      intro ks m hk
      induction hk with
      | nil =>
        intro w
        refine wpAny_handleBy_nil ?_
        obtain ⟨_, _, _, oe, vs, T, oT, us, he, hz, hd, h1, hr⟩ := id flA
        unfold PySem.passOn
        refine wpAny_bind (wpAny_field he hd h1 ?_)
        rw [if_neg (by simp)]
        have fin : wpAny (model X.prog X.w) X.A (setFlight (.ref a) X.env.frame) (fun _ s4 => wpAny (model X.prog X.w) X.A (throw (.ref a) : Sem Flow) (SP X pins D) X.xe s4) X.xe { s' with heap := hA } := by
          rw [fr]
          refine HandSPX.setFlight_upZ flA fun hB hhB upB => wpAny_throw (tk _ _ ?_)
          refine ⟨a, B, sI, pins, τ, G, cls, d, rfl, J, nb, (up.trans upA).trans upB, ?_, na, os, ag, w⟩
          rw [st]
          exact .inr (.inr hhB)
        first
          | exact wpAny_bind (wpAny_pure (wpAny_bind fin))
          | exact wpAny_bind fin
      | @cons x c ts b0 bs q1 q2 ks2 m2 hc hbody r ih =>
        intro w
        obtain ⟨b, e1, yes, no⟩ := w
        refine wpAny_handleBy_cons (codeAny_handlers_test ?_) (by intro q; cases q)
        have tyA : PySem.W.Looks (model X.prog X.w) hA (typeOf (.ref a)) cls := fun A Q E s k q => wpAny_typeOf_ref (k _ _ eA) (by rw [zA.1]; exact q)
        have ans := PySem.W.exm_one (M := model X.prog X.w) (JA.kIn) tyA e1
        have named : ∀ {Q : Value → Shared → Prop} {E : Value → Shared → Prop}, Q c { s' with heap := hA } → wpAny (model X.prog X.w) (X.A.mark (some (.ref a))) (eval (.Name x q1) X.env) Q E { s' with heap := hA } := by
          intro Q E q
          obtain ⟨g1, g2, g3 | ⟨g3, g4, g5⟩⟩ := hc
          · exact ld_glob (X := X.suite a ((a, oA) :: (X.pn ++ pins))) SA g1 g3 q g2
          · exact ld_blt (X := X.suite a ((a, oA) :: (X.pn ++ pins))) SA g1 g3 g4 q g5 g2
        refine named (ans.here ?_)
        cases b with
        | false => exact ih (no rfl)
        | true =>
          refine codeAny_handlers_suite_as ?_
          refine HandSPX.lands_againZ flA fun hC flC upC => ?_
          have JC : Inv X pins τ G { s' with heap := hC } := J.landed nb flC.1 ((up.trans upA).trans upC) os ag
          obtain ⟨oC, vC, eC, zC, dC⟩ := flC.there
          have SC := JC.suite eC dC na aL aF
          refine store_ok (X := X.suite a ((a, oC) :: (X.pn ++ pins))) (v := .ref a) SC nd hi (.inl hn) rfl (fun sD SD => ?_) (.inr hn)
          refine wpAny_mono ((hbody a oC cls d (X.pn ++ pins) zC ⟨_, dC⟩).run [] sD _ G _ SD (yes rfl a na)) (fun f sE hE => ?_) (fun _ _ z => z.elim)
          have over : ∀ {τ6 : L2.St} {G6 : Hp} {Q : Shared → Prop}, Inv (X.suite a ((a, oC) :: (X.pn ++ pins))) [] τ6 G6 sE → (∀ sF, Inv X pins (τ6.set i none) G6 sF → Q sF) →
              wpAny (model X.prog X.w) X.A (do bindName X.env n .none; unbindBehindTheSuite X.env n q2) (fun _ sF => Q sF) X.xe sE := fun S6 hq => gone_ok (S6.unsuite ok) nd hi hn hq
          cases f with
          | next => obtain ⟨τ6, G6, S6, z6⟩ := hE; exact over S6 fun sF JF => ⟨_, _, JF, z6⟩
          | brk => obtain ⟨τ6, G6, S6, z6⟩ := hE; exact over S6 fun sF JF => ⟨_, _, JF, z6⟩
          | cont => obtain ⟨τ6, G6, S6, z6⟩ := hE; exact over S6 fun sF JF => ⟨_, _, JF, z6⟩
          | ret u => obtain ⟨v6, τ6, G6, S6, r6, z6⟩ := hE; exact over S6 fun sF JF => ⟨_, _, _, JF, r6, z6⟩
    exact each hh wish
  · cases f with
    | next => obtain ⟨τ, G, J, q⟩ := z; exact wpAny_execs_nil ⟨τ, G, J.ofTry ok, q⟩
    | brk => obtain ⟨τ, G, J, q⟩ := z; exact ⟨τ, G, J.ofTry ok, q⟩
    | cont => obtain ⟨τ, G, J, q⟩ := z; exact ⟨τ, G, J.ofTry ok, q⟩
    | ret u => obtain ⟨v, τ, G, J, r, q⟩ := z; exact ⟨v, τ, G, J.ofTry ok, r, q⟩
end
end L9

/-! Bounds: what holds of them, and the promises of their methods -/
namespace L9
open PySem PySem.Spec PyProof.Rows L2
/-- an own exception class x at C, its __init__ at f -/
structure ErrT (K : PySem.W.Frag) (mg : Str → Option Value) (x : Str) (C f : Addr) : Prop where
  g : mg x = some (.ref C)
  oe : OexC K C
  iC : PySem.W.findIn K (.ref C) "__init__" = some (some (.ref f))
  tI : PySem.W.typeIn K (.ref f) = some (.type "function")
  xf : XfC K C
/-- the common class at CS, its __init__ at fS -/
structure SurT (K : PySem.W.Frag) (mg : Str → Option Value) (CS fS : Addr) (mS : Value) : Prop where
  g : mg "SurveyError" = some (.ref CS)
  rd : ClX.CRead K CS mS
  vl : ClX.CVal K CS mS "__init__" (.ref fS) (.ref fS)
  kp : PySem.W.keepIn K (.ref fS) = true
  ve : mg "ValueError" = none
  vf : PySem.W.findCls K (.type "ValueError") (.type "type") "__init__" = some (.val (.builtin "ValueError.__init__"))
/-- the class Bounds at C, its __init__ at f -/
structure BndT (K : PySem.W.Frag) (mg : Str → Option Value) (C f : Addr) : Prop where
  g : mg "Bounds" = some (.ref C)
  cl : Cls K C
  mkk : Mk K C f
  nl : NoAttr K C "low"
  nh : NoAttr K C "high"
  ca : PySem.W.findIn K (.ref C) "__class__" = some (some (.builtin "object.__class__"))
  cn : PySem.W.specialIn K (.builtin "object.__class__") "__get__" = some (some (.builtin "getset_descriptor.__get__"))
  ct : PySem.W.takesIn K (.builtin "object.__class__") = some true
  cm : PySem.W.mroIn K C (.type "object") = some true
  sf : PySem.W.selfFirst K C = true
  kb : PySem.W.kitOne K (.ref C) (.ref C) = some true
def bf (l h : Int) : List (Str × V) := [(("low" : Str), .int l), (("high" : Str), .int h)]
theorem bf_low (l h : Int) : (bf l h).lookup ("low" : Str) = some (.int l) := rfl
theorem bf_high (l h : Int) : (bf l h).lookup ("high" : Str) = some (.int h) := by
  unfold bf
  rw [List.lookup_cons, show (("high" : Str) == ("low" : Str)) = false by decide +kernel]
  rfl
theorem bf_no {l h : Int} {m : Str} (h1 : (m == ("low" : Str)) = false) (h2 : (m == ("high" : Str)) = false) : (bf l h).lookup m = none := by
  unfold bf
  rw [List.lookup_cons, h1]
  show ([(("high" : Str), V.int h)]).lookup m = none
  rw [List.lookup_cons, h2]
  rfl
/-- Bounds from l to h at p -/
def BndAt (C : Addr) (H : Hp) (p : Addr) (l h : Int) : Prop := ∃ dx, H p = some (.ins C dx (bf l h))
theorem BndAt.mono {C : Addr} {H H' : Hp} {p : Addr} {l h : Int} (s : Same H H') (b : BndAt C H p l h) : BndAt C H' p l h := by
  obtain ⟨dx, e⟩ := b
  exact ⟨dx, s _ _ e⟩
theorem BndAt.ty {K : PySem.W.Frag} {mg : Str → Option Value} {C f : Addr} (B : BndT K mg C f) {H : Hp} {p : Addr} {l h : Int} (b : BndAt C H p l h) : TyX K H (.ref p) (.ref C) := by
  obtain ⟨dx, e⟩ := b
  exact .base (.ins e B.cl B.ca B.cn B.ct B.cm)
/-- what making Bounds of two values does: it raises the first error that is due, or ok -/
def MakesB (K : PySem.W.Frag) (CH CB : Addr) (v1 v2 : V) (H : Hp) (E : XK) (ok : Int → Int → Prop) : Prop :=
  (NoH K H v1 ∧ ∀ d H', Same H H' → H d = none → H' d = some (.xd [(("value" : Str), v1)]) → E (.ref CH) (some d) H') ∨
  (∃ l, v1 = .int l ∧ heightB l = true ∧ NoH K H v2 ∧ ∀ d H', Same H H' → H d = none → H' d = some (.xd [(("value" : Str), v2)]) → E (.ref CH) (some d) H') ∨
  (∃ l h, v1 = .int l ∧ v2 = .int h ∧ heightB l = true ∧ heightB h = true ∧ h < l ∧ ∀ d H', Same H H' → H d = none → H' d = some (.xd [(("high" : Str), .int h), (("low" : Str), .int l)]) → E (.ref CB) (some d) H') ∨
  (∃ l h, v1 = .int l ∧ v2 = .int h ∧ heightB l = true ∧ heightB h = true ∧ l ≤ h ∧ ok l h)
def spInit (K : PySem.W.Frag) (C CH CB : Addr) : Sp := fun vs H Q E => ∃ (p dx : Addr) (v1 v2 : V), vs = [.ref p, v1, v2] ∧ H p = some (.ins C dx []) ∧ MakesB K CH CB v1 v2 H E (fun l h => Q .non (upd H p (.ins C dx (bf l h))))
/-- new Bounds, at y -/
theorem makes_at {K : PySem.W.Frag} {C CH CB y dy : Addr} {v1 v2 : V} {H : Hp} {R : VK} {E : XK} (m : MakesB K CH CB v1 v2 H E (fun l h => ∀ H', Same H H' → BndAt C H' y l h → R .non H')) (ny : H y = none) (nd : H dy = none) (ne : dy ≠ y) :
    spInit K C CH CB (.ref y :: [v1, v2]) (upd (upd H dy (.own y)) y (.ins C dy [])) R E := by
  have s1 : Same H (upd H dy (.own y)) := same_upd nd
  have ny1 : (upd H dy (.own y)) y = none := (upd_ne ne.symm).trans ny
  have s2 : Same H (upd (upd H dy (.own y)) y (.ins C dy [])) := s1.trans (same_upd ny1)
  refine ⟨y, dy, v1, v2, rfl, upd_same, ?_⟩
  rcases m with ⟨h1, h2⟩ | ⟨l, rfl, hl, h1, h2⟩ | ⟨l, h, rfl, rfl, hl, hh, hlt, h2⟩ | ⟨l, h, rfl, rfl, hl, hh, hle, h2⟩
  · exact .inl ⟨h1.mono s2, fun d H' s nd' e => h2 d H' (s2.trans s) (s2.free nd') e⟩
  · exact .inr (.inl ⟨l, rfl, hl, h1.mono s2, fun d H' s nd' e => h2 d H' (s2.trans s) (s2.free nd') e⟩)
  · exact .inr (.inr (.inl ⟨l, h, rfl, rfl, hl, hh, hlt, fun d H' s nd' e => h2 d H' (s2.trans s) (s2.free nd') e⟩))
  · refine .inr (.inr (.inr ⟨l, h, rfl, rfl, hl, hh, hle, ?_⟩))
    show R V.non (upd (upd (upd H dy (HO.own y)) y (HO.ins C dy [])) y (HO.ins C dy (bf l h)))
    rw [upd_upd]
    exact h2 _ (s1.trans (same_upd ny1)) ⟨dy, upd_same⟩
/-- Bounds of two heights in order -/
theorem makes_ok {K : PySem.W.Frag} {CH CB : Addr} {l h : Int} {H : Hp} {E : XK} {ok : Int → Int → Prop} (hl : heightB l = true) (hh : heightB h = true) (hle : l ≤ h) (q : ok l h) : MakesB K CH CB (.int l) (.int h) H E ok :=
  .inr (.inr (.inr ⟨l, h, rfl, rfl, hl, hh, hle, q⟩))
def spExact (K : PySem.W.Frag) (C CH : Addr) : Sp := fun vs H Q E => ∃ v : V, vs = [.ref C, v] ∧ ((NoH K H v ∧ ∀ d H', Same H H' → H d = none → H' d = some (.xd [(("value" : Str), v)]) → E (.ref CH) (some d) H') ∨
  (∃ l, v = .int l ∧ heightB l = true ∧ ∀ y H', Same H H' → H y = none → BndAt C H' y l l → Q (.ref y) H'))
def spWidth (C : Addr) : Sp := fun vs H Q _ => ∃ (p : Addr) (l h : Int), vs = [.ref p] ∧ BndAt C H p l h ∧ Q (.int (h - l)) H
def spHolds (C : Addr) : Sp := fun vs H Q _ => ∃ (p q : Addr) (l h l2 h2 : Int), vs = [.ref p, .ref q] ∧ BndAt C H p l h ∧ BndAt C H q l2 h2 ∧ Q (.bl (decide (l ≤ l2) && decide (h2 ≤ h))) H
def spCont (K : PySem.W.Frag) (C : Addr) : Sp := fun vs H Q _ => ∃ (p : Addr) (v : V) (l h : Int), vs = [.ref p, v] ∧ BndAt C H p l h ∧ ((∃ i, v = .int i ∧ Q (.bl (heightB i && (decide (l ≤ i) && decide (i ≤ h)))) H) ∨ (NoI K H v ∧ Q (.bl false) H))
def spEq (K : PySem.W.Frag) (C : Addr) : Sp := fun vs H Q _ => ∃ (p : Addr) (v : V) (l h : Int), vs = [.ref p, v] ∧ BndAt C H p l h ∧
  ((∃ q l2 h2, v = .ref q ∧ BndAt C H q l2 h2 ∧ Q (.bl (decide (l = l2) && decide (h = h2))) H) ∨ (∃ t, TyX K H v t ∧ PySem.W.kitOne K t (.ref C) = some false ∧ Q (.bl false) H))
def spAnd (C CC : Addr) : Sp := fun vs H Q E => ∃ (p q : Addr) (l h l2 h2 : Int), vs = [.ref p, .ref q] ∧ BndAt C H p l h ∧ BndAt C H q l2 h2 ∧ heightB l = true ∧ heightB h = true ∧ heightB l2 = true ∧ heightB h2 = true ∧
  (min h h2 < max l l2 → ∀ d H', Same H H' → H d = none → H' d = some (.xd [(("other" : Str), .ref q), (("one" : Str), .ref p)]) → E (.ref CC) (some d) H') ∧
  (max l l2 ≤ min h h2 → ∀ y H', Same H H' → H y = none → BndAt C H' y (max l l2) (min h h2) → Q (.ref y) H')
def spNeg (C : Addr) : Sp := fun vs H Q _ => ∃ (p : Addr) (l h : Int), vs = [.ref p] ∧ BndAt C H p l h ∧ heightB l = true ∧ heightB h = true ∧ l ≤ h ∧ ∀ y H', Same H H' → H y = none → BndAt C H' y (-h) (-l) → Q (.ref y) H'
theorem height_neg {i : Int} (h : heightB i = true) : heightB (-i) = true := by
  unfold heightB at h ⊢
  obtain ⟨h1, h2⟩ := Bool.and_eq_true_iff.mp h
  have h3 := of_decide_eq_true h1
  have h4 := of_decide_eq_true h2
  exact Bool.and_eq_true_iff.mpr ⟨decide_eq_true (by omega), decide_eq_true (by omega)⟩
theorem maxI (i j : Int) : (if j > i then j else i) = max i j := by
  rw [Int.max_def]
  split <;> split <;> omega
theorem minI (i j : Int) : (if j < i then j else i) = min i j := by
  rw [Int.min_def]
  split <;> split <;> omega
theorem height_max {i j : Int} (h : heightB i = true) (h2 : heightB j = true) : heightB (max i j) = true := by
  rw [Int.max_def]
  split
  · exact h2
  · exact h
theorem height_min {i j : Int} (h : heightB i = true) (h2 : heightB j = true) : heightB (min i j) = true := by
  rw [Int.min_def]
  split
  · exact h
  · exact h2
end L9

/-! Values as data: what == says of two values that hold the same -/
namespace L9
open PySem PySem.Spec PyProof.Rows L2
mutual
theorem eqv_self : ∀ d : PyData, d.canLay0 = true → PyData.eqv d d = true
  | .none, _ => by simp [PyData.eqv]
  | .bool b, _ => by simp [PyData.eqv]
  | .int i, _ => by simp [PyData.eqv]
  | .str x, _ => by simp [PyData.eqv]
  | .list xs, h => by
    have h2 : PyData.canLayAll0 xs = true := by simpa [PyData.canLay0] using h
    simpa [PyData.eqv] using eqv_selfAll xs h2
  | .tuple xs, h => by
    have h2 : PyData.canLayAll0 xs = true := by simpa [PyData.canLay0] using h
    simpa [PyData.eqv] using eqv_selfAll xs h2
  | .dict _, h => nomatch h
theorem eqv_selfAll : ∀ xs : List PyData, PyData.canLayAll0 xs = true → PyData.eqvAll xs xs = true
  | [], _ => by simp [PyData.eqvAll]
  | x :: xs, h => by
    have h2 : x.canLay0 = true ∧ PyData.canLayAll0 xs = true := by simpa [PyData.canLayAll0] using h
    simp [PyData.eqvAll, eqv_self x h2.1, eqv_selfAll xs h2.2]
end
/-- v holds the data d, at most n deep -/
structure Dat (K : PySem.W.Frag) (H : Hp) (n : Nat) (v : V) (d : PyData) : Prop where
  dp : Dp K H v d
  lay : d.canLay0 = true
  dep : d.depth ≤ n
structure DatAll (K : PySem.W.Frag) (H : Hp) (n : Nat) (vs : List V) (ds : List PyData) : Prop where
  dp : DpAll K H vs ds
  lay : PyData.canLayAll0 ds = true
  dep : PyData.depthAll ds ≤ n
section
variable {K : PySem.W.Frag} {H H' : Hp} {n : Nat} {v : V} {d : PyData} {vs : List V} {ds : List PyData}
theorem Dat.shaped (h : Dat K H n v d) (hn : n ≤ 64) : SeqAt.shaped d = true := by
  unfold SeqAt.shaped
  rw [h.lay, Bool.true_and]
  exact decide_eq_true (Nat.le_trans h.dep hn)
theorem dat_non : Dat K H n .non .none := ⟨.non, rfl, by simp [PyData.depth]⟩
theorem dat_bl {b : Bool} : Dat K H n (.bl b) (.bool b) := ⟨.bl b, rfl, by simp [PyData.depth]⟩
theorem dat_int {i : Int} : Dat K H n (.int i) (.int i) := ⟨.int i, rfl, by simp [PyData.depth]⟩
theorem dat_str {x : Str} (h : PyData.strOk x = true) : Dat K H n (.str x) (.str x) := ⟨.str x, by simpa [PyData.canLay0] using h, by simp [PyData.depth]⟩
theorem datAll_nil : DatAll K H n [] [] := ⟨.nil, by simp [PyData.canLayAll0], by simp [PyData.depthAll]⟩
theorem datAll_cons (h : Dat K H n v d) (hs : DatAll K H n vs ds) : DatAll K H n (v :: vs) (d :: ds) :=
  ⟨.cons h.dp hs.dp, by simp [PyData.canLayAll0, h.lay, hs.lay], by simp only [PyData.depthAll]; exact Nat.max_le.mpr ⟨h.dep, hs.dep⟩⟩
theorem dat_lst {p : Addr} (h : SqL K H p vs) (hs : DatAll K H n vs ds) : Dat K H (n + 1) (.ref p) (.list ds) :=
  ⟨.lst h hs.dp, by simpa [PyData.canLay0] using hs.lay, by simp only [PyData.depth]; exact Nat.succ_le_succ hs.dep⟩
theorem dat_tup {p : Addr} (h : SqT K H p vs) (hs : DatAll K H n vs ds) : Dat K H (n + 1) (.ref p) (.tuple ds) :=
  ⟨.tup h hs.dp, by simpa [PyData.canLay0] using hs.lay, by simp only [PyData.depth]; exact Nat.succ_le_succ hs.dep⟩
theorem datAll_ints : ∀ l : List Int, DatAll K H n (l.map V.int) (l.map PyData.int)
  | [] => datAll_nil
  | i :: l => datAll_cons dat_int (datAll_ints l)
theorem Dat.mono {m : Nat} (h : Dat K H n v d) (hn : n ≤ m) : Dat K H m v d := ⟨h.dp, h.lay, Nat.le_trans h.dep hn⟩
/-- == of two values that hold the same -/
theorem eq_same {u : V} {Q : VK} (h : Dat K H n v d) (h2 : Dat K H n u d) (hn : n ≤ 64) (q : Q (.bl true) H) : rEqD K v u H Q := by
  refine ⟨d, d, h.dp, h2.dp, h.shaped hn, h.shaped hn, ?_⟩
  rw [eqv_self d h.lay]
  exact q
theorem ne_same {u : V} {Q : VK} (h : Dat K H n v d) (h2 : Dat K H n u d) (hn : n ≤ 64) (q : Q (.bl false) H) : rNeD K v u H Q := by
  refine ⟨d, d, h.dp, h2.dp, h.shaped hn, h.shaped hn, ?_⟩
  rw [eqv_self d h.lay]
  exact q
theorem seqT {p : Addr} {xs : List V} (e : H p = some (.tup xs)) : SqT K H p xs := SqT.of e
end
mutual
theorem Dp.same {K : PySem.W.Frag} {H H' : Hp} (s : Same H H') : ∀ (d : PyData) (v : V), Dp K H v d → Dp K H' v d
  | .none, _, h => by cases h; exact .non
  | .bool b, _, h => by cases h; exact .bl b
  | .int i, _, h => by cases h; exact .int i
  | .str x, _, h => by cases h; exact .str x
  | .list ds, _, h => by
    cases h with
    | lst hs ha => exact .lst (s.seq hs) (DpAll.same s ds _ ha)
  | .tuple ds, _, h => by
    cases h with
    | tup hs ha =>
      refine .tup ?_ (DpAll.same s ds _ ha)
      rcases hs with (hs | ⟨o, hs⟩) | hs
      · exact .inl (.inl (s _ _ hs))
      · exact .inl (.inr ⟨o, s _ _ hs⟩)
      · exact .inr hs
  | .dict _, _, h => by cases h
theorem DpAll.same {K : PySem.W.Frag} {H H' : Hp} (s : Same H H') : ∀ (ds : List PyData) (vs : List V), DpAll K H vs ds → DpAll K H' vs ds
  | [], _, h => by cases h; exact .nil
  | d :: ds, _, h => by
    cases h with
    | cons h1 h2 => exact .cons (Dp.same s d _ h1) (DpAll.same s ds _ h2)
end
theorem Dat.same {K : PySem.W.Frag} {H H' : Hp} {n : Nat} {v : V} {d : PyData} (h : Dat K H n v d) (s : Same H H') : Dat K H' n v d := ⟨Dp.same s d v h.dp, h.lay, h.dep⟩
/-- two new lists of the same ints -/
theorem ne_ints {K : PySem.W.Frag} {H : Hp} {p q : Addr} {Q : VK} (xs : List Int) (np : H p = none) (nq : (upd H p (.lst (xs.map V.int))) q = none) (h : ∀ H', Same H H' → Q (.bl false) H') :
    rNeD K (.ref p) (.ref q) (upd (upd H p (.lst (xs.map V.int))) q (.lst (xs.map V.int))) Q := by
  have s1 : Same H (upd H p (.lst (xs.map V.int))) := same_upd np
  have e1 : (upd H p (.lst (xs.map V.int))) p = some (.lst (xs.map V.int)) := upd_same
  exact ne_same (n := 1) (dat_lst (SqL.of (same_upd nq _ _ e1)) (datAll_ints xs)) (dat_lst (SqL.of upd_same) (datAll_ints xs)) (by decide) (h _ (s1.trans (same_upd nq)))
theorem eqv2 (a b c d : Int) : PyData.eqv (.tuple [.int a, .int b]) (.tuple [.int c, .int d]) = (decide (a = c) && decide (b = d)) := by
  simp only [PyData.eqv, PyData.eqvAll, Bool.and_true]
  rfl
/-- two new pairs of ints -/
theorem eq_pairs {K : PySem.W.Frag} {H : Hp} {p q : Addr} {Q : VK} (a b c d : Int) (np : H p = none) (nq : (upd H p (.tup [.int a, .int b])) q = none) (h : ∀ H', Same H H' → Q (.bl (decide (a = c) && decide (b = d))) H') :
    rEqD K (.ref p) (.ref q) (upd (upd H p (.tup [.int a, .int b])) q (.tup [.int c, .int d])) Q := by
  have s1 : Same H (upd H p (.tup [.int a, .int b])) := same_upd np
  have e1 : (upd H p (.tup [.int a, .int b])) p = some (.tup [.int a, .int b]) := upd_same
  have d1 : Dat K (upd (upd H p (.tup [.int a, .int b])) q (.tup [.int c, .int d])) 1 (.ref p) (.tuple [.int a, .int b]) := dat_tup (SqT.of (same_upd nq _ _ e1)) (datAll_ints [a, b])
  have d2 : Dat K (upd (upd H p (.tup [.int a, .int b])) q (.tup [.int c, .int d])) 1 (.ref q) (.tuple [.int c, .int d]) := dat_tup (SqT.of upd_same) (datAll_ints [c, d])
  refine ⟨_, _, d1.dp, d2.dp, d1.shaped (by decide), d2.shaped (by decide), ?_⟩
  rw [eqv2]
  exact h _ (s1.trans (same_upd nq))
/-- within bounds that are heights: a height -/
theorem within_height {a b m : Int} (ha : heightB a = true) (hb : heightB b = true) : (heightB m && (decide (a ≤ m) && decide (m ≤ b))) = (decide (a ≤ m) && decide (m ≤ b)) := by
  cases e1 : decide (a ≤ m) with
  | false => rw [Bool.false_and, Bool.and_false]
  | true =>
    cases e2 : decide (m ≤ b) with
    | false => rw [Bool.and_false, Bool.and_false]
    | true =>
      have h1 := of_decide_eq_true e1
      have h2 := of_decide_eq_true e2
      unfold heightB at ha hb ⊢
      obtain ⟨h3, _⟩ := Bool.and_eq_true_iff.mp ha
      obtain ⟨_, h4⟩ := Bool.and_eq_true_iff.mp hb
      have h5 := of_decide_eq_true h3
      have h6 := of_decide_eq_true h4
      rw [decide_eq_true (show -MH ≤ m by omega), decide_eq_true (show m ≤ MH by omega)]
      rfl
end L9

/-! own o[k]; d.update(e); typed data: sorted, min, ==, in -/
namespace L9
open PySem PySem.Spec PyProof.Rows L2

section
variable {X : Cx} {CX : CXT} {k : Nat} {C f : Addr} {fd : FuncData} {ps : List Str} {sp : Sp} {pos : Pos} {a b : Expr} {ta tb : TE}
theorem run_fn1 {E : XK} {pins : List (Addr × Obj)} {σ : L2.St} {H : Hp} {s : Shared} {Q : VK} {us : List Value} {vs : List V} (F : FnOk X.prog X.w X.K X.mg X.base CX k f fd ps sp) (hr : Room (k + 1) X.A) (hb : Binds X.K fd ps []) (hx : Passes CX X E)
    (I : Inv X pins σ H s) (r : Vals vs us) (h : sp vs H Q E) : wpAny (model X.prog X.w) X.A.in1 (call (.ref f) us) (EP X pins σ Q) X.xe s := by
  have r2 : Vals vs (us ++ []) := by rwa [List.append_nil]
  have hl : (us ++ []).length = ps.length := by rw [← r2.length]; exact F.len _ _ _ _ h
  refine wpAny_call (codeAny_mono (F.run X.A.in1 X.stack s H ⟨us, []⟩ (us ++ []) vs Q E hr.in1 I.env0.in1 (hb s us I.kIn hl) r2 h) fun r s' hq => ?_)
  cases r with
  | error e => exact hx pins σ H s e s' I hq
  | ok fl =>
    cases fl with
    | ret u => exact I.after hq
    | next => exact False.elim hq
    | brk => exact False.elim hq
    | cont => exact False.elim hq
/-- o[i] by the class's own __getitem__ -/
def tSubO (C : Addr) (sp : Sp) (E : XK) (ta tb : TE) : TE := fun σ H Q => ta σ H fun x H1 => tb σ H1 fun y H2 => ∃ a dx fs, x = .ref a ∧ H2 a = some (.ins C dx fs) ∧ sp [x, y] H2 Q E
theorem pe_subO {E : XK} (hs : PySem.W.findIn X.K (.ref C) "__getitem__" = some (some (.ref f))) (hf : PySem.W.fnIn X.K f = true) (hfn : PySem.W.isFn X.K (.ref f) = true) (F : FnOk X.prog X.w X.K X.mg X.base CX k f fd ps sp) (hr : Room (k + 1) X.A)
    (hb : Binds X.K fd ps []) (hx : Passes CX X E) (ha : PE X a ta) (hb2 : PE X b tb) (hsl : ∀ (x : Addr) (i : Value), subscripted b true (.ref x) i = runValue (.builtin "lifetime.subscript" ⟨[.ref x, i], []⟩)) : PE X (.Subscript a b pos) (tSubO C sp E ta tb) := by
  refine ⟨fun pins s σ H Q I h => ?_⟩
  refine Subscript_ (binT ha hb2 I h fun v u s2 x y H2 I2 rx ry q => ?_)
  obtain ⟨p, dx, fs, rfl, hp, q⟩ := q
  cases (show v = Value.ref p from rx)
  obtain ⟨od, J⟩ := inst_at I2 hp
  obtain ⟨mm, hF⟩ := I2.fr
  exact PySem.W.sub_K hF I2.ok.mod.kin J hs hf hfn (run_fn1 (us := [.ref p, u]) (vs := [.ref p, y]) F hr hb hx I2 (.cons rfl (.cons ry .nil)) q) (hsl p u)
end
/-- d.update(e) -/
def rDUpd : V → List V → Hp → VK → Prop := fun x vs H Q => ∃ (a b : Addr) (kvs more : List (L2.Key × V)), x = .ref a ∧ vs = [.ref b] ∧ a ≠ b ∧ H a = some (.dK kvs) ∧ H b = some (.dK more) ∧ kvs.length + more.length ≤ sizeLine ∧ Q .non (upd H a (.dK (mergeK kvs more)))
theorem mtd_update {X : Cx} : MtR X "dict.update" rDUpd := by
  intro pins s σ H x vs v us Q I rx rv h
  obtain ⟨a, b, kvs, more, rfl, rfl, hab, ea, eb, hz, q⟩ := h
  obtain rfl : v = Value.ref a := rx
  obtain ⟨u, rfl, ru⟩ := vals1 rv
  obtain rfl : u = Value.ref b := ru
  obtain ⟨z, hd, ws, rel, dd⟩ := dk_of I.hok ea
  obtain ⟨z2, hd2, ws2, rel2, dd2⟩ := dk_of I.hok eb
  refine call_meetsIn PySem.F.slot_dict_update dd.typeIs PySem.F.entry_dict_update (PySem.F.args_dict_update_2 _ _) (meets_dict_update (mixKind X.prog X.w) a b hab hd2) ⟨ws, ws2, dd, dd2, by rw [← rel.length, ← rel2.length]; exact hz, fun h' dd' _ hs => ?_⟩
  have he : ∃ q, h'.get? a = some q := let ⟨q, _, _, hq, _⟩ := dd'; ⟨q, hq⟩
  exact ⟨.non, _, d_write (t' := s.toks) I (by rw [ea]; exact True.intro) hs he (dk_new (Nat.le_trans (length_mergeK more kvs) hz) hd (KV.merge rel2 rel) dd'), rfl, q⟩

/-! ### typed data -/
mutual
theorem reads_inj {h : Heap} : ∀ (d : PyData) (v : Value) (d' : PyData) (as as' : List Addr), d.plain = true → Reads h v d as → Reads h v d' as' → d = d'
  | .none, v, d', as, as', _, r1, r2 => by cases r1; cases r2; rfl
  | .bool _, v, d', as, as', _, r1, r2 => by cases r1; cases r2; rfl
  | .int _, v, d', as, as', _, r1, r2 => by cases r1; cases r2; rfl
  | .str _, v, d', as, as', _, r1, r2 => by cases r1; cases r2; rfl
  | .list ds, v, d', as, as', hp, r1, r2 => by
    have hp2 : PyData.plainAll ds = true := by simpa [PyData.plain] using hp
    cases r1 with
    | list h1 h2 h3 h4 =>
      cases r2 with
      | list k1 k2 k3 k4 =>
        rw [h1] at k1
        cases k1
        rw [h3] at k3
        cases k3
        rw [reads_injAll ds _ _ _ _ hp2 h4 k4]
      | tuple k1 k2 k3 k4 =>
        rw [h1] at k1
        cases k1
        rw [h2] at k2
        exact absurd (Value.type.inj k2) (by decide)
      | dict k1 k2 k3 k4 =>
        rw [h1] at k1
        cases k1
        rw [h2] at k2
        exact absurd (Value.type.inj k2) (by decide)
  | .tuple ds, v, d', as, as', hp, r1, r2 => by
    have hp2 : PyData.plainAll ds = true := by simpa [PyData.plain] using hp
    cases r1 with
    | tuple h1 h2 h3 h4 =>
      cases r2 with
      | tuple k1 k2 k3 k4 =>
        rw [h1] at k1
        cases k1
        rw [h3] at k3
        cases k3
        rw [reads_injAll ds _ _ _ _ hp2 h4 k4]
      | list k1 k2 k3 k4 =>
        rw [h1] at k1
        cases k1
        rw [h2] at k2
        exact absurd (Value.type.inj k2) (by decide)
      | dict k1 k2 k3 k4 =>
        rw [h1] at k1
        cases k1
        rw [h2] at k2
        exact absurd (Value.type.inj k2) (by decide)
  | .dict _, v, d', as, as', hp, _, _ => absurd hp (by simp [PyData.plain])
theorem reads_injAll {h : Heap} : ∀ (ds : List PyData) (vs : List Value) (ds' : List PyData) (as as' : List Addr), PyData.plainAll ds = true → ReadsAll h vs ds as → ReadsAll h vs ds' as' → ds = ds'
  | [], vs, ds', as, as', _, r1, r2 => by cases r1; cases r2; rfl
  | d :: ds, vs, ds', as, as', hp, r1, r2 => by
    have hp2 : d.plain = true ∧ PyData.plainAll ds = true := by simpa [PyData.plainAll] using hp
    cases r1 with
    | cons h1 h2 =>
      cases r2 with
      | cons k1 k2 => rw [reads_inj d _ _ _ _ hp2.1 h1 k1, reads_injAll ds _ _ _ _ hp2.2 h2 k2]
end
theorem vals_at : ∀ {xs : List V} {us : List Value} {i : Nat} {u : Value}, Vals xs us → us[i]? = some u → ∃ x, xs[i]? = some x ∧ RelV x u
  | _, _, 0, u, .cons r _, e => by
    cases e
    exact ⟨_, rfl, r⟩
  | _, _, i + 1, u, .cons _ rs, e => vals_at (i := i) rs e
section
variable {K : PySem.W.Frag} {H : Hp} {α : Type} [DecidableEq α] [PySem.W.Datum α]
/-- v holds x -/
def Hd (K : PySem.W.Frag) (H : Hp) (v : V) (x : α) : Prop := Dp K H v (PySem.W.Datum.toD x)
/-- item by item -/
def HdAll (K : PySem.W.Frag) (H : Hp) : List V → List α → Prop
  | [], [] => True
  | v :: vs, x :: xs => Hd K H v x ∧ HdAll K H vs xs
  | _, _ => False
theorem HdAll.dp : ∀ {vs : List V} {xs : List α}, HdAll K H vs xs → DpAll K H vs (xs.map PySem.W.Datum.toD)
  | [], [], _ => .nil
  | _ :: _, _ :: _, h => .cons h.1 h.2.dp
  | [], _ :: _, h => h.elim
  | _ :: _, [], h => h.elim
theorem HdAll.length : ∀ {vs : List V} {xs : List α}, HdAll K H vs xs → vs.length = xs.length
  | [], [], _ => rfl
  | _ :: _, _ :: _, h => by rw [List.length_cons, List.length_cons, h.2.length]
  | [], _ :: _, h => h.elim
  | _ :: _, [], h => h.elim
theorem HdAll.mono {H' : Hp} (s : Same H H') : ∀ {vs : List V} {xs : List α}, HdAll K H vs xs → HdAll K H' vs xs
  | [], [], _ => trivial
  | _ :: _, _ :: _, h => ⟨Dp.same s _ _ h.1, h.2.mono s⟩
  | [], _ :: _, h => h.elim
  | _ :: _, [], h => h.elim
theorem HdAll.app : ∀ {vs us : List V} {xs ys : List α}, HdAll K H vs xs → HdAll K H us ys → HdAll K H (vs ++ us) (xs ++ ys)
  | [], _, [], _, _, h2 => h2
  | _ :: _, _, _ :: _, _, h, h2 => ⟨h.1, HdAll.app h.2 h2⟩
  | [], _, _ :: _, _, h, _ => h.elim
  | _ :: _, _, [], _, h, _ => h.elim
theorem HdAll.get : ∀ {vs : List V} {xs : List α} {i : Nat} {v : V}, HdAll K H vs xs → vs[i]? = some v → ∃ x, xs[i]? = some x ∧ Hd K H v x
  | _ :: _, x :: _, 0, v, h, e => by
    cases e
    exact ⟨x, rfl, h.1⟩
  | _ :: _, _ :: _, i + 1, v, h, e => HdAll.get (i := i) h.2 e
  | [], [], _, _, _, e => nomatch e
  | [], _ :: _, _, _, h, _ => h.elim
  | _ :: _, [], _, _, h, _ => h.elim
theorem hd_strs : ∀ l : List Str, HdAll K H (l.map V.str) l
  | [] => trivial
  | x :: l => ⟨.str x, hd_strs l⟩
theorem hd_ints : ∀ l : List Int, HdAll K H (l.map V.int) l
  | [] => trivial
  | x :: l => ⟨.int x, hd_ints l⟩
theorem hd_list {p : Addr} {vs : List V} {xs : List α} (h : SqL K H p vs) (hs : HdAll K H vs xs) : Hd K H (.ref p) xs := .lst h hs.dp
theorem hd_pair {β : Type} [DecidableEq β] [PySem.W.Datum β] {p : Addr} {v u : V} {x : α} {y : β} (h : SqT K H p [v, u]) (h1 : Hd K H v x) (h2 : Hd K H u y) : Hd K H (.ref p) (x, y) := .tup h (.cons h1 (.cons h2 .nil))
end
section
variable {X : Cx} {α : Type} [DecidableEq α]
/-- x == y of data of the one type -/
def rEqT (α : Type) [DecidableEq α] [PySem.W.Datum α] (K : PySem.W.Frag) : R2 := fun v u H Q => ∃ x y : α, Hd K H v x ∧ Hd K H u y ∧ Q (.bl (decide (x = y))) H
def rNeT (α : Type) [DecidableEq α] [PySem.W.Datum α] (K : PySem.W.Frag) : R2 := fun v u H Q => ∃ x y : α, Hd K H v x ∧ Hd K H u y ∧ Q (.bl (decide (x ≠ y))) H
theorem op_eqT [PySem.W.Datum α] (hu : X.A.units + PySem.W.Datum.depth α < cLine) : OpR X (compareOp .Eq) (rEqT α X.K) := by
  intro pins s σ H v u v' u' Q I rv ru h
  obtain ⟨x, y, h1, h2, q⟩ := h
  exact PySem.W.eq_datum (Dp.reads I _ _ _ h1 rv) (Dp.reads I _ _ _ h2 ru) hu ⟨.bl _, H, I, rfl, q⟩
theorem op_neT [PySem.W.Datum α] (hu : X.A.units + PySem.W.Datum.depth α < cLine) : OpR X (compareOp .NotEq) (rNeT α X.K) := by
  intro pins s σ H v u v' u' Q I rv ru h
  obtain ⟨x, y, h1, h2, q⟩ := h
  exact PySem.W.ne_datum (Dp.reads I _ _ _ h1 rv) (Dp.reads I _ _ _ h2 ru) hu ⟨.bl _, H, I, rfl, q⟩
/-- x in xs, a list of data of the one type -/
def rInT (α : Type) [DecidableEq α] [PySem.W.Datum α] (K : PySem.W.Frag) : R2 := fun v u H Q => ∃ (x : α) (xs : List α) (p : Addr) (vs : List V), u = .ref p ∧ SqL K H p vs ∧ HdAll K H vs xs ∧ Hd K H v x ∧ Q (.bl (decide (x ∈ xs))) H
def rNotInT (α : Type) [DecidableEq α] [PySem.W.Datum α] (K : PySem.W.Frag) : R2 := fun v u H Q => ∃ (x : α) (xs : List α) (p : Addr) (vs : List V), u = .ref p ∧ SqL K H p vs ∧ HdAll K H vs xs ∧ Hd K H v x ∧ Q (.bl (decide (x ∉ xs))) H
theorem op_inT [PySem.W.Datum α] (hu : X.A.units + 1 + PySem.W.Datum.depth α < cLine) : OpR X (compareOp .In) (rInT α X.K) := by
  intro pins s σ H v u v' u' Q I rv ru h
  obtain ⟨x, xs, p, vs, rfl, hl, ha, h1, q⟩ := h
  cases (show u' = Value.ref p from ru)
  obtain ⟨its, r, pl, hz⟩ := I.list hl
  obtain ⟨as, rd⟩ := Dp.readsAll I _ _ _ ha.dp r
  exact PySem.W.in_list_datum pl.isList ⟨as, by simpa using rd⟩ (Dp.reads I _ _ _ h1 rv) hu ⟨.bl _, H, I, rfl, q⟩
theorem op_notInT [PySem.W.Datum α] (hu : X.A.units + 1 + PySem.W.Datum.depth α < cLine) : OpR X (compareOp .NotIn) (rNotInT α X.K) := by
  intro pins s σ H v u v' u' Q I rv ru h
  obtain ⟨x, xs, p, vs, rfl, hl, ha, h1, q⟩ := h
  cases (show u' = Value.ref p from ru)
  obtain ⟨its, r, pl, hz⟩ := I.list hl
  obtain ⟨as, rd⟩ := Dp.readsAll I _ _ _ ha.dp r
  exact PySem.W.notIn_list_datum pl.isList ⟨as, by simpa using rd⟩ (Dp.reads I _ _ _ h1 rv) hu ⟨.bl _, H, I, rfl, q⟩
/-- min(xs): the item itself -/
def rMinT (α : Type) [DecidableEq α] [PySem.W.DatumOrd α] (K : PySem.W.Frag) : List V → Hp → VK → Prop := fun ws H Q => ∃ (p : Addr) (vs : List V) (x : α) (xs : List α), ws = [.ref p] ∧ SqL K H p vs ∧ HdAll K H vs (x :: xs) ∧ ∀ (i : Nat) v, vs[i]? = some v → Hd K H v (PySem.W.minOf x xs) → Q v H
theorem cr_minT [PySem.W.DatumOrd α] (hc : X.calm = true) (hu : X.A.units + 1 + PySem.W.Datum.depth α < cLine) : CallR X (.builtin "min") (rMinT α X.K) := by
  intro pins s σ H ws us Q I r h
  obtain ⟨p, vs, x, xs, rfl, hl, ha, q⟩ := h
  rw [Vals.ref1 r]
  obtain ⟨its, rv, pl, hz⟩ := I.list hl
  obtain ⟨as, rd⟩ := Dp.readsAll I _ _ _ ha.dp rv
  refine PySem.W.min_list_datum (I.ok.hd hc) pl.isList (x := x) (xs := xs) ⟨as, by simpa using rd⟩ hu fun i v h' tk hi hv hk => ?_
  have hi2 : its[i]? = some v := by simpa using hi
  obtain ⟨y, hy, ry⟩ := vals_at rv hi2
  obtain ⟨z, hz2, hzd⟩ := HdAll.get ha hy
  obtain ⟨as2, rd2⟩ := Dp.reads I _ _ _ hzd ry
  obtain ⟨as3, rd3⟩ := hv
  have e : PySem.W.Datum.toD z = PySem.W.Datum.toD (PySem.W.minOf x xs) := reads_inj _ _ _ _ _ (PySem.W.Datum.plain z) (PyProof.Rows.Reads.keeps hk rd2) rd3
  refine ⟨y, H, I.kept hk, ry, q i y hy ?_⟩
  unfold Hd
  rw [← e]
  exact hzd
/-- sorted(xs): the items by their order -/
def rSortT (α : Type) [DecidableEq α] [PySem.W.DatumOrd α] (K : PySem.W.Frag) : List V → Hp → VK → Prop := fun ws H Q => ∃ (p : Addr) (vs : List V) (xs : List α), ws = [.ref p] ∧ SqL K H p vs ∧ HdAll K H vs xs ∧ PySem.W.Sortable (xs.map PySem.W.Datum.toD) ∧
  ∀ (q : Addr) (us : List V), H q = none → HdAll K H us (xs.mergeSort (PySem.W.dataLe false PySem.W.Datum.toD)) → Q (.ref q) (upd H q (.lst us))
theorem each_out {R : Value → α → Prop} {S : V → Value → α → Prop} (h : ∀ u x, R u x → ∃ v, S v u x ∧ RelV v u) : ∀ {us : List Value} {xs : List α}, PySem.W.EachIs R us xs → ∃ vs : List V, Vals vs us ∧ vs.length = xs.length ∧ ∀ (i : Nat) (v : V) (u : Value) (x : α), vs[i]? = some v → us[i]? = some u → xs[i]? = some x → S v u x
  | _, _, .nil => ⟨[], .nil, rfl, fun i v u x e => nomatch e⟩
  | _, _, .cons r rs => by
    obtain ⟨v, s, rv⟩ := h _ _ r
    obtain ⟨vs, rr, hl, hs⟩ := each_out h rs
    refine ⟨v :: vs, .cons rv rr, by rw [List.length_cons, List.length_cons, hl], fun i w u x e1 e2 e3 => ?_⟩
    match i with
    | 0 =>
      cases e1
      cases e2
      cases e3
      exact s
    | i + 1 => exact hs i w u x e1 e2 e3
theorem hdAll_of {K : PySem.W.Frag} {H : Hp} [PySem.W.Datum α] : ∀ {vs : List V} {xs : List α}, vs.length = xs.length → (∀ (i : Nat) v x, vs[i]? = some v → xs[i]? = some x → Hd K H v x) → HdAll K H vs xs
  | [], [], _, _ => trivial
  | v :: vs, x :: xs, hl, h => ⟨h 0 v x rfl rfl, hdAll_of (by simpa using hl) fun i v x e1 e2 => h (i + 1) v x e1 e2⟩
  | [], _ :: _, hl, _ => by simp at hl
  | _ :: _, [], hl, _ => by simp at hl
theorem each_in {K : PySem.W.Frag} {H : Hp} [PySem.W.Datum α] {R : Value → α → Prop} (h : ∀ v u x, RelV v u → Hd K H v x → R u x) : ∀ {vs : List V} {us : List Value} {xs : List α}, Vals vs us → HdAll K H vs xs → PySem.W.EachIs R us xs
  | [], _, [], .nil, _ => .nil
  | _ :: _, _, _ :: _, .cons r rs, hd => .cons (h _ _ _ r hd.1) (each_in h rs hd.2)
  | [], _, _ :: _, _, hd => hd.elim
  | _ :: _, _, [], _, hd => hd.elim
theorem cr_sortT [PySem.W.DatumOrd α] (hu : X.A.units + 2 + PySem.W.Datum.depth α < cLine) : CallR X (.builtin "sorted") (rSortT α X.K) := by
  intro pins s σ H ws us Q I r h
  obtain ⟨p, vs, xs, rfl, hl, ha, hso, q⟩ := h
  rw [Vals.ref1 r]
  obtain ⟨its, rv, pl, hz⟩ := I.list hl
  have hlen : xs.length ≤ sizeLine := by
    rw [← ha.length]
    exact hz
  refine PySem.W.sorted_data (R := fun u x => ∃ v, RelV v u ∧ Hd X.K H v x) (enc := PySem.W.Datum.toD) pl.isList (each_in (fun v u x rr hd => ⟨v, rr, hd⟩) rv ha) (each_in (fun v u x rr hd => Dp.reads I _ _ _ hd rr) rv ha) (fun d hd d' hd' => by
    obtain ⟨a, _, rfl⟩ := List.mem_map.mp hd
    obtain ⟨b, _, rfl⟩ := List.mem_map.mp hd'
    exact PySem.W.DatumOrd.alike a b) hso hlen (fun b _ => Nat.lt_of_le_of_lt (Nat.add_le_add_left (PySem.W.Datum.depth_le b) _) hu) fun out ho he => ?_
  obtain ⟨ws, rw', hwl, hws⟩ := each_out (S := fun v _ x => Hd X.K H v x) (fun u x h => by
    obtain ⟨v, h1, h2⟩ := h
    exact ⟨v, h2, h1⟩) he
  have hd : HdAll X.K H ws (xs.mergeSort (PySem.W.dataLe false PySem.W.Datum.toD)) := hdAll_of hwl fun i v x e1 e2 => by
    obtain ⟨u, hu2, _⟩ := rw'.get e1
    exact hws i v u x e1 hu2 e2
  obtain ⟨ep, he'⟩ := PyProof.Rows.sortedAll_at s.heap its out.toArray
  have hln : ws.length ≤ sizeLine := by
    rw [hwl, List.length_mergeSort]
    exact hlen
  exact ⟨.ref _, upd H (s.heap.objs.size + 1) (.lst ws), I.laid (t' := s.toks) (fun _ _ => PyProof.Rows.sortedAll_old) (Nat.le_succ _) ⟨hln, out, ep, rw', he'⟩, rfl, q _ ws (I.hok.fresh (Nat.le_succ _)) hd⟩
end
end L9

/-! own classes by name: their methods, their making, their o[k] and k in o -/
namespace L9
open PySem PySem.Spec PyProof.Rows L2
theorem hu65 {A : Around} {k : Nat} (hr : Room k A) : A.units + 1 + 64 < cLine := by have := hr.un; omega
theorem mtr_popAt {X : Cx} : MtR X "list.pop" rPopAt := mt_popAt
theorem mtr_pop {X : Cx} : MtR X "list.pop" rPop := mt_pop
theorem mtr_append {X : Cx} : MtR X "list.append" rAppend := mt_append
/-! rules that name the written part, for the block of a comprehension -/
section
variable {X : Cx} {K' : PySem.W.Frag}
theorem ix_listK (h : X.K = K') : IxR X (rIxL K') := by subst h; exact ix_list
theorem ix_tupK (h : X.K = K') : IxR X (rIxT K') := by subst h; exact ix_tup
theorem call_len_seqK (h : X.K = K') : CallR X (.builtin "len") (fun xs H Q => ∃ p ys, xs = [.ref p] ∧ (SqL K' H p ys ∨ SqT K' H p ys) ∧ Q (.int ys.length) H) := by subst h; exact call_len_seq
theorem op_in_seqK (h : X.K = K') : OpR X (compareOp .In) (rIn K' false) := by subst h; exact op_in_seq
theorem op_notIn_seqK (h : X.K = K') : OpR X (compareOp .NotIn) (rIn K' true) := by subst h; exact op_notIn_seq
theorem cr_sortedSK (h : X.K = K') : CallR X (.builtin "sorted") (rSortedS K') := by subst h; exact cr_sortedS
theorem pe_bmK (h : X.K = K') {o e : Expr} {es : List Expr} {T name id : String} {r : V → List V → Hp → VK → Prop} {to : TE} {t : TA} {apos cpos : Pos} (pa : PlainAttrs T) (slot : Slot T name id) (hty : typeOf (.builtin id) = pure (.type "method_descriptor")) (hm : MtR X id r) (ho : PE X o to) (ha : PA X (e :: es) t)
    (hbase : attributeBase o name X.env (eval o X.env) = eval o X.env := by rfl)
    (hfew : ((backTo cpos (starEach (e :: es) X.env)).all (fun x => !x.1) && (backToKw cpos (keywordEach [] X.env)).all (fun x => x.1.isSome)
      && decide ((e :: es).length + ([] : List Keyword).length + (if ([] : List Keyword).isEmpty then 0 else 1) < 30)) = true := by rfl)
    (hline : (apos.endLine == cpos.line) = true := by rfl) (hs : starEach (e :: es) X.env = (false, eval e X.env) :: starEach es X.env := by rfl) (hplain : (backTo cpos (starEach es X.env)).any (·.1) = false := by rfl) :
    PE X (.Call (.Attribute o name apos) (e :: es) [] cpos) (tBM K' T r to t) := by subst h; exact pe_bm pa slot hty hm ho ha hbase hfew hline hs hplain
theorem pe_fldK (h : X.K = K') {e : Expr} {f : Str} {pos : Pos} {ta : TE} (he : PE X e ta) (hb : attributeBase e f X.env (eval e X.env) = eval e X.env) : PE X (.Attribute e f pos) (tFld K' ta f) := by subst h; exact pe_fld he hb
end
theorem huD {A : Around} {k d : Nat} (hr : Room k A) (h : d ≤ 64) : A.units + 1 + d < cLine := by have := hu65 hr; omega
theorem huF {A : Around} {k d : Nat} (hr : Room k A) (h : d ≤ 62) : A.units + 2 + d < cLine := by have := hu65 hr; omega
theorem huE {A : Around} {k d : Nat} (hr : Room k A) (h : d ≤ 64) : A.units + d < cLine := by have := hu65 hr; omega
/-- an own class x at C, whose instances have attributes of their own -/
structure ClsT (K : PySem.W.Frag) (mg : Str → Option Value) (x : Str) (C : Addr) : Prop where
  g : mg x = some (.ref C)
  cl : Cls K C
  ca : PySem.W.findIn K (.ref C) "__class__" = some (some (.builtin "object.__class__"))
  cn : PySem.W.specialIn K (.builtin "object.__class__") "__get__" = some (some (.builtin "getset_descriptor.__get__"))
  ct : PySem.W.takesIn K (.builtin "object.__class__") = some true
  cm : PySem.W.mroIn K C (.type "object") = some true
  kb : PySem.W.kitOne K (.ref C) (.ref C) = some true
theorem ClsT.ty {K : PySem.W.Frag} {mg : Str → Option Value} {x : Str} {C : Addr} (B : ClsT K mg x C) {H : Hp} {p dx : Addr} {fs : List (Str × V)} (e : H p = some (.ins C dx fs)) : TyX K H (.ref p) (.ref C) := .base (.ins e B.cl B.ca B.cn B.ct B.cm)
/-- the method m of the class at C, with all that a call of it wants -/
structure MCal (P : Program) (w : World) (K : PySem.W.Frag) (mg : Str → Option Value) (base : Heap) (C : Addr) (m : Str) (k : Nat) (ps : List Str) (sp : Sp) : Prop where
  ex : ∃ (f : Addr) (fd : FuncData), FnOk P w K mg base CX0 k f fd ps sp ∧ Meth K C m f ∧ Binds K fd ps []
/-- C(..), with all that it wants -/
structure ICal (P : Program) (w : World) (K : PySem.W.Frag) (mg : Str → Option Value) (base : Heap) (x : Str) (C : Addr) (k : Nat) (ps : List Str) (sp : Sp) : Prop where
  ex : ∃ (f : Addr) (fd : FuncData), FnOk P w K mg base CX0 k f fd ps sp ∧ Mk K C f ∧ Binds K fd ps [] ∧ mg x = some (.ref C)
/-- C(e, .., k = v, ..) -/
structure IKal (P : Program) (w : World) (K : PySem.W.Frag) (mg : Str → Option Value) (base : Heap) (x : Str) (C : Addr) (k : Nat) (ps : List Str) (n : Nat) (ks : List Str) (gV : List V → List V → List V) (sp : Sp) : Prop where
  ex : ∃ (f : Addr) (fd : FuncData) (g : List Value → List Value → List Value), FnOk P w K mg base CX0 k f fd ps sp ∧ Mk K C f ∧ KBn K fd ps (n + 1) ks g gV ∧ mg x = some (.ref C)
/-- the operator's def m (not called by its name) -/
structure OCal (P : Program) (w : World) (K : PySem.W.Frag) (mg : Str → Option Value) (base : Heap) (C : Addr) (m : Str) (k : Nat) (ps : List Str) (sp : Sp) : Prop where
  ex : ∃ (f : Addr) (fd : FuncData), FnOk P w K mg base CX0 k f fd ps sp ∧ PySem.W.findIn K (.ref C) m = some (some (.ref f)) ∧ PySem.W.isFn K (.ref f) = true ∧ PySem.W.fnIn K f = true ∧ Binds K fd ps []
section
variable {X : Cx} {C : Addr} {m x : Str} {k : Nat} {ps : List Str} {sp : Sp} {o e : Expr} {es : List Expr} {ta tb : TE} {t : TA} {pos apos p1 : Pos}
theorem MCal.pe {pl : Sem Bool} (M : MCal X.prog X.w X.K X.mg X.base C m k ps sp) (c : Cls X.K C) (hr : Room k X.A) (he : PE X o ta) (ha : PA X (e :: es) t)
    (hst : starEach (e :: es) X.env = (false, eval e X.env) :: starEach es X.env := by rfl) (hpl : (backTo pos (starEach es X.env)).any (·.1) = false := by rfl)
    (ht : eval (.Call (.Attribute o m apos) (e :: es) [] pos) X.env = (do
      let ov ← eval o X.env
      standAt apos.atName
      let (f, first) ← holding [ov] (getMethod ov m pl)
      callWith pos f first (backTo pos (starEach (e :: es) X.env)) (backToKw pos (keywordEach [] X.env))) := by rfl) :
    PE X (.Call (.Attribute o m apos) (e :: es) [] pos) (tMeth C m sp [] E0 ta t) := by
  obtain ⟨f, fd, G, hm, b⟩ := M.ex
  exact pe_meth he c hm G hr b .nil pass0 ha hst hpl ht
theorem MCal.pe0 {pl : Sem Bool} (M : MCal X.prog X.w X.K X.mg X.base C m k ps sp) (c : Cls X.K C) (hr : Room k X.A) (he : PE X o ta)
    (ht : eval (.Call (.Attribute o m apos) [] [] pos) X.env = (do
      let ov ← eval o X.env
      standAt apos.atName
      let (f, first) ← holding [ov] (getMethod ov m pl)
      callWith pos f first (backTo pos (starEach [] X.env)) (backToKw pos (keywordEach [] X.env))) := by rfl) :
    PE X (.Call (.Attribute o m apos) [] [] pos) (tMeth C m sp [] E0 ta tNil) := by
  obtain ⟨f, fd, G, hm, b⟩ := M.ex
  exact pe_meth0 he c hm G hr b .nil pass0 ht
theorem ICal.pe (M : ICal X.prog X.w X.K X.mg X.base x C k ps sp) (hr : Room (k + 1) X.A) (hg : Gl X x) (ha : PA X (e :: es) t) (hdb : (x == ("__debug__" : Str)) = false := by decide)
    (he : starEach (e :: es) X.env = (false, eval e X.env) :: starEach es X.env := by rfl) (hpl : (backTo pos (starEach es X.env)).any (·.1) = false := by rfl) :
    PE X (.Call (.Name x p1) (e :: es) [] pos) (tMake C sp [] E0 t) := by
  obtain ⟨f, fd, G, M, b, hm⟩ := M.ex
  exact pe_make M G hr hg hm b .nil pass0 ha hdb he hpl
theorem IKal.pk {n : Nat} {ks : List Str} {gV : List V → List V → List V} {kws : List Keyword} {tk : TA} (M : IKal X.prog X.w X.K X.mg X.base x C k ps n ks gV sp) (hr : Room (k + 1) X.A) (hg : Gl X x) (ha : PA X (e :: es) t) (hkw : PK X kws tk)
    (hall : (backToKw pos (keywordEach kws X.env)).all (·.1.isSome) = true := by rfl) (hks : (backToKw pos (keywordEach kws X.env)).filterMap (·.1) = ks := by rfl) (hdb : (x == ("__debug__" : Str)) = false := by decide)
    (he : starEach (e :: es) X.env = (false, eval e X.env) :: starEach es X.env := by rfl) (hpl : ((backTo pos (starEach (e :: es) X.env)).any (·.1) || (backToKw pos (keywordEach kws X.env)).any (·.1.isNone)) = false := by rfl) :
    PE X (.Call (.Name x p1) (e :: es) kws pos) (tMakeK C n ks.length sp gV E0 t tk) := by
  obtain ⟨f, fd, g, G, M, b, hm⟩ := M.ex
  exact pe_makeK M G hr hg hm b pass0 ha hkw hall hks hdb he hpl
theorem OCal.sub (M : OCal X.prog X.w X.K X.mg X.base C "__getitem__" k ps sp) (hr : Room (k + 1) X.A) (ha : PE X o ta) (hb2 : PE X e tb) (hsl : ∀ (x : Addr) (i : Value), subscripted e true (.ref x) i = runValue (.builtin "lifetime.subscript" ⟨[.ref x, i], []⟩)) :
    PE X (.Subscript o e pos) (tSubO C sp E0 ta tb) := by
  obtain ⟨f, fd, G, hs, hf, hf2, b⟩ := M.ex
  exact pe_subO hs hf2 hf G hr b pass0 ha hb2 hsl
theorem OCal.has (M : OCal X.prog X.w X.K X.mg X.base C "__contains__" k ps sp) (hr : Room k X.A) : OpR X (compareOp .In) (rInO C sp E0) := by
  obtain ⟨f, fd, G, hs, hf, hf2, b⟩ := M.ex
  exact op_inO (E := E0) hs hf G hr b pass0
/-- y not in x, x of the class at C -/
def rNotInO (C : Addr) (sp : Sp) (E : XK) : R2 := fun y x H Q => ∃ a dx fs, x = .ref a ∧ H a = some (.ins C dx fs) ∧ sp [x, y] H (fun z H' => ∃ b, z = .bl b ∧ Q (.bl (!b)) H') E
theorem OCal.hasnt (M : OCal X.prog X.w X.K X.mg X.base C "__contains__" k ps sp) (hr : Room k X.A) : OpR X (compareOp .NotIn) (rNotInO C sp E0) := by
  obtain ⟨f, fd, G, hs, hf, hf2, bb⟩ := M.ex
  intro pins s σ H y x u v Q I ry rx h
  obtain ⟨a, dx, fs, rfl, ha, q⟩ := h
  cases (show v = Value.ref a from rx)
  obtain ⟨od, J⟩ := inst_at I ha
  obtain ⟨mm, hF⟩ := I.fr
  refine PySem.W.notIn_K hF I.ok.mod.kin J hs hf ?_
  refine wpAny_mono (run_fn (us := [.ref a, u]) (vs := [.ref a, y]) G hr bb .nil pass0 I (.cons rfl (.cons ry .nil)) q) (fun w s' z => ?_) fun _ _ z => z
  obtain ⟨z', H', I', rz, b, ez, qz⟩ := z
  subst ez
  cases (show w = Value.bool b from rz)
  exact wpAny_truthy_bool ⟨.bl (!b), H', I', rfl, qz⟩
end
end L9

/-! unlike names, as lists of their signs' codes -/
namespace NL9
def Let (c : Nat) : Prop := 97 ≤ c ∧ c ≤ 122
/-- right names, none twice -/
structure Ok (L : List (List Nat)) : Prop where
  nd : L.Nodup
  nm : ∀ x ∈ L, 1 ≤ x.length ∧ x.length ≤ 8 ∧ ∀ c ∈ x, Let c
theorem Ok.take {L : List (List Nat)} (h : Ok L) (m : Nat) : Ok (L.take m) :=
  ⟨h.nd.sublist (List.take_sublist m L), fun x hx => h.nm x (List.mem_of_mem_take hx)⟩
theorem nodup_map {α β : Type} {f : α → β} (hf : ∀ a b, f a = f b → a = b) : ∀ {l : List α}, l.Nodup → (l.map f).Nodup
  | [], _ => List.nodup_nil
  | a :: l, h => by
    rw [List.nodup_cons] at h
    rw [List.map_cons, List.nodup_cons]
    refine ⟨fun hm => ?_, nodup_map hf h.2⟩
    obtain ⟨b, hb, e⟩ := List.mem_map.mp hm
    rw [hf _ _ e] at hb
    exact h.1 hb
theorem nodup_on {α β : Type} {f : α → β} : ∀ {l : List α}, (∀ a ∈ l, ∀ b ∈ l, f a = f b → a = b) → l.Nodup → (l.map f).Nodup
  | [], _, _ => List.nodup_nil
  | a :: l, hf, h => by
    rw [List.nodup_cons] at h
    rw [List.map_cons, List.nodup_cons]
    refine ⟨fun hm => ?_, nodup_on (fun a ha b hb => hf a (List.mem_cons_of_mem _ ha) b (List.mem_cons_of_mem _ hb)) h.2⟩
    obtain ⟨b, hb, e⟩ := List.mem_map.mp hm
    rw [hf _ (List.mem_cons_of_mem _ hb) _ List.mem_cons_self e] at hb
    exact h.1 hb
/-- the 26 signs from a first one on, by a step -/
def signs (f s : Nat) : List Nat := (List.range 26).map fun k => 97 + (f + s * k) % 26
theorem signs_all : ((List.range 26).all fun f => [1, 3, 5, 7, 9, 11, 15].all fun s => decide (signs f s).Nodup) = true := by decide +kernel
theorem signs_nd {f s : Nat} (hf : f < 26) (hs : s ∈ [1, 3, 5, 7, 9, 11, 15]) : (signs f s).Nodup := by
  have h := signs_all
  rw [List.all_eq_true] at h
  have h1 := h f (List.mem_range.mpr hf)
  rw [List.all_eq_true] at h1
  exact of_decide_eq_true (h1 s hs)
theorem signs_let (f s : Nat) : ∀ c ∈ signs f s, Let c := by
  intro c hc
  obtain ⟨k, _, rfl⟩ := List.mem_map.mp hc
  have := Nat.mod_lt (f + s * k) (show 0 < 26 by decide)
  exact ⟨by omega, by omega⟩
theorem signs_len (f s : Nat) : (signs f s).length = 26 := by
  unfold signs
  rw [List.length_map, List.length_range]
theorem signs_get {f s k : Nat} (hk : k < 26) : (signs f s)[k]? = some (97 + (f + s * k) % 26) := by
  unfold signs
  rw [List.getElem?_map, List.getElem?_range hk] <;> rfl
/-- the beginnings of a word -/
def heads (w : List Nat) : List (List Nat) := (List.range 8).map fun k => w.take (1 + k)
/-- .. and others -/
def way0 (w sg : List Nat) : List (List Nat) := heads w ++ (sg.map fun s => [122, s, 113]).filter fun x => decide (x ∉ heads w)
theorem way0_ok {w sg : List Nat} (hw : w.length = 8) (hl : ∀ c ∈ w, Let c) (hs : sg.Nodup) (hsl : ∀ c ∈ sg, Let c) : Ok (way0 w sg) := by
  have hh : ∀ x ∈ heads w, 1 ≤ x.length ∧ x.length ≤ 8 ∧ ∀ c ∈ x, Let c := by
    intro x hx
    obtain ⟨k, hk, rfl⟩ := List.mem_map.mp hx
    have hk := List.mem_range.mp hk
    rw [List.length_take]
    exact ⟨by omega, by omega, fun c hc => hl c (List.mem_of_mem_take hc)⟩
  have hn : (heads w).Nodup := by
    refine nodup_on (fun a ha b hb e => ?_) List.nodup_range
    have ha := List.mem_range.mp ha
    have hb := List.mem_range.mp hb
    have e := congrArg List.length e
    rw [List.length_take, List.length_take] at e
    omega
  have hr : ((sg.map fun s => [122, s, 113]).filter fun x => decide (x ∉ heads w)).Nodup := by
    refine List.Nodup.sublist List.filter_sublist (nodup_map (fun a b e => ?_) hs)
    simpa using e
  refine ⟨?_, fun x hx => ?_⟩
  · unfold way0
    rw [List.nodup_append]
    refine ⟨hn, hr, fun a ha b hb e => ?_⟩
    have h2 := of_decide_eq_true (List.mem_filter.mp hb).2
    rw [← e] at h2
    exact h2 ha
  · rcases List.mem_append.mp hx with h | h
    · exact hh x h
    · obtain ⟨s, hs', rfl⟩ := List.mem_map.mp (List.mem_filter.mp h).1
      refine ⟨by show 1 ≤ 3; decide, by show 3 ≤ 8; decide, fun c hc => ?_⟩
      simp only [List.mem_cons, List.not_mem_nil, or_false] at hc
      rcases hc with e | e | e
      · rw [e]; exact ⟨by decide, by decide⟩
      · rw [e]; exact hsl s hs'
      · rw [e]; exact ⟨by decide, by decide⟩
/-- the drawn sign at a place of a stem -/
def way2 (stem : List Nat) (at' : Nat) (sg : List Nat) : List (List Nat) := sg.map fun s => stem.take at' ++ [s] ++ stem.drop at'
theorem way2_ok {stem sg : List Nat} {at' : Nat} (hw : stem.length = 7) (hl : ∀ c ∈ stem, Let c) (hs : sg.Nodup) (hsl : ∀ c ∈ sg, Let c) : Ok (way2 stem at' sg) := by
  refine ⟨nodup_map (fun a b e => ?_) hs, fun x hx => ?_⟩
  · have e2 := List.append_cancel_right e
    have e3 := List.append_cancel_left e2
    simpa using e3
  · obtain ⟨s, hs', rfl⟩ := List.mem_map.mp hx
    rw [List.length_append, List.length_append, List.length_take, List.length_drop]
    refine ⟨by simp; omega, by simp; omega, fun c hc => ?_⟩
    rcases List.mem_append.mp hc with h | h
    · rcases List.mem_append.mp h with h | h
      · exact hl c (List.mem_of_mem_take h)
      · rw [List.mem_singleton.mp h]; exact hsl s hs'
    · exact hl c (List.mem_of_mem_drop h)
def way1 (sg : List Nat) : List (List Nat) := sg.map fun s => [s]
theorem way1_ok {sg : List Nat} (hs : sg.Nodup) (hsl : ∀ c ∈ sg, Let c) : Ok (way1 sg) := by
  refine ⟨nodup_map (fun a b e => by simpa using e) hs, fun x hx => ?_⟩
  obtain ⟨s, hs', rfl⟩ := List.mem_map.mp hx
  exact ⟨by show 1 ≤ 1; decide, by show 1 ≤ 8; decide, fun c hc => by rw [List.mem_singleton.mp hc]; exact hsl s hs'⟩
/-- each sign so often -/
def way3 (sg : List Nat) (at' m : Nat) : List (List Nat) := (List.range m).map fun k => List.replicate (1 + (k + at') % 8) (sg.getD k 97)
theorem way3_ok {sg : List Nat} {at' m : Nat} (hm : m ≤ sg.length) (hs : sg.Nodup) (hsl : ∀ c ∈ sg, Let c) : Ok (way3 sg at' m) := by
  refine ⟨nodup_on (fun a ha b hb e => ?_) List.nodup_range, fun x hx => ?_⟩
  · have ha := List.mem_range.mp ha
    have hb := List.mem_range.mp hb
    have e1 := congrArg (fun l => l.getD 0 0) e
    have e2 : sg.getD a 97 = sg.getD b 97 := by
      simpa [List.getD, Nat.add_comm 1, List.replicate_succ] using e1
    rw [List.getD_eq_getElem?_getD, List.getD_eq_getElem?_getD, List.getElem?_eq_getElem (by omega), List.getElem?_eq_getElem (by omega)] at e2
    exact (List.getElem_inj hs).mp e2
  · obtain ⟨k, hk, rfl⟩ := List.mem_map.mp hx
    have hk := List.mem_range.mp hk
    have h8 := Nat.mod_lt (k + at') (show 0 < 8 by decide)
    rw [List.length_replicate]
    refine ⟨by omega, by omega, fun c hc => ?_⟩
    rw [(List.mem_replicate.mp hc).2, List.getD_eq_getElem?_getD, List.getElem?_eq_getElem (by omega)]
    exact hsl _ (List.getElem_mem _)
/-- at least nine names by the first way -/
theorem way0_many {w sg : List Nat} (hs : sg.Nodup) (hl : sg.length = 26) : 9 ≤ (way0 w sg).length := by
  unfold way0
  rw [List.length_append]
  have h1 : (heads w).length = 8 := by unfold heads; rw [List.length_map, List.length_range]
  -- at most eight of the 26 others are beginnings
  have h2 : ((sg.map fun s => [122, s, 113]).filter fun x => decide (x ∉ heads w)).length + ((sg.map fun s => [122, s, 113]).filter fun x => !decide (x ∉ heads w)).length = 26 := by
    rw [← List.countP_eq_length_filter, ← List.countP_eq_length_filter]
    have h := List.length_eq_countP_add_countP (p := fun x => decide (x ∉ heads w)) (l := sg.map fun s => [122, s, 113])
    rw [List.length_map, hl] at h
    have e : (fun x => !decide (x ∉ heads w)) = fun x => decide ¬(decide (x ∉ heads w) = true) := by
      funext x
      simp
    rw [e]
    omega
  have h3 : ((sg.map fun s => [122, s, 113]).filter fun x => !decide (x ∉ heads w)).length ≤ (heads w).length := by
    refine List.Nodup.length_le_of_subset (List.Nodup.sublist List.filter_sublist (nodup_map (fun a b e => by simpa using e) hs)) fun x hx => ?_
    have h := (List.mem_filter.mp hx).2
    simpa using h
  omega
end NL9

/-! Parts of a set of places: reach, lists of parts, counting them -/
namespace M9
universe u v
section
variable {α : Type u} {β : Type v}
/-- a way from x to y within S, tie by tie -/
inductive Rch (adj : α → α → Prop) (S : α → Prop) (x : α) : α → Prop
  | refl : S x → Rch adj S x x
  | step {y z : α} : Rch adj S x y → adj y z → S z → Rch adj S x z
variable {adj : α → α → Prop} {S T : α → Prop} {x y z : α}
theorem Rch.head (h : Rch adj S x y) : S x := by
  induction h with
  | refl h => exact h
  | step _ _ _ ih => exact ih
theorem Rch.last (h : Rch adj S x y) : S y := by
  cases h with
  | refl h => exact h
  | step _ _ h => exact h
theorem Rch.trans (h : Rch adj S x y) (k : Rch adj S y z) : Rch adj S x z := by
  induction k with
  | refl _ => exact h
  | step _ a s ih => exact .step ih a s
theorem Rch.symm (sy : ∀ a b, adj a b → adj b a) (h : Rch adj S x y) : Rch adj S y x := by
  induction h with
  | refl h => exact .refl h
  | step k a s ih => exact Rch.trans (.step (.refl s) (sy _ _ a) k.last) ih
theorem Rch.mono (hs : ∀ a, S a → T a) (h : Rch adj S x y) : Rch adj T x y := by
  induction h with
  | refl h => exact .refl (hs _ h)
  | step _ a s ih => exact .step ih a (hs _ s)
/-- ways over another set of names -/
theorem Rch.map {adj2 : β → β → Prop} {T : β → Prop} (f : α → β) (hs : ∀ a, S a → T (f a)) (ha : ∀ a b, S a → S b → adj a b → adj2 (f a) (f b)) (h : Rch adj S x y) : Rch adj2 T (f x) (f y) := by
  induction h with
  | refl h => exact .refl (hs _ h)
  | step k a s ih => exact .step ih (ha _ _ k.last s a) (hs _ s)
/-- what is closed under ties within S, from x on, holds of all that is reached -/
theorem Rch.closed {F : α → Prop} (h0 : F x) (hc : ∀ a b, F a → adj a b → S b → F b) (h : Rch adj S x y) : F y := by
  induction h with
  | refl _ => exact h0
  | step _ a s ih => exact hc _ _ ih a s
/-- a list of some parts of S, none twice -/
structure Parts (adj : α → α → Prop) (S : α → Prop) (L : List (List α)) : Prop where
  part : ∀ l ∈ L, ∃ x, S x ∧ ∀ y, y ∈ l ↔ Rch adj S x y
  apart : L.Pairwise fun a b => ∀ y ∈ a, y ∉ b
theorem Parts.at {L : List (List α)} (sy : ∀ a b, adj a b → adj b a) (p : Parts adj S L) {l : List α} (hl : l ∈ L) (hx : x ∈ l) : S x ∧ ∀ y, y ∈ l ↔ Rch adj S x y := by
  obtain ⟨z, hz, h⟩ := p.part l hl
  have hzx := (h x).mp hx
  exact ⟨hzx.last, fun y => ⟨fun hy => (hzx.symm sy).trans ((h y).mp hy), fun hy => (h y).mpr (hzx.trans hy)⟩⟩
theorem Parts.filter {L : List (List α)} (p : Parts adj S L) (q : List α → Bool) : Parts adj S (L.filter q) :=
  ⟨fun l hl => p.part l (List.mem_filter.mp hl).1, p.apart.filter q⟩
theorem Parts.nil : Parts adj S [] := ⟨fun _ h => (nomatch h), .nil⟩
theorem Parts.snoc {L : List (List α)} {l : List α} (sy : ∀ a b, adj a b → adj b a) (p : Parts adj S L) (hl : ∃ x, S x ∧ ∀ y, y ∈ l ↔ Rch adj S x y) (hn : ∃ x ∈ l, ∀ a ∈ L, x ∉ a) : Parts adj S (L ++ [l]) := by
  refine ⟨fun m hm => ?_, ?_⟩
  · rcases List.mem_append.mp hm with h | h
    · exact p.part m h
    · rw [List.mem_singleton.mp h]
      exact hl
  · rw [List.pairwise_append]
    refine ⟨p.apart, List.pairwise_singleton _ _, fun a ha b hb y hy hy2 => ?_⟩
    rw [List.mem_singleton.mp hb] at hy2
    obtain ⟨x, hx, hxa⟩ := hn
    obtain ⟨z, hz, h⟩ := hl
    have h1 := (p.at sy ha hy).2
    have h2 : Rch adj S y x := (((h y).mp hy2).symm sy).trans ((h x).mp hx)
    exact hxa a ha ((h1 x).mpr h2)
/-- each of A has one of B of its own -/
theorem count_le {γ : Type u} {δ : Type v} {D : γ → γ → Prop} {R : γ → δ → Prop} (hR : ∀ a a' b, R a b → R a' b → D a a' → False) : ∀ (A : List γ) (B : List δ), A.Pairwise D → (∀ a ∈ A, ∃ b ∈ B, R a b) → A.length ≤ B.length
  | [], B, _, _ => Nat.zero_le _
  | a :: A, B, hA, h => by
    obtain ⟨b, hb, r⟩ := h a List.mem_cons_self
    obtain ⟨B1, B2, rfl⟩ := List.append_of_mem hb
    rw [List.pairwise_cons] at hA
    have ih := count_le hR A (B1 ++ B2) hA.2 fun a' ha' => by
      obtain ⟨b', hb', r'⟩ := h a' (List.mem_cons_of_mem _ ha')
      refine ⟨b', ?_, r'⟩
      rcases List.mem_append.mp hb' with h1 | h1
      · exact List.mem_append.mpr (.inl h1)
      · rcases List.mem_cons.mp h1 with h2 | h2
        · subst h2
          exact (hR a a' b' r r' (hA.1 a' ha')).elim
        · exact List.mem_append.mpr (.inr h2)
    rw [List.length_append] at ih
    rw [List.length_cons, List.length_append, List.length_cons]
    omega
theorem perm_eraseIdx {α : Type u} : ∀ {l : List α} {k : Nat} {y : α}, l[k]? = some y → (y :: l.eraseIdx k).Perm l
  | a :: l, 0, y, h => by
    cases h
    exact List.Perm.refl _
  | a :: l, k + 1, y, h => by
    rw [List.eraseIdx_cons_succ]
    exact (List.Perm.swap a y _).trans ((perm_eraseIdx (l := l) (k := k) h).cons a)
  | [], k, y, h => nomatch h
end
end M9

/-! texts of codes; webs and charts in the heap; the promises of the defs that these laws share -/
namespace L9
open PySem PySem.Spec PyProof.Rows L2
/-- a text of codes -/
def mkS (l : List Nat) : Str := ⟨l.toArray⟩
theorem mkS_inj {a b : List Nat} (h : mkS a = mkS b) : a = b := by
  have h1 := congrArg (fun z : Str => z.cps.toList) h
  simpa [mkS] using h1
theorem mkS_cps (l : List Nat) : (mkS l).cps.toList = l := by simp [mkS]
theorem mkS_len (l : List Nat) : (mkS l).length = l.length := by
  show l.toArray.size = _
  rw [List.size_toArray]
theorem mkS_app (a b : List Nat) : mkS a ++ mkS b = mkS (a ++ b) := by
  show (⟨a.toArray ++ b.toArray⟩ : Str) = ⟨(a ++ b).toArray⟩
  congr 1
  simp
theorem mkS_to (l : List Nat) (k : Nat) : cutS (mkS l) none (some (k : Int)) = mkS (l.take k) := by
  unfold cutS
  rw [HT.sIx_none, HT.sIx_nat, mkS_len, mkS_cps]
  show (⟨((l.drop 0).take (min k l.length - 0)).toArray⟩ : Str) = ⟨(l.take k).toArray⟩
  rw [List.drop_zero, Nat.sub_zero]
  congr 2
  by_cases h : k ≤ l.length
  · rw [Nat.min_eq_left h]
  · rw [Nat.min_eq_right (by omega), List.take_of_length_le (Nat.le_refl _), List.take_of_length_le (by omega)]
theorem mkS_from (l : List Nat) (k : Nat) : cutS (mkS l) (some (k : Int)) none = mkS (l.drop k) := by
  unfold cutS
  rw [HT.sIx_none, HT.sIx_nat, mkS_len, mkS_cps]
  show (⟨((l.drop (min k l.length)).take (l.length - min k l.length)).toArray⟩ : Str) = ⟨(l.drop k).toArray⟩
  congr 2
  by_cases h : k ≤ l.length
  · rw [Nat.min_eq_left h, List.take_of_length_le (by rw [List.length_drop]; exact Nat.le_refl _)]
  · rw [Nat.min_eq_right (by omega), List.drop_eq_nil_of_le (Nat.le_refl _), List.drop_eq_nil_of_le (by omega), List.take_nil]
theorem mkS_join (cs : List Nat) : Txt.join ("" : Str) ((cs.map fun c => mkS [c])) = mkS cs := txt_join_signs cs
theorem foldl_rep (c : Nat) : ∀ (n : Nat) (a : Array Nat), (List.replicate n (#[c] : Array Nat)).foldl (· ++ ·) a = a ++ (List.replicate n c).toArray
  | 0, a => by simp
  | n + 1, a => by
    rw [List.replicate_succ, List.foldl_cons, foldl_rep c n, List.replicate_succ]
    apply Array.ext'
    simp
theorem mkS_mul (c n : Nat) (h1 : 1 ≤ n) (h2 : n ≤ 1000) : MulOk (mkS [c]) (n : Int) ∧ Txt.mul (mkS [c]) (n : Int) = mkS (List.replicate n c) := by
  refine ⟨⟨?_, fun _ _ => ?_, fun _ _ => ?_⟩, ?_⟩
  · rw [decide_eq_false (by omega), decide_eq_false (by omega)]
    rfl
  · show ¬ ((1 : Int) > (2 ^ 63 - 1) / (n : Int))
    have : (1 : Int) ≤ (2 ^ 63 - 1) / (n : Int) := (Int.le_ediv_iff_mul_le (by omega)).mpr (by omega)
    omega
  · show Builtin.Str.tooLong (1 * (n : Int).toNat) = false
    rw [Int.toNat_natCast, Nat.one_mul]
    unfold Builtin.Str.tooLong
    simp
    have := sizeLine_eq
    omega
  · unfold Txt.mul
    rw [if_neg (by omega)]
    by_cases e : n = 1
    · subst e
      rw [if_pos (by rfl)]
      rfl
    · rw [if_neg (by
        have : (mkS [c]).length = 1 := rfl
        simp [this]
        omega)]
      show (⟨(List.replicate ((n : Int).toNat) (#[c] : Array Nat)).foldl (· ++ ·) #[]⟩ : Str) = _
      rw [foldl_rep, Int.toNat_natCast]
      simp [mkS]
theorem cutV_to (xs : List V) (k : Nat) : cutV xs none (some (k : Int)) = xs.take k := by
  unfold cutV
  rw [HT.sIx_none, HT.sIx_nat, Nat.sub_zero, List.drop_zero]
  by_cases h : k ≤ xs.length
  · rw [Nat.min_eq_left h]
  · rw [Nat.min_eq_right (by omega), List.take_of_length_le (Nat.le_refl _), List.take_of_length_le (by omega)]
theorem inV_strs (z : Str) : ∀ l : List Str, inV (.str z) (l.map V.str) = decide (z ∈ l)
  | [] => by simp [inV]
  | y :: l => by
    have ih := inV_strs z l
    unfold inV at ih ⊢
    rw [List.map_cons, List.any_cons, ih]
    by_cases e : y = z
    · subst e
      simp [eqV]
    · have e2 : ¬ z = y := fun h => e h.symm
      simp [eqV, e, e2]
theorem mkS_mem {x : List Nat} {L : List (List Nat)} : mkS x ∈ L.map mkS ↔ x ∈ L := by
  constructor
  · intro h
    obtain ⟨y, hy, e⟩ := List.mem_map.mp h
    rw [← mkS_inj e]
    exact hy
  · exact fun h => List.mem_map.mpr ⟨x, h, rfl⟩
theorem flat_strs : ∀ l : List Str, (l.map V.str).all flatV = true
  | [] => rfl
  | _ :: l => by rw [List.map_cons, List.all_cons, flat_strs l]; rfl
theorem flat_ints : ∀ l : List Int, (l.map V.int).all flatV = true
  | [] => rfl
  | _ :: l => by rw [List.map_cons, List.all_cons, flat_ints l]; rfl
theorem inV_ints (z : Int) : ∀ l : List Int, inV (.int z) (l.map V.int) = decide (z ∈ l)
  | [] => by simp [inV]
  | y :: l => by
    have ih := inV_ints z l
    unfold inV at ih ⊢
    rw [List.map_cons, List.any_cons, ih]
    by_cases e : y = z
    · subst e
      simp [eqV]
    · have e2 : ¬ z = y := fun h => e h.symm
      simp [eqV, e, e2]
theorem lets_iff (c : Nat) : c ∈ lets.cps.toList ↔ NL9.Let c := by
  have e : lets.cps.toList = List.range' 97 26 := by decide +kernel
  rw [e, List.mem_range'_1]
  unfold NL9.Let
  omega
theorem lets_at {k : Nat} (h : k < 26) : lets.cps.toList[k]? = some (97 + k) := by
  have e : lets.cps.toList = (List.range 26).map fun k => 97 + k := by decide +kernel
  rw [e, List.getElem?_map, List.getElem?_range h] <;> rfl
/-- right names, none twice -/
structure Labs (l : List Str) : Prop where
  nd : l.Nodup
  nm : ∀ x ∈ l, nameB x = true ∧ x.length ≤ 8 ∧ PyData.strOk x = true
theorem nameB_mkS {l : List Nat} (h1 : 1 ≤ l.length) (h2 : l.length ≤ 8) (h3 : ∀ c ∈ l, NL9.Let c) : nameB (mkS l) = true := by
  unfold nameB
  rw [mkS_len, allLets_of (fun c hc => by rw [mkS_cps] at hc; exact (lets_iff c).mpr (h3 c hc)), decide_eq_true (by omega), decide_eq_true (by omega)]
  rfl
theorem labs_of {L : List (List Nat)} (h : NL9.Ok L) : Labs (L.map mkS) := by
  refine ⟨NL9.nodup_map (fun a b e => mkS_inj e) h.nd, fun x hx => ?_⟩
  obtain ⟨l, hl, rfl⟩ := List.mem_map.mp hx
  obtain ⟨h1, h2, h3⟩ := h.nm l hl
  refine ⟨nameB_mkS h1 h2 h3, by rw [mkS_len]; exact h2, ok_of_codes fun c hc => ?_⟩
  rw [mkS_cps] at hc
  have := h3 c hc
  unfold NL9.Let at this
  omega
/-! ### a web -/
structure Wb where
  lab : List Str
  lo : List Int
  hi : List Int
  prs : List (Int × Int)
  dr : List Int
structure Wb.Ok (W : Wb) (m : Nat) : Prop where
  len1 : 1 ≤ W.lab.length
  len : W.lab.length ≤ m
  labs : Labs W.lab
  llo : W.lo.length = W.lab.length
  lhi : W.hi.length = W.lab.length
  bnd : ∀ (i : Nat) (a b : Int), W.lo[i]? = some a → W.hi[i]? = some b → -MH ≤ a ∧ a ≤ b ∧ b ≤ MH
  prs : ∀ p ∈ W.prs, 0 ≤ p.1 ∧ p.1 < p.2 ∧ p.2 < (W.lab.length : Int)
  pnd : W.prs.Nodup
  pl : W.prs.length ≤ 20
  dr : ∀ d ∈ W.dr, 0 ≤ d ∧ d < (W.lab.length : Int)
  dnd : W.dr.Nodup
/-! ### the promises of the drawn things -/
def spLabels : Sp := fun vs H Q _ => ∃ (b : Addr) (m : Int) (n : Nat), vs = [.ref b, .int m] ∧ BoxAt H b n ∧ 1 ≤ m ∧ m ≤ 9 ∧ n ≤ 900000 ∧
  ∀ (p : Addr) (H' : Hp) (lab : List Str), Drw H H' b (n + 12) → H p = none → H' p = some (.lst (lab.map V.str)) → (lab.length : Int) = m → Labs lab → Q (.ref p) H'
def spEnds : Sp := fun vs H Q _ => ∃ (b : Addr) (s c : Int) (n : Nat), vs = [.ref b, .int s, .int c] ∧ BoxAt H b n ∧ 1 ≤ s ∧ s ≤ 10 ∧ 1 ≤ c ∧ c ≤ 250000000000 ∧ n ≤ 900000 ∧
  ∀ (p : Addr) (H' : Hp) (l h : Int), Drw H H' b (n + 4) → H p = none → H' p = some (.tup [.int l, .int h]) → -MH ≤ l → l ≤ h → h ≤ MH → Q (.ref p) H'
def spMixed (K : PySem.W.Frag) : Sp := fun vs H Q _ => ∃ (b a : Addr) (xs : List V) (n : Nat), vs = [.ref b, .ref a] ∧ BoxAt H b n ∧ SqL K H a xs ∧ xs.length ≤ 100 ∧ n ≤ 900000 ∧
  ∀ (p : Addr) (H' : Hp) (ys : List V), Drw H H' b (n + xs.length) → H p = none → H' p = some (.lst ys) → ys.Perm xs → Q (.ref p) H'
/-! ### a chart -/
structure Ch where
  names : List Str
  lo : Str → Int
  hi : Str → Int
  nbr : Str → List Str
  outs : List Str
structure Ch.Ok (c : Ch) : Prop where
  nd : c.names.Nodup
  len : c.names.length ≤ 60
  bnd : ∀ x ∈ c.names, -MH ≤ c.lo x ∧ c.lo x ≤ c.hi x ∧ c.hi x ≤ MH
  nin : ∀ x ∈ c.names, ∀ y ∈ c.nbr x, y ∈ c.names
  nnd : ∀ x ∈ c.names, (c.nbr x).Nodup
  sy : ∀ x ∈ c.names, ∀ y ∈ c.nbr x, x ∈ c.nbr y
  oin : ∀ x ∈ c.outs, x ∈ c.names
  ond : c.outs.Nodup
def chf (b t o : Addr) : List (Str × V) := [(("bounds_by_name" : Str), .ref b), (("tied_by_name" : Str), .ref t), (("outlet_names" : Str), .ref o)]
theorem chf_b (b t o : Addr) : (chf b t o).lookup ("bounds_by_name" : Str) = some (.ref b) := rfl
theorem chf_t (b t o : Addr) : (chf b t o).lookup ("tied_by_name" : Str) = some (.ref t) := by
  unfold chf
  rw [List.lookup_cons, show (("tied_by_name" : Str) == ("bounds_by_name" : Str)) = false by decide +kernel]
  rfl
theorem chf_o (b t o : Addr) : (chf b t o).lookup ("outlet_names" : Str) = some (.ref o) := by
  unfold chf
  rw [List.lookup_cons, show (("outlet_names" : Str) == ("bounds_by_name" : Str)) = false by decide +kernel]
  show List.lookup _ [(("tied_by_name" : Str), V.ref t), (("outlet_names" : Str), V.ref o)] = _
  rw [List.lookup_cons, show (("outlet_names" : Str) == ("tied_by_name" : Str)) = false by decide +kernel]
  rfl
theorem chf_no {b t o : Addr} {m : Str} (h1 : (m == ("bounds_by_name" : Str)) = false) (h2 : (m == ("tied_by_name" : Str)) = false) (h3 : (m == ("outlet_names" : Str)) = false) : (chf b t o).lookup m = none := by
  unfold chf
  rw [List.lookup_cons, h1]
  show List.lookup _ [(("tied_by_name" : Str), V.ref t), (("outlet_names" : Str), V.ref o)] = _
  rw [List.lookup_cons, h2]
  show List.lookup _ [(("outlet_names" : Str), V.ref o)] = _
  rw [List.lookup_cons, h3]
  rfl
/-- the dict of names -/
def byN (l : List Str) (a : Str → Addr) : List (L2.Key × V) := l.map fun x => ((Sum.inr x : L2.Key), V.ref (a x))
/-- the dict of bounds -/
def BdAt (CB : Addr) (H : Hp) (b : Addr) (l : List Str) (lo hi : Str → Int) : Prop := ∃ ba : Str → Addr, H b = some (.dK (byN l ba)) ∧ ∀ x ∈ l, BndAt CB H (ba x) (lo x) (hi x)
/-- the dict of ties -/
def TdAt (H : Hp) (t : Addr) (l : List Str) (nbr : Str → List Str) : Prop := ∃ ta : Str → Addr, H t = some (.dK (byN l ta)) ∧ ∀ x ∈ l, H (ta x) = some (.lst ((nbr x).map V.str))
def ChAt (C CB : Addr) (H : Hp) (p : Addr) (c : Ch) : Prop := ∃ dx b t o, H p = some (.ins C dx (chf b t o)) ∧ BdAt CB H b c.names c.lo c.hi ∧ TdAt H t c.names c.nbr ∧ H o = some (.lst (c.outs.map V.str))
theorem BdAt.mono {CB : Addr} {H H' : Hp} {b : Addr} {l : List Str} {lo hi : Str → Int} (s : Same H H') (h : BdAt CB H b l lo hi) : BdAt CB H' b l lo hi := by
  obtain ⟨ba, h1, h2⟩ := h
  exact ⟨ba, s _ _ h1, fun x hx => (h2 x hx).mono s⟩
theorem TdAt.mono {H H' : Hp} {t : Addr} {l : List Str} {nbr : Str → List Str} (s : Same H H') (h : TdAt H t l nbr) : TdAt H' t l nbr := by
  obtain ⟨ta, h1, h2⟩ := h
  exact ⟨ta, s _ _ h1, fun x hx => s _ _ (h2 x hx)⟩
theorem ChAt.mono {C CB : Addr} {H H' : Hp} {p : Addr} {c : Ch} (s : Same H H') (h : ChAt C CB H p c) : ChAt C CB H' p c := by
  obtain ⟨dx, b, t, o, h0, h1, h2, h3⟩ := h
  exact ⟨dx, b, t, o, s _ _ h0, h1.mono s, h2.mono s, s _ _ h3⟩
theorem valV_byN {a : Str → Addr} {x : Str} : ∀ {l : List Str}, x ∈ l → valV (byN l a) (Sum.inr x : L2.Key) = some (V.ref (a x))
  | y :: l, h => by
    unfold byN valV
    rw [List.map_cons, List.find?_cons]
    by_cases e : y = x
    · subst e
      rw [decide_eq_true rfl]
      rfl
    · rw [decide_eq_false (fun z => e (Sum.inr.inj z))]
      have hl : x ∈ l := by
        rcases List.mem_cons.mp h with h | h
        · exact absurd h.symm e
        · exact h
      exact valV_byN (l := l) hl
theorem valV_byN_no {a : Str → Addr} {x : Str} : ∀ {l : List Str}, x ∉ l → valV (byN l a) (Sum.inr x : L2.Key) = none
  | [], _ => rfl
  | y :: l, h => by
    rw [List.mem_cons, not_or] at h
    unfold byN valV
    rw [List.map_cons, List.find?_cons, decide_eq_false (fun z => h.1 (Sum.inr.inj z).symm)]
    exact valV_byN_no (l := l) h.2
/-- is x a key of the dict -/
theorem valV_is {a : Str → Addr} {x : Str} {l : List Str} : (valV (byN l a) (Sum.inr x : L2.Key)).isSome = decide (x ∈ l) := by
  by_cases h : x ∈ l
  · rw [valV_byN h, decide_eq_true h]
    rfl
  · rw [valV_byN_no h, decide_eq_false h]
    rfl
theorem putK_new {kvs : List (L2.Key × V)} {k : L2.Key} {v : V} (h : ∀ p ∈ kvs, p.1 ≠ k) : putK kvs k v = kvs ++ [(k, v)] := by
  unfold putK
  rw [if_neg]
  simp only [List.any_eq_true, not_exists, not_and]
  intro p hp e
  exact h p hp (of_decide_eq_true e)
end L9

/-! a wish, one step at a time -/
namespace L9
open PySem PySem.Spec PyProof.Rows L2
section
variable {σ : L2.St} {H : Hp} {Q : VK} {D : Ends} {ta tb tc : TE} {t : TA}
def isBl (x : V) (Q : Bool → Hp → Prop) (H : Hp) : Prop := ∃ c, x = .bl c ∧ Q c H
theorem w_isBl {c : Bool} {Q : Bool → Hp → Prop} (q : Q c H) : isBl (.bl c) Q H := ⟨c, rfl, q⟩
theorem w_var {i : Nat} {v : V} (h : σ[i]? = some (some v)) (q : Q v H) : tVar i σ H Q := ⟨v, h, q⟩
theorem w_c {v : V} (q : Q v H) : tC v σ H Q := q
theorem w_op {r : R2} (q : ta σ H fun x H1 => tb σ H1 fun y H2 => r x y H2 Q) : tOp r ta tb σ H Q := q
theorem w_un {r : V → Hp → VK → Prop} (q : ta σ H fun x H1 => r x H1 Q) : tUn r ta σ H Q := q
theorem w_rI0 {g : Int → Int → V} {i j : Int} (q : Q (g i j) H) : rI0 g (.int i) (.int j) H Q := ⟨i, j, rfl, rfl, q⟩
theorem w_rI {C : Int → Int → Prop} {g : Int → Int → V} {i j : Int} (c : C i j) (q : Q (g i j) H) : rI C g (.int i) (.int j) H Q := ⟨i, j, rfl, rfl, c, q⟩
theorem w_mulL {g : Int → Int → V} {i j : Int} (h1 : -(2 ^ 64) < i) (h2 : i < 2 ^ 64) (q : Q (g i j) H) : rI CMul g (.int i) (.int j) H Q := ⟨i, j, rfl, rfl, .inl ⟨h1, h2⟩, q⟩
theorem w_mulR {g : Int → Int → V} {i j : Int} (h1 : -(2 ^ 64) < j) (h2 : j < 2 ^ 64) (q : Q (g i j) H) : rI CMul g (.int i) (.int j) H Q := ⟨i, j, rfl, rfl, .inr ⟨h1, h2⟩, q⟩
theorem w_pow {g : Int → Int → V} {i j : Int} (h1 : 0 ≤ j) (h2 : j ≤ 1000000) (h3 : i.natAbs < 2 ^ 64) (q : Q (g i j) H) : rI CPow g (.int i) (.int j) H Q := ⟨i, j, rfl, rfl, ⟨h1, h2, h3⟩, q⟩
theorem w_mod {g : Int → Int → V} {i j : Int} (h : 0 < j) (q : Q (g i j) H) : rI (fun _ j => 0 < j) g (.int i) (.int j) H Q := ⟨i, j, rfl, rfl, h, q⟩
theorem w_div {g : Int → Int → V} {i j : Int} (h : 0 < j) (h2 : j.natAbs < 2 ^ 64) (q : Q (g i j) H) : rI CDivW g (.int i) (.int j) H Q := ⟨i, j, rfl, rfl, wide_div h h2 (by decide) (by decide), q⟩
theorem w_rU {g : Int → V} {i : Int} (q : Q (g i) H) : rU g (.int i) H Q := ⟨i, rfl, q⟩
theorem w_eq {x y : V} (h : scal x y = true) (q : Q (.bl (decide (x = y))) H) : rEq x y H Q := ⟨h, q⟩
theorem w_ne {x y : V} (h : scal x y = true) (q : Q (.bl (!decide (x = y))) H) : rNe x y H Q := ⟨h, q⟩
theorem w_B {Q : Bool → Hp → Prop} (q : ta σ H fun x H1 => isBl x Q H1) : tB ta σ H Q := q
theorem w_test {Q : Bool → Hp → Prop} (q : ta σ H fun x H1 => isBl x Q H1) : tTest ta σ H Q := q
theorem w_not {u : TT} {Q : Bool → Hp → Prop} (q : u σ H fun c H1 => Q (!c) H1) : tNot u σ H Q := q
theorem w_and {u v : TT} {Q : Bool → Hp → Prop} (q : u σ H fun c H1 => if c = true then v σ H1 Q else Q false H1) : tAnd u v σ H Q := q
theorem w_or {u v : TT} {Q : Bool → Hp → Prop} (q : u σ H fun c H1 => if c = true then Q true H1 else v σ H1 Q) : tOr u v σ H Q := q
theorem w_if {u : TT} (q : u σ H fun c H1 => if c = true then ta σ H1 Q else tb σ H1 Q) : tIf u ta tb σ H Q := q
theorem w_ifS {c : TT} {s u : TS} (q : c σ H fun b H1 => if b = true then s D σ H1 else u D σ H1) : tIfS c s u D σ H := q
theorem w_nil {Q : List V → Hp → Prop} (q : Q [] H) : tNil σ H Q := q
theorem w_cons {Q : List V → Hp → Prop} (q : ta σ H fun x H1 => t σ H1 fun xs H2 => Q (x :: xs) H2) : tCons ta t σ H Q := q
theorem w_CB {r : List V → Hp → VK → Prop} (q : t σ H fun vs H1 => r vs H1 Q) : tCB r t σ H Q := q
theorem w_call {sp : Sp} {dvs : List V} {E : XK} (q : t σ H fun vs H1 => sp (vs ++ dvs) H1 Q E) : tCall sp dvs E t σ H Q := q
theorem w_gName {i : Nat} {v : V} {Q : L2.St → Hp → Prop} (q : Q (σ.set i (some v)) H) : gName i v σ H Q := q
theorem w_gNil {Q : L2.St → Hp → Prop} (q : Q σ H) : gNil [] σ H Q := ⟨rfl, q⟩
theorem w_gCons {g : TG} {u : TGs} {v : V} {r : List V} {Q : L2.St → Hp → Prop} (q : g v σ H fun σ' H' => u r σ' H' Q) : gCons g u (v :: r) σ H Q := ⟨v, r, rfl, q⟩
theorem w_asg {g : TG} (q : ta σ H fun x H1 => g x σ H1 D.nx) : tAsg ta g D σ H := q
theorem w_seq {s u : TS} (q : s { D with nx := u D } σ H) : tSeq s u D σ H := q
theorem w_ret (q : ta σ H D.rt) : tRet ta D σ H := q
theorem w_retN (q : D.rt .non H) : tRetN D σ H := q
theorem w_next (q : D.nx σ H) : tNext D σ H := q
theorem w_drop (q : ta σ H fun _ H1 => D.nx σ H1) : tDrop ta D σ H := q
def isTwo (vs : List V) (Q : V → V → Prop) : Prop := ∃ v w, vs = [v, w] ∧ Q v w
theorem w_isTwo {v w : V} {Q : V → V → Prop} (q : Q v w) : isTwo [v, w] Q := ⟨v, w, rfl, q⟩
theorem w_par {i j : Nat} (q : t σ H fun vs H1 => isTwo vs fun v w => D.nx ((σ.set i (some v)).set j (some w)) H1) : tPar i j t D σ H := q
theorem w_tup (q : t σ H fun xs H1 => xs.length ≤ sizeLine ∧ ∀ p, H1 p = none → Q (.ref p) (upd H1 p (.tup xs))) : tTup t σ H Q := q
theorem w_lst (q : t σ H fun xs H1 => xs.length ≤ sizeLine ∧ ∀ p, H1 p = none → Q (.ref p) (upd H1 p (.lst xs))) : tLst t σ H Q := q
theorem w_andV (q : ta σ H fun x H1 => isBl x (fun c H1 => if c = true then tb σ H1 Q else Q (.bl false) H1) H1) : tAndV ta tb σ H Q := q
theorem w_orV (q : ta σ H fun x H1 => isBl x (fun c H1 => if c = true then Q (.bl true) H1 else tb σ H1 Q) H1) : tOrV ta tb σ H Q := q
theorem w_notV (q : ta σ H fun x H1 => isBl x (fun c H1 => Q (.bl (!c)) H1) H1) : tNotV ta σ H Q := q
def isIt (x : V) (Q : Option Int → Hp → Prop) (H : Hp) : Prop := ∃ i, x = .int i ∧ Q (some i) H
theorem w_isIt {i : Int} {Q : Option Int → Hp → Prop} (q : Q (some i) H) : isIt (.int i) Q H := ⟨i, rfl, q⟩
theorem w_part {Q : Option Int → Hp → Prop} (q : ta σ H fun x H1 => isIt x Q H1) : tPart ta σ H Q := q
theorem w_chain {r r' : R2} (q : ta σ H fun x H1 => tb σ H1 fun y H2 => r x y H2 fun z H3 => isBl z (fun k H4 => if k = true then tc σ H4 fun w H5 => r' y w H5 Q else Q (.bl false) H4) H3) : tChain r r' ta tb tc σ H Q := q
theorem w_chainT {r r' : R2} {Q : Bool → Hp → Prop} (q : tChain r r' ta tb tc σ H fun x H1 => isBl x Q H1) : tTest (tChain r r' ta tb tc) σ H Q := q
def isIntR (x : V) (Q : Int → Int → Hp → Prop) (H : Hp) : Prop := ∃ n, x = .int n ∧ Q 0 n H
theorem w_isIntR {n : Int} {Q : Int → Int → Hp → Prop} (q : Q 0 n H) : isIntR (.int n) Q H := ⟨n, rfl, q⟩
theorem w_rgOne {Q : Int → Int → Hp → Prop} (q : ta σ H fun x H1 => isIntR x Q H1) : tRg1 ta σ H Q := q
theorem w_listRg {te : L2.St → Hp → (Int → Int → Hp → Prop) → Prop} (q : te σ H fun a b H1 => RgOk a b ∧ ∀ q, H1 q = none → Q (.ref q) (upd H1 q (.lst (rgV a b)))) : tLstRg te σ H Q := q
theorem w_makeK {C : Addr} {n m : Nat} {sp : Sp} {gV : List V → List V → List V} {E : XK} {tk : TA} (q : t σ H fun vs H1 => tk σ H1 fun zs H2 => vs.length = n ∧ zs.length = m ∧ ∀ x dx, H2 x = none → H2 dx = none → dx ≠ x → sp (gV (.ref x :: vs) zs) (upd (upd H2 dx (.own x)) x (.ins C dx [])) (fun v H3 => v = .non ∧ Q (.ref x) H3) E) : tMakeK C n m sp gV E t tk σ H Q := q
theorem w_nopart {Q : Option Int → Hp → Prop} (q : Q none H) : tNoPart σ H Q := q
theorem w_sl {r : V → Option Int → Option Int → Hp → VK → Prop} {tl th : TO} (q : ta σ H fun x H1 => tl σ H1 fun l H2 => th σ H2 fun u H3 => r x l u H3 Q) : tSl r ta tl th σ H Q := q
theorem w_yes {Q : Bool → Hp → Prop} (q : Q true H) : tYes σ H Q := q
theorem w_bm {K : PySem.W.Frag} {T : String} {r : V → List V → Hp → VK → Prop} (q : ta σ H fun x H1 => tyV K T x H1 ∧ t σ H1 fun xs H2 => r x xs H2 Q) : tBM K T r ta t σ H Q := q
theorem w_bm0 {K : PySem.W.Frag} {T : String} {r : V → List V → Hp → VK → Prop} (q : ta σ H fun x H1 => tyV K T x H1 ∧ r x [] H1 Q) : tBM0 K T r ta σ H Q := q
theorem w_dput (q : tc σ H fun v H1 => ta σ H1 fun x H2 => tb σ H2 fun y H3 => ∃ a H4, x = .ref a ∧ DPut H3 a y v H4 ∧ D.nx σ H4) : sDPut ta tb tc D σ H := q
theorem w_dget (q : ta σ H fun x H1 => tb σ H1 fun y H2 => ∃ a v, x = .ref a ∧ DGet H2 a y (some v) ∧ Q v H2) : tDGet ta tb σ H Q := q
theorem w_din (q : tb σ H fun y H1 => ta σ H1 fun x H2 => ∃ a o, x = .ref a ∧ DGet H2 a y o ∧ Q (.bl o.isSome) H2) : tDIn tb ta σ H Q := q
theorem w_dnin (q : tb σ H fun y H1 => ta σ H1 fun x H2 => ∃ a o, x = .ref a ∧ DGet H2 a y o ∧ Q (.bl (!o.isSome)) H2) : tDNotIn tb ta σ H Q := q
theorem w_dnew (q : ∀ p, H p = none → Q (.ref p) (upd H p (.dK []))) : tDNewK σ H Q := q
theorem w_fld {K : PySem.W.Frag} {f : Str} (q : ta σ H fun x H1 => ∃ a C dx fs v, x = .ref a ∧ H1 a = some (.ins C dx fs) ∧ Cls K C ∧ NoAttr K C f ∧ fs.lookup f = some v ∧ Q v H1) : tFld K ta f σ H Q := q
theorem w_sfld {K : PySem.W.Frag} {f : Str} (q : tb σ H fun y H1 => ta σ H1 fun x H2 => ∃ a C dx fs, x = .ref a ∧ H2 a = some (.ins C dx fs) ∧ Cls K C ∧ NoAttr K C f ∧ fs.length < 1000 ∧ D.nx σ (upd H2 a (.ins C dx (putF f y fs)))) : sFld K ta tb f D σ H := q
theorem w_meth {C : Addr} {m : Str} {sp : Sp} {dvs : List V} {E : XK} (q : ta σ H fun x H1 => ∃ a dx fs, x = .ref a ∧ H1 a = some (.ins C dx fs) ∧ fs.lookup m = none ∧ t σ H1 fun vs H2 => sp (x :: (vs ++ dvs)) H2 Q E) : tMeth C m sp dvs E ta t σ H Q := q
theorem w_make {C : Addr} {sp : Sp} {dvs : List V} {E : XK} (q : t σ H fun vs H1 => ∀ x dx, H1 x = none → H1 dx = none → dx ≠ x → sp (.ref x :: (vs ++ dvs)) (upd (upd H1 dx (.own x)) x (.ins C dx [])) (fun v H2 => v = .non ∧ Q (.ref x) H2) E) : tMake C sp dvs E t σ H Q := q
theorem w_subO {C : Addr} {sp : Sp} {E : XK} (q : ta σ H fun x H1 => tb σ H1 fun y H2 => ∃ a dx fs, x = .ref a ∧ H2 a = some (.ins C dx fs) ∧ sp [x, y] H2 Q E) : tSubO C sp E ta tb σ H Q := q
def isRg (vs : List V) (R : It → Hp → Prop) (H : Hp) : Prop := ∃ j : Int, vs = [.int j] ∧ -(2 ^ 62) ≤ j ∧ j < 2 ^ 62 ∧ R (Itr 0 j.toNat) H
theorem w_isRg {R : It → Hp → Prop} {j : Int} (h1 : -(2 ^ 62) ≤ j) (h2 : j < 2 ^ 62) (q : R (Itr 0 j.toNat) H) : isRg [.int j] R H := ⟨j, rfl, h1, h2, q⟩
theorem w_rg1 {R : It → Hp → Prop} (q : t σ H fun vs H1 => isRg vs R H1) : iRng1 t σ H R := q
def isRg2 (vs : List V) (R : It → Hp → Prop) (H : Hp) : Prop := ∃ i j : Int, vs = [.int i, .int j] ∧ (-(2 ^ 62) ≤ i ∧ i < 2 ^ 62 ∧ -(2 ^ 62) ≤ j ∧ j < 2 ^ 62) ∧ R (Itr i (j - i).toNat) H
theorem w_isRg2 {R : It → Hp → Prop} {i j : Int} (h1 : -(2 ^ 62) ≤ i) (h2 : i < 2 ^ 62) (h3 : -(2 ^ 62) ≤ j) (h4 : j < 2 ^ 62) (q : R (Itr i (j - i).toNat) H) : isRg2 [.int i, .int j] R H := ⟨i, j, rfl, ⟨h1, h2, h3, h4⟩, q⟩
theorem w_rg2 {R : It → Hp → Prop} (q : t σ H fun vs H1 => isRg2 vs R H1) : iRng2 t σ H R := q
theorem w_list {K : PySem.W.Frag} {R : It → Hp → Prop} (q : ta σ H fun x H1 => ∃ a, x = .ref a ∧ (∃ xs, SqL K H1 a xs) ∧ R (Itl K a) H1) : iList K ta σ H R := q
def forG (J : It) (g : TG) (s : TS) (D : Ends) (σ : L2.St) (H : Hp) : Prop := tFor (fun _ _ R => R J H) g s D σ H
theorem w_for {wi : TI} {g : TG} {s : TS} (q : wi σ H fun J H1 => forG J g s D σ H1) : tFor wi g s D σ H := q
def lcG (J : It) (g : TG) (u : TT) (e : TE) (vs : List Nat) (σ : L2.St) (H : Hp) (Q : VK) : Prop := tLc (fun _ _ R => R J H) g u e vs σ H Q
theorem w_lc {wi : TI} {g : TG} {u : TT} {vs : List Nat} (q : wi σ H fun J H1 => lcG J g u ta vs σ H1 Q) : tLc wi g u ta vs σ H Q := q
def dcG (J : It) (g : TG) (u : TT) (k e : TE) (vs : List Nat) (σ : L2.St) (H : Hp) (Q : VK) : Prop := tDc (fun _ _ R => R J H) g u k e vs σ H Q
theorem w_dc {wi : TI} {g : TG} {u : TT} {vs : List Nat} (q : wi σ H fun J H1 => dcG J g u ta tb vs σ H1 Q) : tDc wi g u ta tb vs σ H Q := q
end
/-- what stood stands, but at b -/
def But (b : Addr) (H H' : Hp) : Prop := ∀ p o, p ≠ b → H p = some o → H' p = some o
theorem But.trans {b : Addr} {H H' H2 : Hp} (h : But b H H') (k : But b H' H2) : But b H H2 := fun p o hp e => k p o hp (h p o hp e)
theorem But.of {b : Addr} {H H' : Hp} (s : Same H H') : But b H H' := fun p o _ e => s p o e
theorem Drw.but {H H' : Hp} {b : Addr} {n : Nat} (d : Drw H H' b n) : But b H H' := d.keep
theorem Drw.le {H H' : Hp} {b : Addr} {n m : Nat} (d : Drw H H' b n) (h : n ≤ m) : Drw H H' b m := ⟨d.keep, by
  obtain ⟨xs, e, x⟩ := d.box
  exact ⟨xs, e, x.mono h⟩⟩
section
variable {H0 H : Hp} {b : Addr} {n : Nat} {Q : VK} {E : XK} {K : PySem.W.Frag}
theorem go_take {m : Int} (d : Drw H0 H b n) (h1 : 0 < m) (h2 : m ≤ 10 ^ 15) (h3 : n ≤ 1000000) (q : ∀ (r : Int) (H' : Hp), 0 ≤ r → r < m → Drw H0 H' b (n + 1) → But b H H' → Q (.int r) H') : spTake ([V.ref b, V.int m] ++ []) H Q E :=
  ⟨b, m, n, rfl, d.box, h1, h2, h3, fun r xs l u h => q r _ l u (d.take h) fun p o hp e => (upd_ne hp).trans e⟩
theorem go_lst {xs : List V} (d : Drw H0 H b n) (hz : xs.length ≤ sizeLine) (q : ∀ (p : Addr) (H' : Hp), p ≠ b → H p = none → H' p = some (.lst xs) → Same H H' → Drw H0 H' b n → Q (.ref p) H') : xs.length ≤ sizeLine ∧ ∀ p, H p = none → Q (.ref p) (upd H p (.lst xs)) :=
  ⟨hz, fun p np => q p _ (d.ne np) np upd_same (same_upd np) (d.new np)⟩
theorem go_tup {xs : List V} (d : Drw H0 H b n) (hz : xs.length ≤ sizeLine) (q : ∀ (p : Addr) (H' : Hp), p ≠ b → H p = none → H' p = some (.tup xs) → Same H H' → Drw H0 H' b n → Q (.ref p) H') : xs.length ≤ sizeLine ∧ ∀ p, H p = none → Q (.ref p) (upd H p (.tup xs)) :=
  ⟨hz, fun p np => q p _ (d.ne np) np upd_same (same_upd np) (d.new np)⟩
theorem Drw.gen {H' : Hp} {p : Addr} {o : HO} (d : Drw H0 H b n) (np : H p = none) (e : upd H p o = H') : p ≠ b ∧ H' p = some o ∧ Same H H' ∧ Drw H0 H' b n := by
  subst e
  exact ⟨d.ne np, upd_same, same_upd np, d.new np⟩
theorem Drw.at {p : Addr} {o : HO} (d : Drw H0 H b n) (hp : p ≠ b) (np : H0 p = none) : Drw H0 (upd H p o) b n := by
  obtain ⟨xs, e, x⟩ := d.box
  exact ⟨fun q u hq e2 => (upd_ne (ne_of_none e2 np)).trans (d.keep q u hq e2), xs, (upd_ne hp.symm).trans e, x⟩
theorem Drw.free {p : Addr} (d : Drw H0 H b n) (hp : p ≠ b) (np : H p = none) : H0 p = none := by
  cases hx : H0 p with
  | none => rfl
  | some o =>
    rw [d.keep p o hp hx] at np
    cases np
theorem go_new {o : Addr → HO} (d : Drw H0 H b n) (q : ∀ (p : Addr) (H' : Hp), p ≠ b → H p = none → H' p = some (o p) → Same H H' → Drw H0 H' b n → Q (.ref p) H') : ∀ p, H p = none → Q (.ref p) (upd H p (o p)) :=
  fun p np => q p _ (d.ne np) np upd_same (same_upd np) (d.new np)
theorem go_ixL {p : Addr} {xs : List V} {i : Int} {j : Nat} {v : V} (h : SqL K H p xs) (hi : i = (j : Int)) (hv : xs[j]? = some v) (q : Q v H) : rIxL K (.ref p) (.int i) H Q := by
  subst hi
  exact ⟨p, xs, _, v, rfl, rfl, h, atI_nat hv, q⟩
theorem go_ixT {p : Addr} {xs : List V} {i : Int} {j : Nat} {v : V} (h : SqT K H p xs) (hi : i = (j : Int)) (hv : xs[j]? = some v) (q : Q v H) : rIxT K (.ref p) (.int i) H Q := by
  subst hi
  exact ⟨p, xs, _, v, rfl, rfl, h, atI_nat hv, q⟩
theorem go_ixS {z : Str} {i : Int} {j c : Nat} (hz : z.length ≤ sizeLine) (hi : i = (j : Int)) (hc : z.cps.toList[j]? = some c) (q : Q (.str (mkS [c])) H) : rIxS (.str z) (.int i) H Q := by
  subst hi
  exact ⟨z, _, c, rfl, rfl, hz, atI_nat hc, q⟩
end
/-- tuples of two ints, item by item -/
def TupAll (H : Hp) : List V → List (Int × Int) → Prop
  | [], [] => True
  | v :: vs, x :: xs => (∃ p, v = .ref p ∧ H p = some (.tup [.int x.1, .int x.2])) ∧ TupAll H vs xs
  | _, _ => False
theorem TupAll.keep {H H' : Hp} (k : ∀ p xs, H p = some (.tup xs) → H' p = some (.tup xs)) : ∀ {vs : List V} {xs : List (Int × Int)}, TupAll H vs xs → TupAll H' vs xs
  | [], [], _ => trivial
  | _ :: _, _ :: _, ⟨⟨p, e, h⟩, t⟩ => ⟨⟨p, e, k _ _ h⟩, t.keep k⟩
  | [], _ :: _, h => h.elim
  | _ :: _, [], h => h.elim
theorem TupAll.app {H : Hp} {v : V} {x : Int × Int} (h : ∃ p, v = .ref p ∧ H p = some (.tup [.int x.1, .int x.2])) : ∀ {vs : List V} {xs : List (Int × Int)}, TupAll H vs xs → TupAll H (vs ++ [v]) (xs ++ [x])
  | [], [], _ => ⟨h, trivial⟩
  | _ :: _, _ :: _, ⟨h0, t⟩ => ⟨h0, TupAll.app h t⟩
  | [], _ :: _, h => h.elim
  | _ :: _, [], h => h.elim
theorem TupAll.length {H : Hp} : ∀ {vs : List V} {xs : List (Int × Int)}, TupAll H vs xs → vs.length = xs.length
  | [], [], _ => rfl
  | _ :: _, _ :: _, ⟨_, t⟩ => by rw [List.length_cons, List.length_cons, t.length]
  | [], _ :: _, h => h.elim
  | _ :: _, [], h => h.elim
theorem TupAll.hd {K : PySem.W.Frag} {H : Hp} : ∀ {vs : List V} {xs : List (Int × Int)}, TupAll H vs xs → HdAll K H vs xs
  | [], [], _ => trivial
  | _ :: _, (a, b) :: _, ⟨⟨p, e, h⟩, t⟩ => by
    subst e
    exact ⟨hd_pair (SqT.of h) (.int a) (.int b), t.hd⟩
  | [], _ :: _, h => h.elim
  | _ :: _, [], h => h.elim
theorem TupAll.get {H : Hp} : ∀ {vs : List V} {xs : List (Int × Int)} {i : Nat} {v : V}, TupAll H vs xs → vs[i]? = some v → ∃ x p, xs[i]? = some x ∧ v = .ref p ∧ H p = some (.tup [.int x.1, .int x.2])
  | _ :: _, x :: _, 0, v, ⟨⟨p, e, h⟩, _⟩, ev => by
    cases ev
    exact ⟨x, p, rfl, e, h⟩
  | _ :: _, _ :: _, i + 1, v, ⟨_, t⟩, ev => TupAll.get (i := i) t ev
  | [], [], _, _, _, e => nomatch e
  | [], _ :: _, _, _, h, _ => h.elim
  | _ :: _, [], _, _, h, _ => h.elim
theorem TupAll.perm {H : Hp} {us vs : List V} (p : us.Perm vs) : ∀ {xs : List (Int × Int)}, TupAll H vs xs → ∃ ys : List (Int × Int), ys.Perm xs ∧ TupAll H us ys := by
  induction p with
  | nil => exact fun {xs} h => ⟨xs, .refl _, h⟩
  | cons a _ ih =>
    intro xs h
    cases xs with
    | nil => exact h.elim
    | cons x xs =>
      obtain ⟨ys, h1, h2⟩ := ih h.2
      exact ⟨x :: ys, h1.cons x, h.1, h2⟩
  | swap a b l =>
    intro xs h
    cases xs with
    | nil => exact h.elim
    | cons x xs =>
      cases xs with
      | nil => exact h.2.elim
      | cons y xs => exact ⟨y :: x :: xs, List.Perm.swap x y xs, h.2.1, h.1, h.2.2⟩
  | trans _ _ ih1 ih2 =>
    intro xs h
    obtain ⟨ys, h1, h2⟩ := ih2 h
    obtain ⟨zs, h3, h4⟩ := ih1 h2
    exact ⟨zs, h3.trans h1, h4⟩
theorem perm_map {α β : Type} {f : α → β} {us vs : List β} (p : us.Perm vs) : ∀ {xs : List α}, vs = xs.map f → ∃ ys : List α, ys.Perm xs ∧ us = ys.map f := by
  induction p with
  | nil =>
    intro xs h
    cases xs with
    | nil => exact ⟨[], .refl _, rfl⟩
    | cons _ _ => cases h
  | cons a _ ih =>
    intro xs h
    cases xs with
    | nil => cases h
    | cons x xs =>
      rw [List.map_cons] at h
      injection h with h1 h2
      obtain ⟨ys, h3, h4⟩ := ih h2
      exact ⟨x :: ys, h3.cons x, by rw [List.map_cons, h1, h4]⟩
  | swap a b l =>
    intro xs h
    cases xs with
    | nil => cases h
    | cons x xs =>
      cases xs with
      | nil => cases h
      | cons y xs =>
        rw [List.map_cons, List.map_cons] at h
        injection h with h1 h2
        injection h2 with h2 h3
        exact ⟨y :: x :: xs, List.Perm.swap x y xs, by rw [List.map_cons, List.map_cons, h1, h2, h3]⟩
  | trans _ _ ih1 ih2 =>
    intro xs h
    obtain ⟨ys, h1, h2⟩ := ih2 h
    obtain ⟨zs, h3, h4⟩ := ih1 h2
    exact ⟨zs, h3.trans h1, h4⟩
theorem TupAll.drw {H H' : Hp} {b : Addr} {n m : Nat} (d : Drw H H' b n) (hb : BoxAt H b m) {vs : List V} {xs : List (Int × Int)} (t : TupAll H vs xs) : TupAll H' vs xs := by
  obtain ⟨ys, eb, _⟩ := hb
  refine t.keep fun p zs e => d.keep p _ (fun z => ?_) e
  rw [z, eb] at e
  cases e
theorem TupAll.upd {H : Hp} {D : Addr} {ys : List V} {o : HO} (eD : H D = some (.lst ys)) {vs : List V} {xs : List (Int × Int)} (t : TupAll H vs xs) : TupAll (L2.upd H D o) vs xs := by
  refine t.keep fun p zs e => ?_
  by_cases z : p = D
  · rw [z, eD] at e
    cases e
  · exact (upd_ne z).trans e
theorem TupAll.same {H H' : Hp} (s : Same H H') {vs : List V} {xs : List (Int × Int)} (t : TupAll H vs xs) : TupAll H' vs xs := t.keep fun p zs e => s _ _ e
/-- a dict's comprehension over a list that stays -/
theorem dc_list {K : PySem.W.Frag} {a : Addr} {xs : List V} {g : TG} {tt : TT} {tk tv : TE} {vs : List Nat} {σ : L2.St} {H1 : Hp} {D : Addr} {Qd : Hp → Prop} (Pv : Nat → Hp → Prop) (h0 : Pv 0 (upd H1 D (.dK []))) (hl : ∀ i H, i ≤ xs.length → Pv i H → SqL K H a xs)
    (hs : ∀ i x H, xs[i]? = some x → Pv i H → g x (wipe σ vs) H fun σ2 H2 => wipe σ2 vs = wipe σ vs ∧ tt σ2 H2 fun b H3 =>
      if b = true then tk σ2 H3 fun y H4 => tv σ2 H4 fun z H5 => ∃ kvs k, y = kV k ∧ H5 D = some (.dK kvs) ∧ kvs.length < sizeLine ∧ Pv (i + 1) (upd H5 D (.dK (putK kvs k z))) else Pv (i + 1) H3) (hd : ∀ H, Pv xs.length H → Qd H) :
    ∃ W : Nat → Nat → Hp → Prop, (∃ m, W 0 m (upd H1 D (.dK []))) ∧ ∀ i m H, W i m H →
      ((Itl K a).stop i H ∧ Qd H) ∨ ((Itl K a).go i H ∧ ∃ Nx : Hp → Prop, (∀ H', Nx H' → ∃ m', m' < m ∧ W (i + 1) m' H') ∧ ∀ x H', (Itl K a).yld i H x H' → g x (wipe σ vs) H' fun σ2 H2 => wipe σ2 vs = wipe σ vs ∧ tt σ2 H2 fun b H3 =>
        if b = true then tk σ2 H3 fun y H4 => tv σ2 H4 fun z H5 => ∃ kvs k, y = kV k ∧ H5 D = some (.dK kvs) ∧ kvs.length < sizeLine ∧ Nx (upd H5 D (.dK (putK kvs k z))) else Nx H3) := by
  refine ⟨fun i m H => m = xs.length - i ∧ i ≤ xs.length ∧ Pv i H, ⟨xs.length, by simp, Nat.zero_le _, h0⟩, ?_⟩
  rintro i m H ⟨rfl, hi, p⟩
  have q := hl i H hi p
  by_cases hlt : i < xs.length
  · refine .inr ⟨⟨xs, xs[i], q, by simp [hlt]⟩, Pv (i + 1), fun H' p' => ⟨xs.length - (i + 1), by omega, rfl, hlt, p'⟩, fun x H' y => ?_⟩
    obtain ⟨e, y⟩ := y
    subst e
    exact hs i x _ (y xs q) p
  · have e : i = xs.length := by omega
    subst e
    exact .inl ⟨⟨xs, q, Nat.le_refl _⟩, hd H p⟩
/-- lists of two texts, item by item -/
def LstAll (H : Hp) : List V → List (Str × Str) → Prop
  | [], [] => True
  | v :: vs, x :: xs => (∃ p, v = .ref p ∧ H p = some (.lst [.str x.1, .str x.2])) ∧ LstAll H vs xs
  | _, _ => False
theorem LstAll.same {H H' : Hp} (k : Same H H') : ∀ {vs : List V} {xs : List (Str × Str)}, LstAll H vs xs → LstAll H' vs xs
  | [], [], _ => trivial
  | _ :: _, _ :: _, ⟨⟨p, e, h⟩, t⟩ => ⟨⟨p, e, k _ _ h⟩, t.same k⟩
  | [], _ :: _, h => h.elim
  | _ :: _, [], h => h.elim
theorem LstAll.keep {H H' : Hp} (k : ∀ p xs, H p = some (.lst xs) → H' p = some (.lst xs)) : ∀ {vs : List V} {xs : List (Str × Str)}, LstAll H vs xs → LstAll H' vs xs
  | [], [], _ => trivial
  | _ :: _, _ :: _, ⟨⟨p, e, h⟩, t⟩ => ⟨⟨p, e, k _ _ h⟩, t.keep k⟩
  | [], _ :: _, h => h.elim
  | _ :: _, [], h => h.elim
theorem LstAll.length {H : Hp} : ∀ {vs : List V} {xs : List (Str × Str)}, LstAll H vs xs → vs.length = xs.length
  | [], [], _ => rfl
  | _ :: _, _ :: _, ⟨_, t⟩ => by rw [List.length_cons, List.length_cons, t.length]
  | [], _ :: _, h => h.elim
  | _ :: _, [], h => h.elim
theorem LstAll.get {H : Hp} : ∀ {vs : List V} {xs : List (Str × Str)} {i : Nat} {v : V}, LstAll H vs xs → vs[i]? = some v → ∃ x p, xs[i]? = some x ∧ v = .ref p ∧ H p = some (.lst [.str x.1, .str x.2])
  | _ :: _, x :: _, 0, v, ⟨⟨p, e, h⟩, _⟩, ev => by
    cases ev
    exact ⟨x, p, rfl, e, h⟩
  | _ :: _, _ :: _, i + 1, v, ⟨_, t⟩, ev => LstAll.get (i := i) t ev
  | [], [], _, _, _, e => nomatch e
  | [], _ :: _, _, _, h, _ => h.elim
  | _ :: _, [], _, _, h, _ => h.elim
theorem LstAll.app {H : Hp} {v : V} {x : Str × Str} (h : ∃ p, v = .ref p ∧ H p = some (.lst [.str x.1, .str x.2])) : ∀ {vs : List V} {xs : List (Str × Str)}, LstAll H vs xs → LstAll H (vs ++ [v]) (xs ++ [x])
  | [], [], _ => ⟨h, trivial⟩
  | _ :: _, _ :: _, ⟨h0, t⟩ => ⟨h0, LstAll.app h t⟩
  | [], _ :: _, h => h.elim
  | _ :: _, [], h => h.elim
theorem byN_snoc {l : List Str} {a : Str → Addr} {x : Str} {p : Addr} (h : x ∉ l) : byN (l ++ [x]) (fun y => if y = x then p else a y) = byN l a ++ [((Sum.inr x : L2.Key), V.ref p)] := by
  unfold byN
  rw [List.map_append]
  congr 1
  · refine List.map_congr_left fun y hy => ?_
    have hne : ¬ y = x := fun e => h (by rw [← e]; exact hy)
    show ((Sum.inr y : L2.Key), V.ref (if y = x then p else a y)) = _
    rw [if_neg hne]
  · rw [List.map_singleton]
    show [((Sum.inr x : L2.Key), V.ref (if x = x then p else a x))] = _
    rw [if_pos rfl]
theorem putK_byN {l : List Str} {a : Str → Addr} {x : Str} {p : Addr} (h : x ∉ l) : putK (byN l a) (Sum.inr x : L2.Key) (V.ref p) = byN (l ++ [x]) (fun y => if y = x then p else a y) := by
  rw [byN_snoc h]
  refine putK_new fun q hq e => ?_
  obtain ⟨y, hy, rfl⟩ := List.mem_map.mp hq
  exact h (by rw [← Sum.inr.inj e]; exact hy)
theorem byN_len (l : List Str) (a : Str → Addr) : (byN l a).length = l.length := List.length_map _
theorem kit_lt {K : PySem.W.Frag} : PySem.W.kitAny K (.type "list") [.type "list", .type "tuple"] = some true := kitAny_cons (b := true) (kit_ty (by decide +kernel)) (fun e => nomatch e) (fun _ => rfl)
theorem ite_nt {A B : Prop} (h : B) : if (!true) = true then A else B := h
theorem ite_nf {A B : Prop} (h : A) : if (!false) = true then A else B := h
theorem Drw.cat {H H' H2 : Hp} {b : Addr} {n m : Nat} (d : Drw H H' b n) (e : Drw H' H2 b m) : Drw H H2 b m := d.trans e
end L9

/-! the promises of the program's defs where nothing is raised -/
namespace L9
open PySem PySem.Spec PyProof.Rows L2
/-- a web at p, apart from the box b -/
def WbAt (H : Hp) (p : Addr) (W : Wb) (b : Addr) : Prop := ∃ (l f t q d : Addr) (vs : List V), H p = some (.lst [.ref l, .ref f, .ref t, .ref q, .ref d]) ∧ H l = some (.lst (W.lab.map V.str)) ∧ H f = some (.lst (W.lo.map V.int)) ∧ H t = some (.lst (W.hi.map V.int)) ∧ H q = some (.lst vs) ∧ TupAll H vs W.prs ∧ H d = some (.lst (W.dr.map V.int)) ∧ p ≠ b ∧ l ≠ b ∧ f ≠ b ∧ t ≠ b ∧ q ≠ b ∧ d ≠ b
theorem WbAt.mono {H H' : Hp} {p b : Addr} {W : Wb} (s : Same H H') (h : WbAt H p W b) : WbAt H' p W b := by
  obtain ⟨l, f, t, q, d, vs, h0, h1, h2, h3, h4, h5, h6, n⟩ := h
  exact ⟨l, f, t, q, d, vs, s _ _ h0, s _ _ h1, s _ _ h2, s _ _ h3, s _ _ h4, h5.same s, s _ _ h6, n⟩
theorem WbAt.drw {H H' : Hp} {p b : Addr} {W : Wb} {n m : Nat} (s : Drw H H' b n) (hb : BoxAt H b m) (h : WbAt H p W b) : WbAt H' p W b := by
  obtain ⟨l, f, t, q, d, vs, h0, h1, h2, h3, h4, h5, h6, n0, n1, n2, n3, n4, n5⟩ := h
  exact ⟨l, f, t, q, d, vs, s.keep _ _ n0 h0, s.keep _ _ n1 h1, s.keep _ _ n2 h2, s.keep _ _ n3 h3, s.keep _ _ n4 h4, h5.drw s hb, s.keep _ _ n5 h6, n0, n1, n2, n3, n4, n5⟩
def spWeb : Sp := fun vs H Q _ => ∃ (b : Addr) (m n : Nat), vs = [.ref b, .int m] ∧ BoxAt H b n ∧ 1 ≤ m ∧ m ≤ 9 ∧ n ≤ 800000 ∧
  ∀ (p : Addr) (H' : Hp) (W : Wb), Drw H H' b (n + 200) → H p = none → WbAt H' p W b → W.Ok m → Q (.ref p) H'
def Wb.loF (W : Wb) (x : Str) : Int := W.lo.getD (W.lab.idxOf x) 0
def Wb.hiF (W : Wb) (x : Str) : Int := W.hi.getD (W.lab.idxOf x) 0
/-- the chart that a web tells -/
structure OfWeb (W : Wb) (c : Ch) : Prop where
  ok : c.Ok
  nm : ∀ x, x ∈ c.names ↔ x ∈ W.lab
  lo : c.lo = W.loF
  hi : c.hi = W.hiF
  nbr : ∀ x ∈ W.lab, ∀ y, y ∈ c.nbr x ↔ ∃ i j : Nat, (((i : Int), (j : Int)) ∈ W.prs ∧ ((W.lab[i]? = some x ∧ W.lab[j]? = some y) ∨ (W.lab[i]? = some y ∧ W.lab[j]? = some x)))
  outs : ∀ x, x ∈ c.outs ↔ ∃ d : Nat, (d : Int) ∈ W.dr ∧ W.lab[d]? = some x
def spLaid (C CB : Addr) : Sp := fun vs H Q _ => ∃ (b w : Addr) (W : Wb) (n m : Nat), vs = [.ref b, .ref w] ∧ BoxAt H b n ∧ WbAt H w W b ∧ W.Ok m ∧ m ≤ 9 ∧ n ≤ 900000 ∧
  ∀ (p : Addr) (H' : Hp) (c : Ch), Drw H H' b (n + 40) → H p = none → ChAt C CB H' p c → OfWeb W c → Q (.ref p) H'
/-- lists of ints, item by item -/
def IntsAll (H : Hp) : List V → List (List Int) → Prop
  | [], [] => True
  | v :: vs, x :: xs => (∃ p, v = .ref p ∧ H p = some (.lst (x.map V.int))) ∧ IntsAll H vs xs
  | _, _ => False
theorem IntsAll.keep {H H' : Hp} (k : ∀ p xs, H p = some (.lst xs) → H' p = some (.lst xs)) : ∀ {vs : List V} {xs : List (List Int)}, IntsAll H vs xs → IntsAll H' vs xs
  | [], [], _ => trivial
  | _ :: _, _ :: _, ⟨⟨p, e, h⟩, t⟩ => ⟨⟨p, e, k _ _ h⟩, t.keep k⟩
  | [], _ :: _, h => h.elim
  | _ :: _, [], h => h.elim
theorem IntsAll.same {H H' : Hp} (s : Same H H') {vs : List V} {xs : List (List Int)} (t : IntsAll H vs xs) : IntsAll H' vs xs := t.keep fun p xs e => s _ _ e
theorem IntsAll.length {H : Hp} : ∀ {vs : List V} {xs : List (List Int)}, IntsAll H vs xs → vs.length = xs.length
  | [], [], _ => rfl
  | _ :: _, _ :: _, ⟨_, t⟩ => by rw [List.length_cons, List.length_cons, t.length]
  | [], _ :: _, h => h.elim
  | _ :: _, [], h => h.elim
theorem IntsAll.get {H : Hp} : ∀ {vs : List V} {xs : List (List Int)} {i : Nat} {v : V}, IntsAll H vs xs → vs[i]? = some v → ∃ x p, xs[i]? = some x ∧ v = .ref p ∧ H p = some (.lst (x.map V.int))
  | _ :: _, x :: _, 0, v, ⟨⟨p, e, h⟩, _⟩, ev => by
    cases ev
    exact ⟨x, p, rfl, e, h⟩
  | _ :: _, _ :: _, i + 1, v, ⟨_, t⟩, ev => IntsAll.get (i := i) t ev
  | [], [], _, _, _, e => nomatch e
  | [], _ :: _, _, _, h, _ => h.elim
  | _ :: _, [], _, _, h, _ => h.elim
theorem IntsAll.app {H : Hp} {v : V} {x : List Int} (h : ∃ p, v = .ref p ∧ H p = some (.lst (x.map V.int))) : ∀ {vs : List V} {xs : List (List Int)}, IntsAll H vs xs → IntsAll H (vs ++ [v]) (xs ++ [x])
  | [], [], _ => ⟨h, trivial⟩
  | _ :: _, _ :: _, ⟨h0, t⟩ => ⟨h0, IntsAll.app h t⟩
  | [], _ :: _, h => h.elim
  | _ :: _, [], h => h.elim
theorem ints_of {H : Hp} {as : List Addr} {A : Nat → List Int} : ∀ {n : Nat}, as.length = n → (∀ i p, as[i]? = some p → H p = some (.lst ((A i).map V.int))) → IntsAll H (as.map V.ref) ((List.range n).map A) := by
  intro n hn h
  subst hn
  induction as generalizing A with
  | nil => exact trivial
  | cons p as ih =>
    rw [List.length_cons, List.range_succ_eq_map, List.map_cons, List.map_cons, List.map_map]
    exact ⟨⟨p, rfl, h 0 p rfl⟩, ih fun i q e => h (i + 1) q e⟩
/-- ties by numbers -/
def AdjI (N : List (List Int)) (a b : Int) : Prop := ∃ (i : Nat) (l : List Int), a = (i : Int) ∧ N[i]? = some l ∧ b ∈ l
/-- numbers of worths of at most a level -/
def LowI (ws : List Int) (t : Int) (a : Int) : Prop := ∃ (i : Nat) (v : Int), a = (i : Int) ∧ ws[i]? = some v ∧ v ≤ t
structure NearOf (n : Nat) (ps : List (Int × Int)) (N : List (List Int)) : Prop where
  len : N.length = n
  mem : ∀ (i : Nat) (l : List Int), N[i]? = some l → ∀ b, b ∈ l ↔ ((i : Int), b) ∈ ps ∨ (b, (i : Int)) ∈ ps
  sz : ∀ l ∈ N, l.length ≤ 100
def spNear : Sp := fun vs H Q _ => ∃ (w b : Addr) (W : Wb) (m : Nat), vs = [.ref w] ∧ WbAt H w W b ∧ W.Ok m ∧ m ≤ 9 ∧
  ∀ (r : Addr) (H' : Hp) (us : List V) (N : List (List Int)), Same H H' → H r = none → H' r = some (.lst us) → IntsAll H' us N → (∀ v ∈ us, ∃ p, v = .ref p ∧ H p = none) → NearOf W.lab.length W.prs N → Q (.ref r) H'
/-- what the floods walk over -/
structure Web2 (H : Hp) (r w : Addr) (us : List V) (N : List (List Int)) (ws : List Int) : Prop where
  er : H r = some (.lst us)
  ew : H w = some (.lst (ws.map V.int))
  iu : IntsAll H us N
  len : N.length = ws.length
  l60 : ws.length ≤ 60
  rng : ∀ l ∈ N, ∀ b ∈ l, 0 ≤ b ∧ b < (ws.length : Int)
  sy : ∀ a b, AdjI N a b → AdjI N b a
theorem Web2.mono {H H' : Hp} {r w : Addr} {us : List V} {N : List (List Int)} {ws : List Int} (s : Same H H') (h : Web2 H r w us N ws) : Web2 H' r w us N ws := ⟨s _ _ h.er, s _ _ h.ew, h.iu.same s, h.len, h.l60, h.rng, h.sy⟩
theorem atI_last' (xs : List V) (y : V) : atI (xs ++ [y]) (-1) = some y := by
  exact atI_last xs y
theorem tup_app {H : Hp} : ∀ {vs us : List V} {xs ys : List (Int × Int)}, TupAll H vs xs → TupAll H us ys → TupAll H (vs ++ us) (xs ++ ys)
  | [], _, [], _, _, h2 => h2
  | _ :: _, _, _ :: _, _, h, h2 => ⟨h.1, tup_app h.2 h2⟩
  | [], _, _ :: _, _, h, _ => h.elim
  | _ :: _, _, [], _, h, _ => h.elim
def spFlood : Sp := fun vs H Q _ => ∃ (r w : Addr) (us : List V) (N : List (List Int)) (ws : List Int) (s : Nat) (t v : Int), vs = [.ref r, .ref w, .int s, .int t] ∧ Web2 H r w us N ws ∧ ws[s]? = some v ∧ v ≤ t ∧
  ∀ (p : Addr) (H' : Hp) (F : List Int), Same H H' → H p = none → H' p = some (.lst (F.map V.int)) → F.Nodup → (∀ y, y ∈ F ↔ M9.Rch (AdjI N) (LowI ws t) s y) → F.length ≤ 60 → Q (.ref p) H'
def spPartsI : Sp := fun vs H Q _ => ∃ (r w : Addr) (us : List V) (N : List (List Int)) (ws : List Int) (t : Int), vs = [.ref r, .ref w, .int t] ∧ Web2 H r w us N ws ∧
  ∀ (p : Addr) (H' : Hp) (vs : List V) (L : List (List Int)), Same H H' → H p = none → H' p = some (.lst vs) → IntsAll H' vs L → M9.Parts (AdjI N) (LowI ws t) L → (∀ x, LowI ws t x → ∃ m ∈ L, x ∈ m) → (∀ m ∈ L, m.length ≤ 60) → L.length ≤ 60 → Q (.ref p) H'
structure ShutI (N : List (List Int)) (ws bs ds : List Int) (s t : Int) (L : List (List Int)) : Prop where
  parts : M9.Parts (AdjI N) (LowI ws t) L
  dry : ∀ m ∈ L, ∀ x ∈ m, x ∉ ds
  low : ∀ m ∈ L, ∃ x ∈ m, LowI bs s x
  all : ∀ x, LowI ws t x → (∀ y, M9.Rch (AdjI N) (LowI ws t) x y → y ∉ ds) → (∃ y, M9.Rch (AdjI N) (LowI ws t) x y ∧ LowI bs s y) → ∃ m ∈ L, x ∈ m
def spShutI : Sp := fun vs H Q _ => ∃ (r w bi dr : Addr) (us : List V) (N : List (List Int)) (ws bs ds : List Int) (s t : Int), vs = [.ref r, .ref w, .ref bi, .ref dr, .int s, .int t] ∧ Web2 H r w us N ws ∧ H bi = some (.lst (bs.map V.int)) ∧ bs.length = ws.length ∧ H dr = some (.lst (ds.map V.int)) ∧
  ∀ (p : Addr) (H' : Hp) (vs : List V) (L : List (List Int)), Same H H' → H p = none → H' p = some (.lst vs) → vs.length = L.length → ShutI N ws bs ds s t L → Q (.ref p) H'
def spLevelsL : Sp := fun vs H Q _ => ∃ (a : Addr) (xs : List Int), vs = [.ref a] ∧ H a = some (.lst (xs.map V.int)) ∧ xs.length ≤ 20 ∧
  ∀ (p : Addr) (H' : Hp) (ys : List Int), Same H H' → H p = none → H' p = some (.lst (ys.map V.int)) → ys.Pairwise (· ≤ ·) → (∀ y ∈ ys, y ∈ xs) → ys.length ≤ 20 → Q (.ref p) H'
def spSteps : Sp := fun vs H Q _ => ∃ (a : Addr) (xs : List Int), vs = [.ref a] ∧ H a = some (.lst (xs.map V.int)) ∧ xs.length ≤ 20 ∧
  ∀ (p : Addr) (H' : Hp) (us : List V) (es : List (Int × Int)), Same H H' → H p = none → H' p = some (.lst us) → TupAll H' us es → (∀ e ∈ es, e.1 ≤ e.2 ∧ e.1 ∈ xs ∧ e.2 ∈ xs) → Q (.ref p) H'
def spLand : Sp := fun vs H Q _ => ∃ (b w : Addr) (W : Wb) (n m : Nat), vs = [.ref b, .ref w] ∧ BoxAt H b n ∧ WbAt H w W b ∧ W.Ok m ∧ m ≤ 9 ∧ n ≤ 900000 ∧
  ∀ (p : Addr) (H' : Hp) (hs : List Int), Drw H H' b (n + 40) → H p = none → p ≠ b → H' p = some (.lst (hs.map V.int)) → hs.length = W.lab.length → (∀ (i : Nat) (l h x : Int), W.lo[i]? = some l → W.hi[i]? = some h → hs[i]? = some x → l ≤ x ∧ x ≤ h) → Q (.ref p) H'
def spPinned : Sp := fun vs H Q _ => ∃ (w a b : Addr) (W : Wb) (hs : List Int), vs = [.ref w, .ref a] ∧ WbAt H w W b ∧ H a = some (.lst (hs.map V.int)) ∧ a ≠ b ∧
  ∀ (p : Addr) (H' : Hp), Same H H' → H p = none → (p ≠ b → WbAt H' p { W with lo := hs, hi := hs } b) → Q (.ref p) H'
structure BnT (K : PySem.W.Frag) (mg : Str → Option Value) (C : Addr) : Prop where
  c : ClsT K mg "Bounds" C
  nl : NoAttr K C "low"
  nh : NoAttr K C "high"
structure ChT (K : PySem.W.Frag) (mg : Str → Option Value) (C : Addr) : Prop where
  c : ClsT K mg "Chart" C
  nb : NoAttr K C "bounds_by_name"
  nt : NoAttr K C "tied_by_name"
  no : NoAttr K C "outlet_names"
def spWhole : Sp := fun vs H Q _ => ∃ i : Int, vs = [.int i] ∧ Q (.bl true) H
def spHeightY : Sp := fun vs H Q _ => ∃ i : Int, vs = [.int i] ∧ heightB i = true ∧ Q (.bl true) H
def spCheckH : Sp := fun vs H Q _ => ∃ i : Int, vs = [.int i] ∧ heightB i = true ∧ Q .non H
def spLevelsY : Sp := fun vs H Q _ => ∃ i j : Int, vs = [.int i, .int j] ∧ heightB i = true ∧ heightB j = true ∧ i ≤ j ∧ Q .non H
def spNameY : Sp := fun vs H Q _ => ∃ z : Str, vs = [.str z] ∧ nameB z = true ∧ z.length ≤ 8 ∧ ∀ H', Same H H' → Q (.bl true) H'
def spBInitY (C : Addr) : Sp := fun vs H Q _ => ∃ (p dx : Addr) (l h : Int), vs = [.ref p, .int l, .int h] ∧ H p = some (.ins C dx []) ∧ heightB l = true ∧ heightB h = true ∧ l ≤ h ∧ Q .non (upd H p (.ins C dx (bf l h)))
def spPlaceY : Sp := fun vs H Q _ => ∃ (x : Str) (d : Addr) (kvs : List (L2.Key × V)), vs = [.str x, .ref d] ∧ Rd H d (.dK kvs) ∧ Q (.bl (valV kvs (Sum.inr x : L2.Key)).isSome) H
def spPlacesY (CB : Addr) : Sp := fun vs H Q _ => ∃ (d : Addr) (l : List Str) (ba : Str → Addr), vs = [.ref d] ∧ H d = some (.dK (byN l ba)) ∧ l.length ≤ 60 ∧ (∀ x ∈ l, nameB x = true ∧ x.length ≤ 8 ∧ ∃ dx fs, H (ba x) = some (.ins CB dx fs)) ∧ ∀ H', Same H H' → Q .non H'
def spPairY : Sp := fun vs H Q _ => ∃ (t d : Addr) (x y : Str) (l : List Str) (ba : Str → Addr), vs = [.ref t, .ref d] ∧ H t = some (.lst [.str x, .str y]) ∧ H d = some (.dK (byN l ba)) ∧ x ∈ l ∧ y ∈ l ∧ x ≠ y ∧ ∀ H', Same H H' → Q (.bl true) H'
def spTiesY : Sp := fun vs H Q _ => ∃ (t d : Addr) (ts : List V) (ps : List (Str × Str)) (l : List Str) (ba : Str → Addr), vs = [.ref t, .ref d] ∧ H t = some (.lst ts) ∧ LstAll H ts ps ∧ H d = some (.dK (byN l ba)) ∧ (∀ p ∈ ps, p.1 ∈ l ∧ p.2 ∈ l ∧ p.1 ≠ p.2) ∧ ∀ H', Same H H' → Q .non H'
def spOutsY : Sp := fun vs H Q _ => ∃ (o d : Addr) (os l : List Str) (ba : Str → Addr), vs = [.ref o, .ref d] ∧ H o = some (.lst (os.map V.str)) ∧ H d = some (.dK (byN l ba)) ∧ (∀ x ∈ os, x ∈ l) ∧ ∀ H', Same H H' → Q .non H'
/-- who is tied to whom -/
def Tied (ps : List (Str × Str)) (x y : Str) : Prop := (x, y) ∈ ps ∨ (y, x) ∈ ps
def spTied : Sp := fun vs H Q _ => ∃ (a t : Addr) (l : List Str) (ts : List V) (ps : List (Str × Str)), vs = [.ref a, .ref t] ∧ H a = some (.lst (l.map V.str)) ∧ l.Nodup ∧ l.length ≤ 60 ∧ H t = some (.lst ts) ∧ LstAll H ts ps ∧ (∀ p ∈ ps, p.1 ∈ l ∧ p.2 ∈ l ∧ p.1 ≠ p.2) ∧
  ∀ (r : Addr) (H' : Hp) (nbr : Str → List Str), Same H H' → H r = none → TdAt H' r l nbr → (∀ x ∈ l, (nbr x).Nodup ∧ ∀ y, y ∈ nbr x ↔ Tied ps x y) → Q (.ref r) H'
def spChInit (C CB : Addr) : Sp := fun vs H Q _ => ∃ (y dx d t o : Addr) (l os : List Str) (ba : Str → Addr) (lo hi : Str → Int) (ts : List V) (ps : List (Str × Str)), vs = [.ref y, .ref d, .ref t, .ref o] ∧ H y = some (.ins C dx []) ∧ H d = some (.dK (byN l ba)) ∧ l.Nodup ∧ l.length ≤ 60 ∧
  (∀ x ∈ l, nameB x = true ∧ x.length ≤ 8 ∧ BndAt CB H (ba x) (lo x) (hi x)) ∧ H t = some (.lst ts) ∧ LstAll H ts ps ∧ (∀ p ∈ ps, p.1 ∈ l ∧ p.2 ∈ l ∧ p.1 ≠ p.2) ∧ H o = some (.lst (os.map V.str)) ∧ (∀ x ∈ os, x ∈ l) ∧
  ∀ (H' : Hp) (c : Ch), But y H H' → ChAt C CB H' y c → c.names.Perm l → sortedS c.names = true → c.lo = lo → c.hi = hi → (∀ x ∈ l, (c.nbr x).Nodup ∧ ∀ z, z ∈ c.nbr x ↔ Tied ps x z) → (∀ x, x ∈ c.outs ↔ x ∈ os) → c.outs.Nodup → Q .non H'
/-- a dict of ints by names -/
def byI (l : List Str) (f : Str → Int) : List (L2.Key × V) := l.map fun x => ((Sum.inr x : L2.Key), V.int (f x))
theorem valV_byI {f : Str → Int} {x : Str} : ∀ {l : List Str}, x ∈ l → valV (byI l f) (Sum.inr x : L2.Key) = some (V.int (f x))
  | y :: l, h => by
    unfold byI valV
    rw [List.map_cons, List.find?_cons]
    by_cases e : y = x
    · subst e
      rw [decide_eq_true rfl]
      rfl
    · rw [decide_eq_false (fun z => e (Sum.inr.inj z))]
      have hl : x ∈ l := by
        rcases List.mem_cons.mp h with h | h
        · exact absurd h.symm e
        · exact h
      exact valV_byI (l := l) hl
theorem byI_len (l : List Str) (f : Str → Int) : (byI l f).length = l.length := List.length_map _
theorem putK_byI {l : List Str} {f : Str → Int} {x : Str} (h : x ∉ l) : putK (byI l f) (Sum.inr x : L2.Key) (V.int (f x)) = byI (l ++ [x]) f := by
  rw [putK_new]
  · unfold byI
    rw [List.map_append]
    rfl
  · intro p hp e
    obtain ⟨y, hy, rfl⟩ := List.mem_map.mp hp
    exact h (by rw [← Sum.inr.inj e]; exact hy)
/-- a dict of True by names -/
def byT (l : List Str) : List (L2.Key × V) := l.map fun x => ((Sum.inr x : L2.Key), V.bl true)
theorem valV_byT {x : Str} : ∀ {l : List Str}, (valV (byT l) (Sum.inr x : L2.Key)).isSome = decide (x ∈ l)
  | [] => by
    rw [decide_eq_false (fun h => nomatch h)]
    rfl
  | y :: l => by
    have ih := valV_byT (x := x) (l := l)
    unfold byT valV at ih ⊢
    rw [List.map_cons, List.find?_cons]
    by_cases e : y = x
    · subst e
      rw [decide_eq_true rfl, decide_eq_true (show y ∈ y :: l from List.mem_cons_self)]
      rfl
    · rw [decide_eq_false (fun z => e (Sum.inr.inj z))]
      rw [show decide (x ∈ y :: l) = decide (x ∈ l) from decide_eq_decide.mpr (by rw [List.mem_cons]; exact ⟨fun h => h.resolve_left (fun z => e z.symm), .inr⟩)]
      exact ih
theorem byT_len (l : List Str) : (byT l).length = l.length := List.length_map _
theorem putK_byT {l : List Str} {x : Str} (h : x ∉ l) : putK (byT l) (Sum.inr x : L2.Key) (V.bl true) = byT (l ++ [x]) := by
  rw [putK_new]
  · unfold byT
    rw [List.map_append]
    rfl
  · intro p hp e
    obtain ⟨y, hy, rfl⟩ := List.mem_map.mp hp
    exact h (by rw [← Sum.inr.inj e]; exact hy)
theorem mergeT : ∀ {m l : List Str}, m.Nodup → (∀ y ∈ m, y ∉ l) → mergeK (byT l) (byT m) = byT (l ++ m)
  | [], l, _, _ => by rw [List.append_nil]; rfl
  | x :: m, l, hn, h => by
    rw [List.nodup_cons] at hn
    show mergeK (putK (byT l) (Sum.inr x) (V.bl true)) (byT m) = _
    rw [putK_byT (h x List.mem_cons_self), mergeT hn.2 fun y hy hyl => ?_, List.append_assoc]
    · rfl
    · rcases List.mem_append.mp hyl with h1 | h1
      · exact h y (List.mem_cons_of_mem _ hy) h1
      · exact hn.1 (by rw [← List.mem_singleton.mp h1]; exact hy)
/-- lists of texts, item by item -/
def StrsAll (H : Hp) : List V → List (List Str) → Prop
  | [], [] => True
  | v :: vs, x :: xs => (∃ p, v = .ref p ∧ H p = some (.lst (x.map V.str))) ∧ StrsAll H vs xs
  | _, _ => False
theorem StrsAll.keep {H H' : Hp} (k : ∀ p xs, H p = some (.lst xs) → H' p = some (.lst xs)) : ∀ {vs : List V} {xs : List (List Str)}, StrsAll H vs xs → StrsAll H' vs xs
  | [], [], _ => trivial
  | _ :: _, _ :: _, ⟨⟨p, e, h⟩, t⟩ => ⟨⟨p, e, k _ _ h⟩, t.keep k⟩
  | [], _ :: _, h => h.elim
  | _ :: _, [], h => h.elim
theorem StrsAll.same {H H' : Hp} (s : Same H H') {vs : List V} {xs : List (List Str)} (t : StrsAll H vs xs) : StrsAll H' vs xs := t.keep fun p xs e => s _ _ e
theorem StrsAll.length {H : Hp} : ∀ {vs : List V} {xs : List (List Str)}, StrsAll H vs xs → vs.length = xs.length
  | [], [], _ => rfl
  | _ :: _, _ :: _, ⟨_, t⟩ => by rw [List.length_cons, List.length_cons, t.length]
  | [], _ :: _, h => h.elim
  | _ :: _, [], h => h.elim
theorem StrsAll.get {H : Hp} : ∀ {vs : List V} {xs : List (List Str)} {i : Nat} {v : V}, StrsAll H vs xs → vs[i]? = some v → ∃ x p, xs[i]? = some x ∧ v = .ref p ∧ H p = some (.lst (x.map V.str))
  | _ :: _, x :: _, 0, v, ⟨⟨p, e, h⟩, _⟩, ev => by
    cases ev
    exact ⟨x, p, rfl, e, h⟩
  | _ :: _, _ :: _, i + 1, v, ⟨_, t⟩, ev => StrsAll.get (i := i) t ev
  | [], [], _, _, _, e => nomatch e
  | [], _ :: _, _, _, h, _ => h.elim
  | _ :: _, [], _, _, h, _ => h.elim
theorem StrsAll.app {H : Hp} {v : V} {x : List Str} (h : ∃ p, v = .ref p ∧ H p = some (.lst (x.map V.str))) : ∀ {vs : List V} {xs : List (List Str)}, StrsAll H vs xs → StrsAll H (vs ++ [v]) (xs ++ [x])
  | [], [], _ => ⟨h, trivial⟩
  | _ :: _, _ :: _, ⟨h0, t⟩ => ⟨h0, StrsAll.app h t⟩
  | [], _ :: _, h => h.elim
  | _ :: _, [], h => h.elim
theorem StrsAll.hd {K : PySem.W.Frag} {H : Hp} : ∀ {vs : List V} {xs : List (List Str)}, StrsAll H vs xs → HdAll K H vs xs
  | [], [], _ => trivial
  | _ :: _, x :: _, ⟨⟨p, e, h⟩, t⟩ => by
    subst e
    exact ⟨hd_list (SqL.of h) (hd_strs x), t.hd⟩
  | [], _ :: _, h => h.elim
  | _ :: _, [], h => h.elim
/-- ties of a chart -/
def Adj (c : Ch) (x y : Str) : Prop := x ∈ c.names ∧ y ∈ c.nbr x
theorem Adj.sy {c : Ch} (h : c.Ok) (x y : Str) (a : Adj c x y) : Adj c y x := ⟨h.nin x a.1 y a.2, h.sy x a.1 y a.2⟩
def spNames (C CB : Addr) : Sp := fun vs H Q _ => ∃ (p : Addr) (c : Ch), vs = [.ref p] ∧ ChAt C CB H p c ∧ ∀ (r : Addr) (H' : Hp), Same H H' → H r = none → H' r = some (.lst (c.names.map V.str)) → Q (.ref r) H'
def spOutsM (C CB : Addr) : Sp := fun vs H Q _ => ∃ (p : Addr) (c : Ch), vs = [.ref p] ∧ ChAt C CB H p c ∧ ∀ (r : Addr) (H' : Hp), Same H H' → H r = none → H' r = some (.lst (c.outs.map V.str)) → Q (.ref r) H'
def spHasP (C CB : Addr) : Sp := fun vs H Q _ => ∃ (p : Addr) (x : Str) (c : Ch), vs = [.ref p, .str x] ∧ ChAt C CB H p c ∧ Q (.bl (decide (x ∈ c.names))) H
def spCheckPl (C CB : Addr) : Sp := fun vs H Q _ => ∃ (p : Addr) (x : Str) (c : Ch), vs = [.ref p, .str x] ∧ ChAt C CB H p c ∧ x ∈ c.names ∧ Q .non H
def spNbrs (C CB : Addr) : Sp := fun vs H Q _ => ∃ (p : Addr) (x : Str) (c : Ch), vs = [.ref p, .str x] ∧ ChAt C CB H p c ∧ x ∈ c.names ∧ ∀ (r : Addr) (H' : Hp), Same H H' → H r = none → H' r = some (.lst ((c.nbr x).map V.str)) → Q (.ref r) H'
def spItem (C CB : Addr) : Sp := fun vs H Q _ => ∃ (p : Addr) (x : Str) (c : Ch), vs = [.ref p, .str x] ∧ ChAt C CB H p c ∧ x ∈ c.names ∧ ∀ a, BndAt CB H a (c.lo x) (c.hi x) → Q (.ref a) H
def spEndsD (C CB : Addr) (low : Bool) : Sp := fun vs H Q _ => ∃ (p : Addr) (c : Ch), vs = [.ref p] ∧ ChAt C CB H p c ∧ c.Ok ∧ ∀ (r : Addr) (H' : Hp), Same H H' → H r = none → H' r = some (.dK (byI c.names (if low then c.lo else c.hi))) → Q (.ref r) H'
def spCheckC (C CB : Addr) : Sp := fun vs H Q _ => ∃ (p : Addr) (c : Ch), vs = [.ref p] ∧ ChAt C CB H p c ∧ Q .non H
def spLowPl : Sp := fun vs H Q _ => ∃ (d : Addr) (t : Int) (l : List Str) (f : Str → Int), vs = [.ref d, .int t] ∧ H d = some (.dK (byI l f)) ∧ l.length ≤ 60 ∧ ∀ (r : Addr) (H' : Hp), Same H H' → H r = none → H' r = some (.lst ((l.filter fun x => decide (f x ≤ t)).map V.str)) → Q (.ref r) H'
def spHasOut (C CB : Addr) : Sp := fun vs H Q _ => ∃ (p n : Addr) (c : Ch) (l : List Str), vs = [.ref p, .ref n] ∧ ChAt C CB H p c ∧ H n = some (.lst (l.map V.str)) ∧ l.length ≤ 60 ∧ ∀ H', Same H H' → Q (.bl (l.any fun x => decide (x ∈ c.outs))) H'
def spRank : Sp := fun vs H Q _ => ∃ (d : Addr) (x : Str) (l : List Str) (f : Str → Int), vs = [.ref d, .str x] ∧ H d = some (.dK (byI l f)) ∧ x ∈ l ∧ ∀ (r : Addr) (H' : Hp), Same H H' → H r = none → H' r = some (.tup [.int (f x), .str x]) → Q (.ref r) H'
def spPartAr (C CB : Addr) : Sp := fun vs H Q _ => ∃ (p n : Addr) (s : Str) (c : Ch) (l : List Str), vs = [.ref p, .str s, .ref n] ∧ ChAt C CB H p c ∧ c.Ok ∧ H n = some (.dK (byT l)) ∧ s ∈ l ∧ (∀ x ∈ l, x ∈ c.names) ∧
  ∀ (r : Addr) (H' : Hp) (ys : List Str), Same H H' → H r = none → H' r = some (.lst (ys.map V.str)) → ys.Nodup → (∀ y, y ∈ ys ↔ M9.Rch (Adj c) (· ∈ l) s y) → Q (.ref r) H'
def spPartsOf (C CB : Addr) : Sp := fun vs H Q _ => ∃ (p n : Addr) (c : Ch) (l : List Str), vs = [.ref p, .ref n] ∧ ChAt C CB H p c ∧ c.Ok ∧ H n = some (.lst (l.map V.str)) ∧ l.Nodup ∧ (∀ x ∈ l, x ∈ c.names) ∧
  ∀ (r : Addr) (H' : Hp) (L : List (List Str)) (us : List V), Same H H' → H r = none → H' r = some (.lst us) → StrsAll H' us L → M9.Parts (Adj c) (· ∈ l) L → (∀ x ∈ l, ∃ m ∈ L, x ∈ m) → (∀ m ∈ L, m.Nodup) → L.length ≤ 60 → Q (.ref r) H'
/-- the closed parts at two levels, told by their names -/
structure Shut (c : Ch) (f g : Str → Int) (s t : Int) (L : List (List Str)) : Prop where
  parts : M9.Parts (Adj c) (fun x => x ∈ c.names ∧ f x ≤ t) L
  dry : ∀ m ∈ L, ∀ x ∈ m, x ∉ c.outs
  low : ∀ m ∈ L, ∃ x ∈ m, g x ≤ s
  all : ∀ x, x ∈ c.names → f x ≤ t → (∀ y, M9.Rch (Adj c) (fun x => x ∈ c.names ∧ f x ≤ t) x y → y ∉ c.outs) → (∃ y, M9.Rch (Adj c) (fun x => x ∈ c.names ∧ f x ≤ t) x y ∧ g y ≤ s) → ∃ m ∈ L, x ∈ m
  len : L.length ≤ 60
  sz : ∀ m ∈ L, m.length ≤ 60
def spClosed (C CB : Addr) : Sp := fun vs H Q _ => ∃ (p a b : Addr) (s t : Int) (c : Ch) (f g : Str → Int), vs = [.ref p, .ref a, .ref b, .int s, .int t] ∧ ChAt C CB H p c ∧ c.Ok ∧ H a = some (.dK (byI c.names f)) ∧ H b = some (.dK (byI c.names g)) ∧
  ∀ (r : Addr) (H' : Hp) (L : List (List Str)) (us : List V), Same H H' → H r = none → H' r = some (.lst us) → StrsAll H' us L → Shut c f g s t L → Q (.ref r) H'
def spCheckSL (C CB : Addr) : Sp := fun vs H Q _ => ∃ (p : Addr) (i j : Int) (c : Ch), vs = [.ref p, .int i, .int j] ∧ ChAt C CB H p c ∧ heightB i = true ∧ heightB j = true ∧ i ≤ j ∧ Q .non H
def spSureR (C CB : Addr) : Sp := fun vs H Q _ => ∃ (p : Addr) (s t : Int) (c : Ch), vs = [.ref p, .int s, .int t] ∧ ChAt C CB H p c ∧ c.Ok ∧ heightB s = true ∧ heightB t = true ∧ s ≤ t ∧
  ∀ (r : Addr) (H' : Hp) (L : List (List Str)) (us : List V), Same H H' → H r = none → H' r = some (.lst us) → us.length = L.length → Shut c c.lo c.hi s t L → Q (.ref r) H'
def spSureC (C CB : Addr) : Sp := fun vs H Q _ => ∃ (p : Addr) (s t : Int) (c : Ch), vs = [.ref p, .int s, .int t] ∧ ChAt C CB H p c ∧ c.Ok ∧ heightB s = true ∧ heightB t = true ∧ s ≤ t ∧
  ∀ (H' : Hp) (L : List (List Str)), Same H H' → Shut c c.lo c.hi s t L → Q (.int (L.length : Nat)) H'
theorem lists_sub {l m : List Str} (hn : m.Nodup) (hs : ∀ x ∈ m, x ∈ l) : m.length ≤ l.length := List.Nodup.length_le_of_subset hn hs
end L9

/-! charts of webs: what they tell; regions of a chart and closed parts of its lands, counted -/
namespace L9
open PySem PySem.Spec PyProof.Rows L2
def spLaidY (C CB : Addr) : Sp := fun vs H Q _ => ∃ (b w : Addr) (W : Wb) (n m : Nat), vs = [.ref b, .ref w] ∧ BoxAt H b n ∧ WbAt H w W b ∧ W.Ok m ∧ m ≤ 9 ∧ n ≤ 800000 ∧
  ∀ (p : Addr) (H' : Hp) (c : Ch), Drw H H' b (n + 40) → H p = none → ChAt C CB H' p c → OfWeb W c → Q (.ref p) H'
def isThree (vs : List V) (Q : V → V → V → Prop) : Prop := ∃ u v w, vs = [u, v, w] ∧ Q u v w
theorem w_isThree {u v w : V} {Q : V → V → V → Prop} (q : Q u v w) : isThree [u, v, w] Q := ⟨u, v, w, rfl, q⟩
theorem w_par3 {i j l : Nat} {t : TA} {D : Ends} {σ : L2.St} {H : Hp} (q : t σ H fun vs H1 => isThree vs fun u v w => D.nx (((σ.set i (some u)).set j (some v)).set l (some w)) H1) : tPar3 i j l t D σ H := q
/-- the label of a number -/
def Wb.at (W : Wb) (i : Int) : Str := W.lab.getD i.toNat Str.empty
def Wb.pr (W : Wb) (q : Int × Int) : Str × Str := (W.at q.2, W.at q.1)
theorem Wb.at_some {W : Wb} {i : Nat} {x : Str} (h : W.lab[i]? = some x) : W.at (i : Int) = x := by
  unfold Wb.at
  rw [Int.toNat_natCast, List.getD_eq_getElem?_getD, h]
  rfl
theorem Wb.at_get {W : Wb} {i : Int} (h0 : 0 ≤ i) (h1 : i < (W.lab.length : Int)) : W.lab[i.toNat]? = some (W.at i) := by
  have : i.toNat < W.lab.length := by omega
  unfold Wb.at
  rw [List.getD_eq_getElem?_getD, List.getElem?_eq_getElem this]
  rfl
theorem idx_of {l : List Str} (nd : l.Nodup) {i : Nat} {x : Str} (h : l[i]? = some x) : l.idxOf x = i := by
  have hi : i < l.length := by
    rcases Nat.lt_or_ge i l.length with h2 | h2
    · exact h2
    · rw [List.getElem?_eq_none h2] at h; cases h
  have hx := List.mem_of_getElem? h
  have hl := List.idxOf_lt_length_of_mem hx
  have h3 : l[l.idxOf x]? = some x := by rw [List.getElem?_eq_getElem hl, List.getElem_idxOf]
  exact (List.getElem?_inj hl nd).mp (h3.trans h.symm)
theorem idx_get {l : List Str} {x : Str} (h : x ∈ l) : l[l.idxOf x]? = some x := by
  rw [List.getElem?_eq_getElem (List.idxOf_lt_length_of_mem h), List.getElem_idxOf]
theorem get_lt {α : Type} {l : List α} {i : Nat} {x : α} (h : l[i]? = some x) : i < l.length := by
  rcases Nat.lt_or_ge i l.length with h2 | h2
  · exact h2
  · rw [List.getElem?_eq_none h2] at h; cases h
theorem Wb.loF_at {W : Wb} {m : Nat} (hW : W.Ok m) {i : Nat} {x : Str} {v : Int} (h : W.lab[i]? = some x) (hv : W.lo[i]? = some v) : W.loF x = v := by
  unfold Wb.loF
  rw [idx_of hW.labs.nd h, List.getD_eq_getElem?_getD, hv]
  rfl
theorem Wb.hiF_at {W : Wb} {m : Nat} (hW : W.Ok m) {i : Nat} {x : Str} {v : Int} (h : W.lab[i]? = some x) (hv : W.hi[i]? = some v) : W.hiF x = v := by
  unfold Wb.hiF
  rw [idx_of hW.labs.nd h, List.getD_eq_getElem?_getD, hv]
  rfl
theorem tied_pr {W : Wb} {m : Nat} (hW : W.Ok m) {qs : List (Int × Int)} (hq : qs.Perm W.prs) (x y : Str) : Tied (qs.map W.pr) x y ↔ ∃ i j : Nat, (((i : Int), (j : Int)) ∈ W.prs ∧ ((W.lab[i]? = some x ∧ W.lab[j]? = some y) ∨ (W.lab[i]? = some y ∧ W.lab[j]? = some x))) := by
  have key : ∀ u v : Str, (u, v) ∈ qs.map W.pr ↔ ∃ i j : Nat, ((i : Int), (j : Int)) ∈ W.prs ∧ W.lab[i]? = some v ∧ W.lab[j]? = some u := fun u v => by
    rw [List.mem_map]
    constructor
    · rintro ⟨⟨a, b⟩, hm, e⟩
      have hp := hq.mem_iff.mp hm
      obtain ⟨h1, h2, h3⟩ := hW.prs _ hp
      have h1 : 0 ≤ a := h1
      have h2 : a < b := h2
      have h3 : b < (W.lab.length : Int) := h3
      injection e with e1 e2
      have e1 : W.at b = u := e1
      have e2 : W.at a = v := e2
      refine ⟨a.toNat, b.toNat, ?_, ?_, ?_⟩
      · rw [Int.toNat_of_nonneg h1, Int.toNat_of_nonneg (by omega)]
        exact hp
      · rw [Wb.at_get h1 (by omega), e2]
      · rw [Wb.at_get (by omega) h3, e1]
    · rintro ⟨i, j, hp, h1, h2⟩
      refine ⟨((i : Int), (j : Int)), hq.mem_iff.mpr hp, ?_⟩
      show (W.at (j : Int), W.at (i : Int)) = _
      rw [Wb.at_some h1, Wb.at_some h2]
  unfold Tied
  rw [key, key]
  constructor
  · rintro (⟨i, j, h, h1, h2⟩ | ⟨i, j, h, h1, h2⟩)
    · exact ⟨i, j, h, .inr ⟨h1, h2⟩⟩
    · exact ⟨i, j, h, .inl ⟨h1, h2⟩⟩
  · rintro ⟨i, j, h, ⟨h1, h2⟩ | ⟨h1, h2⟩⟩
    · exact .inr ⟨i, j, h, h1, h2⟩
    · exact .inl ⟨i, j, h, h1, h2⟩
theorem ofWeb_mk {W : Wb} {m : Nat} (hW : W.Ok m) (hm : m ≤ 9) {c : Ch} {lb os : List Str} {qs : List (Int × Int)} (hlb : ∀ x, x ∈ lb ↔ x ∈ W.lab) (hlbn : lb.Nodup) (hq : qs.Perm W.prs) (hos : os = W.dr.map W.at)
    (h1 : c.names.Perm lb) (h2 : c.lo = W.loF) (h3 : c.hi = W.hiF) (h4 : ∀ x ∈ lb, (c.nbr x).Nodup ∧ ∀ z, z ∈ c.nbr x ↔ Tied (qs.map W.pr) x z) (h5 : ∀ x, x ∈ c.outs ↔ x ∈ os) (h6 : c.outs.Nodup) : OfWeb W c := by
  have nm : ∀ x, x ∈ c.names ↔ x ∈ W.lab := fun x => by rw [h1.mem_iff, hlb]
  have nbr : ∀ x ∈ W.lab, ∀ y, y ∈ c.nbr x ↔ ∃ i j : Nat, (((i : Int), (j : Int)) ∈ W.prs ∧ ((W.lab[i]? = some x ∧ W.lab[j]? = some y) ∨ (W.lab[i]? = some y ∧ W.lab[j]? = some x))) := fun x hx y => by
    rw [(h4 x ((hlb x).mpr hx)).2 y, tied_pr hW hq]
  have outs : ∀ x, x ∈ c.outs ↔ ∃ d : Nat, (d : Int) ∈ W.dr ∧ W.lab[d]? = some x := fun x => by
    rw [h5, hos, List.mem_map]
    constructor
    · rintro ⟨d, hd, rfl⟩
      obtain ⟨g1, g2⟩ := hW.dr d hd
      exact ⟨d.toNat, by rw [Int.toNat_of_nonneg g1]; exact hd, Wb.at_get g1 g2⟩
    · rintro ⟨d, hd, e⟩
      exact ⟨(d : Int), hd, Wb.at_some e⟩
  have hy : ∀ x ∈ W.lab, ∀ y, y ∈ c.nbr x → y ∈ W.lab := fun x hx y h => by
    obtain ⟨i, j, _, ⟨_, g⟩ | ⟨g, _⟩⟩ := (nbr x hx y).mp h <;> exact List.mem_of_getElem? g
  refine ⟨⟨h1.nodup_iff.mpr hlbn, ?_, fun x hx => ?_, fun x hx y h => ?_, fun x hx => (h4 x (h1.mem_iff.mp hx)).1, fun x hx y h => ?_, fun x hx => ?_, h6⟩, nm, h2, h3, nbr, outs⟩
  · have g1 : lb.length ≤ W.lab.length := List.Nodup.length_le_of_subset hlbn fun x hx => (hlb x).mp hx
    have g2 := hW.len
    rw [h1.length_eq]
    omega
  · have hx := (nm x).mp hx
    have g := idx_get hx
    have gl := get_lt g
    obtain ⟨a, ha⟩ : ∃ v, W.lo[W.lab.idxOf x]? = some v := ⟨_, List.getElem?_eq_getElem (by rw [hW.llo]; exact gl)⟩
    obtain ⟨z, hz⟩ : ∃ v, W.hi[W.lab.idxOf x]? = some v := ⟨_, List.getElem?_eq_getElem (by rw [hW.lhi]; exact gl)⟩
    rw [h2, h3, Wb.loF_at hW g ha, Wb.hiF_at hW g hz]
    exact hW.bnd _ a z ha hz
  · exact (nm y).mpr (hy x ((nm x).mp hx) y h)
  · have hx := (nm x).mp hx
    obtain ⟨i, j, h7, h8⟩ := (nbr x hx y).mp h
    exact (nbr y (hy x hx y h) x).mpr ⟨i, j, h7, h8.symm⟩
  · obtain ⟨d, _, e⟩ := (outs x).mp hx
    exact (nm x).mpr (List.mem_of_getElem? e)
theorem LstAll.refs {H : Hp} : ∀ {vs : List V} {xs : List (Str × Str)}, LstAll H vs xs → ∀ v ∈ vs, ∃ p, v = .ref p
  | [], [], _, v, h => nomatch h
  | _ :: _, _ :: _, ⟨⟨p, e, _⟩, t⟩, v, h => by
    rcases List.mem_cons.mp h with h | h
    · exact ⟨p, h.trans e⟩
    · exact t.refs v h
  | [], _ :: _, h, _, _ => h.elim
  | _ :: _, [], h, _, _ => h.elim
/-- a list of references is none of them -/
theorem LstAll.at {H : Hp} {D : Addr} {us : List V} {o : HO} (eD : H D = some (.lst us)) (hr : ∀ v ∈ us, ∃ p, v = .ref p) : ∀ {vs : List V} {xs : List (Str × Str)}, LstAll H vs xs → LstAll (L2.upd H D o) vs xs
  | [], [], _ => trivial
  | _ :: _, _ :: _, ⟨⟨p, e, h⟩, t⟩ => by
    refine ⟨⟨p, e, (upd_ne fun z => ?_).trans h⟩, LstAll.at eD hr t⟩
    rw [z, eD] at h
    have h := HO.lst.inj (Option.some.inj h)
    rw [h] at hr
    obtain ⟨p, hp⟩ := hr _ List.mem_cons_self
    cases hp
  | [], _ :: _, h => h.elim
  | _ :: _, [], h => h.elim
/-! ### closed parts of lands, and regions -/
section
variable {W : Wb} {m : Nat} {c : Ch} {N : List (List Int)} {hs : List Int} {s t : Int} {L : List (List Str)} {M : List (List Int)}
theorem adj_to (hW : W.Ok m) (hc : OfWeb W c) (hN : NearOf W.lab.length W.prs N) {a b : Int} (h : AdjI N a b) : Adj c (W.at a) (W.at b) ∧ 0 ≤ b ∧ b < (W.lab.length : Int) := by
  obtain ⟨i, l, rfl, hl, hb⟩ := h
  have hi := get_lt hl
  rw [hN.len] at hi
  obtain ⟨x, hx⟩ : ∃ x, W.lab[i]? = some x := ⟨_, List.getElem?_eq_getElem hi⟩
  have hxl := List.mem_of_getElem? hx
  have both : 0 ≤ b ∧ b < (W.lab.length : Int) := by
    rcases (hN.mem i l hl b).mp hb with h | h
    · obtain ⟨h1, h2, h3⟩ := hW.prs _ h
      have h1 : 0 ≤ (i : Int) := h1
      have h2 : (i : Int) < b := h2
      have h3 : b < (W.lab.length : Int) := h3
      omega
    · obtain ⟨h1, h2, h3⟩ := hW.prs _ h
      have h1 : 0 ≤ b := h1
      have h2 : b < (i : Int) := h2
      have h3 : (i : Int) < (W.lab.length : Int) := h3
      omega
  refine ⟨?_, both⟩
  have hy := Wb.at_get both.1 both.2
  rw [Wb.at_some hx]
  refine ⟨(hc.nm x).mpr hxl, (hc.nbr x hxl _).mpr ?_⟩
  have eb : (b.toNat : Int) = b := Int.toNat_of_nonneg both.1
  rcases (hN.mem i l hl b).mp hb with h | h
  · exact ⟨i, b.toNat, by rw [eb]; exact h, .inl ⟨hx, hy⟩⟩
  · exact ⟨b.toNat, i, by rw [eb]; exact h, .inr ⟨hy, hx⟩⟩
def Wb.ix (W : Wb) (x : Str) : Int := (W.lab.idxOf x : Nat)
theorem Wb.at_ix {x : Str} (h : x ∈ W.lab) : W.at (W.ix x) = x := Wb.at_some (idx_get h)
theorem adj_fro (hW : W.Ok m) (hc : OfWeb W c) (hN : NearOf W.lab.length W.prs N) {x y : Str} (h : Adj c x y) : AdjI N (W.ix x) (W.ix y) := by
  obtain ⟨hx, hy⟩ := h
  have hx := (hc.nm x).mp hx
  obtain ⟨i, j, hp, h⟩ := (hc.nbr x hx y).mp hy
  have nd := hW.labs.nd
  have hl : (N : List (List Int)).length = W.lab.length := hN.len
  rcases h with ⟨h1, h2⟩ | ⟨h1, h2⟩
  · obtain ⟨l, hl⟩ : ∃ l, N[i]? = some l := ⟨_, List.getElem?_eq_getElem (by rw [hl]; exact get_lt h1)⟩
    refine ⟨i, l, ?_, hl, ?_⟩
    · unfold Wb.ix; rw [idx_of nd h1]
    · unfold Wb.ix; rw [idx_of nd h2]; exact (hN.mem i l hl _).mpr (.inl hp)
  · obtain ⟨l, hl⟩ : ∃ l, N[j]? = some l := ⟨_, List.getElem?_eq_getElem (by rw [hl]; exact get_lt h2)⟩
    refine ⟨j, l, ?_, hl, ?_⟩
    · unfold Wb.ix; rw [idx_of nd h2]
    · unfold Wb.ix; rw [idx_of nd h1]; exact (hN.mem j l hl _).mpr (.inr hp)
theorem adjI_sy (hW : W.Ok m) (hN : NearOf W.lab.length W.prs N) (a b : Int) (h : AdjI N a b) : AdjI N b a := by
  obtain ⟨i, l, rfl, hl, hb⟩ := h
  have hi := get_lt hl
  rw [hN.len] at hi
  have hp := (hN.mem i l hl b).mp hb
  have both : 0 ≤ b ∧ b < (W.lab.length : Int) := by
    rcases hp with h | h
    · obtain ⟨h1, h2, h3⟩ := hW.prs _ h
      have h1 : 0 ≤ (i : Int) := h1
      have h2 : (i : Int) < b := h2
      have h3 : b < (W.lab.length : Int) := h3
      omega
    · obtain ⟨h1, h2, h3⟩ := hW.prs _ h
      have h1 : 0 ≤ b := h1
      have h2 : b < (i : Int) := h2
      have h3 : (i : Int) < (W.lab.length : Int) := h3
      omega
  have eb : (b.toNat : Int) = b := Int.toNat_of_nonneg both.1
  obtain ⟨l2, hl2⟩ : ∃ l, N[b.toNat]? = some l := ⟨_, List.getElem?_eq_getElem (by rw [hN.len]; omega)⟩
  exact ⟨b.toNat, l2, eb.symm, hl2, (hN.mem _ l2 hl2 _).mpr (by rw [eb]; exact hp.symm)⟩
/-- heights of a land of the web -/
structure LandOf (W : Wb) (hs : List Int) : Prop where
  len : hs.length = W.lab.length
  bnd : ∀ (i : Nat) (l h x : Int), W.lo[i]? = some l → W.hi[i]? = some h → hs[i]? = some x → l ≤ x ∧ x ≤ h
theorem low_to (hW : W.Ok m) (hc : OfWeb W c) (hl : LandOf W hs) {a : Int} (h : LowI hs t a) : W.at a ∈ c.names ∧ c.lo (W.at a) ≤ t := by
  obtain ⟨i, v, rfl, hv, hvt⟩ := h
  have hi := get_lt hv
  rw [hl.len] at hi
  obtain ⟨x, hx⟩ : ∃ x, W.lab[i]? = some x := ⟨_, List.getElem?_eq_getElem hi⟩
  obtain ⟨lo, hlo⟩ : ∃ v, W.lo[i]? = some v := ⟨_, List.getElem?_eq_getElem (by rw [hW.llo]; exact hi)⟩
  obtain ⟨hg, hhg⟩ : ∃ v, W.hi[i]? = some v := ⟨_, List.getElem?_eq_getElem (by rw [hW.lhi]; exact hi)⟩
  rw [Wb.at_some hx, hc.lo, Wb.loF_at hW hx hlo]
  exact ⟨(hc.nm x).mpr (List.mem_of_getElem? hx), Int.le_trans (hl.bnd i lo hg v hlo hhg hv).1 hvt⟩
/-- each sure region has a closed part of the land of its own -/
theorem sure_le (hW : W.Ok m) (hc : OfWeb W c) (hN : NearOf W.lab.length W.prs N) (hl : LandOf W hs) (hst : s ≤ t) (hL : Shut c c.lo c.hi s t L) (hM : ShutI N hs hs W.dr s t M) : L.length ≤ M.length := by
  have sy := Adj.sy hc.ok
  have syI := adjI_sy hW hN
  have mp : ∀ {a b : Int}, M9.Rch (AdjI N) (LowI hs t) a b → M9.Rch (Adj c) (fun x => x ∈ c.names ∧ c.lo x ≤ t) (W.at a) (W.at b) := fun h =>
    h.map W.at (fun a h => low_to hW hc hl h) (fun a b _ _ h => (adj_to hW hc hN h).1)
  refine M9.count_le (D := fun a b => ∀ y ∈ a, y ∉ b) (R := fun (r : List Str) (k : List Int) => ∃ i ∈ k, W.at i ∈ r ∧ k ∈ M ∧ r ∈ L) ?_ L M hL.parts.apart fun r hr => ?_
  · rintro r r' k ⟨i, hi, hir, hk, hr⟩ ⟨j, hj, hjr, _, hr'⟩ hd
    have h1 := ((hM.parts.at syI hk hi).2 j).mp hj
    have h2 := ((hL.parts.at sy hr hir).2 (W.at j)).mpr (mp h1)
    exact hd _ h2 hjr
  · obtain ⟨x, hx, hxs⟩ := hL.low r hr
    obtain ⟨⟨hxn, hxt⟩, hxr⟩ := hL.parts.at sy hr hx
    have hxl := (hc.nm x).mp hxn
    have g := idx_get hxl
    have gl := get_lt g
    obtain ⟨v, hv⟩ : ∃ v, hs[W.lab.idxOf x]? = some v := ⟨_, List.getElem?_eq_getElem (by rw [hl.len]; exact gl)⟩
    obtain ⟨lo, hlo⟩ : ∃ v, W.lo[W.lab.idxOf x]? = some v := ⟨_, List.getElem?_eq_getElem (by rw [hW.llo]; exact gl)⟩
    obtain ⟨hg, hhg⟩ : ∃ v, W.hi[W.lab.idxOf x]? = some v := ⟨_, List.getElem?_eq_getElem (by rw [hW.lhi]; exact gl)⟩
    have hb := hl.bnd _ lo hg v hlo hhg hv
    rw [hc.hi, Wb.hiF_at hW g hhg] at hxs
    have hvs : v ≤ s := Int.le_trans hb.2 hxs
    have ex : W.at (W.ix x) = x := Wb.at_ix hxl
    have low : LowI hs t (W.ix x) := ⟨_, v, rfl, hv, Int.le_trans hvs hst⟩
    have hdry : ∀ y, M9.Rch (AdjI N) (LowI hs t) (W.ix x) y → y ∉ W.dr := fun y hy hdr => by
      have h1 := mp hy
      rw [ex] at h1
      have h2 := (hxr _).mpr h1
      obtain ⟨d, ed, hd⟩ : ∃ d : Nat, y = (d : Int) ∧ d < W.lab.length := by
        obtain ⟨i, v, rfl, hv, _⟩ := hy.last
        exact ⟨i, rfl, by rw [← hl.len]; exact get_lt hv⟩
      subst ed
      refine hL.dry r hr _ h2 ((hc.outs _).mpr ⟨d, hdr, ?_⟩)
      have := Wb.at_get (W := W) (i := (d : Int)) (by omega) (by omega)
      rw [Int.toNat_natCast] at this
      exact this
    obtain ⟨k, hk, hik⟩ := hM.all (W.ix x) low hdry ⟨W.ix x, .refl low, _, v, rfl, hv, hvs⟩
    exact ⟨k, hk, W.ix x, hik, by rw [ex]; exact hx, hk, hr⟩
/-- .. and where the bounds are the heights, each closed part a region -/
theorem sure_ge (hW : W.Ok m) (hc : OfWeb W c) (hN : NearOf W.lab.length W.prs N) (hlo : W.lo = hs) (hhi : W.hi = hs) (hL : Shut c c.lo c.hi s t L) (hM : ShutI N hs hs W.dr s t M) : M.length ≤ L.length := by
  have sy := Adj.sy hc.ok
  have syI := adjI_sy hW hN
  have lowf : ∀ x, x ∈ c.names ∧ c.lo x ≤ t → LowI hs t (W.ix x) := fun x h => by
    have g := idx_get ((hc.nm x).mp h.1)
    obtain ⟨v, hv⟩ : ∃ v, W.lo[W.lab.idxOf x]? = some v := ⟨_, List.getElem?_eq_getElem (by rw [hW.llo]; exact get_lt g)⟩
    have h2 := h.2
    rw [hc.lo, Wb.loF_at hW g hv] at h2
    exact ⟨_, v, rfl, hlo ▸ hv, h2⟩
  have mp : ∀ {x y : Str}, M9.Rch (Adj c) (fun x => x ∈ c.names ∧ c.lo x ≤ t) x y → M9.Rch (AdjI N) (LowI hs t) (W.ix x) (W.ix y) := fun h =>
    h.map W.ix lowf (fun a b _ _ h => adj_fro hW hc hN h)
  refine M9.count_le (D := fun a b => ∀ y ∈ a, y ∉ b) (R := fun (k : List Int) (r : List Str) => ∃ x ∈ r, W.ix x ∈ k ∧ k ∈ M ∧ r ∈ L) ?_ M L hM.parts.apart fun k hk => ?_
  · rintro r r' k ⟨i, hi, hir, hk, hr⟩ ⟨j, hj, hjr, hk', hr'⟩ hd
    have h1 := ((hL.parts.at sy hr hi).2 j).mp hj
    have h2 := ((hM.parts.at syI hk hir).2 (W.ix j)).mpr (mp h1)
    exact hd _ h2 hjr
  · obtain ⟨a, ha, i, v, rfl, hv, hvs⟩ := hM.low k hk
    obtain ⟨⟨i', v', ei, hv', hvt⟩, hkr⟩ := hM.parts.at syI hk ha
    have ei : i' = i := by omega
    subst ei
    rw [hv] at hv'
    cases hv'
    have hi : i' < W.lab.length := by rw [← hW.llo, hlo]; exact get_lt hv
    obtain ⟨x, hx⟩ : ∃ x, W.lab[i']? = some x := ⟨_, List.getElem?_eq_getElem hi⟩
    have hxl := List.mem_of_getElem? hx
    have hxn := (hc.nm x).mpr hxl
    have ix : W.ix x = (i' : Int) := by unfold Wb.ix; rw [idx_of hW.labs.nd hx]
    have hlox : c.lo x = v := by rw [hc.lo]; exact Wb.loF_at hW hx (hlo.symm ▸ hv)
    have hhix : c.hi x = v := by rw [hc.hi]; exact Wb.hiF_at hW hx (hhi.symm ▸ hv)
    have hS : x ∈ c.names ∧ c.lo x ≤ t := ⟨hxn, by rw [hlox]; exact hvt⟩
    have hdry : ∀ y, M9.Rch (Adj c) (fun x => x ∈ c.names ∧ c.lo x ≤ t) x y → y ∉ c.outs := fun y hy ho => by
      have h1 := mp hy
      rw [ix] at h1
      have h2 := (hkr _).mpr h1
      obtain ⟨d, hd, e⟩ := (hc.outs y).mp ho
      refine hM.dry k hk _ h2 ?_
      have : W.ix y = (d : Int) := by unfold Wb.ix; rw [idx_of hW.labs.nd e]
      rw [this]
      exact hd
    obtain ⟨r, hr, hxr⟩ := hL.all x hxn hS.2 hdry ⟨x, .refl hS, by rw [hhix]; exact hvs⟩
    exact ⟨r, hr, x, hxr, by rw [ix]; exact ha, hk, hr⟩
end
theorem strs_no_box {l : List Str} {n : Nat} {xs : List V} (h : BoxV n xs) (e : l.map V.str = xs) : False := by
  obtain ⟨x, y, z, rfl, _⟩ := h
  cases l with
  | nil => cases e
  | cons a l => cases e
theorem ChAt.drw {C CB : Addr} {H H' : Hp} {p b : Addr} {c : Ch} {n m : Nat} (d : Drw H H' b n) (hb : BoxAt H b m) (h : ChAt C CB H p c) : ChAt C CB H' p c := by
  obtain ⟨xs, eb, hx⟩ := hb
  have kI : ∀ q C dx fs, H q = some (.ins C dx fs) → H' q = some (.ins C dx fs) := fun q C dx fs e => d.keep q _ (fun z => by rw [z, eb] at e; cases e) e
  have kD : ∀ q kvs, H q = some (.dK kvs) → H' q = some (.dK kvs) := fun q kvs e => d.keep q _ (fun z => by rw [z, eb] at e; cases e) e
  have kL : ∀ q (l : List Str), H q = some (.lst (l.map V.str)) → H' q = some (.lst (l.map V.str)) := fun q l e => d.keep q _ (fun z => by
    rw [z, eb] at e
    exact strs_no_box hx (HO.lst.inj (Option.some.inj e)).symm) e
  obtain ⟨dx, b2, t, o, h0, ⟨ba, h1, h1'⟩, ⟨ta, h2, h2'⟩, h3⟩ := h
  exact ⟨dx, b2, t, o, kI _ _ _ _ h0, ⟨ba, kD _ _ h1, fun x hx2 => by
    obtain ⟨dy, ey⟩ := h1' x hx2
    exact ⟨dy, kI _ _ _ _ ey⟩⟩, ⟨ta, kD _ _ h2, fun x hx2 => kL _ _ (h2' x hx2)⟩, kL _ _ h3⟩
theorem IntsAll.but {H H' : Hp} {b : Addr} (k : ∀ q o, q ≠ b → H q = some o → H' q = some o) : ∀ {vs : List V} {xs : List (List Int)}, (∀ v ∈ vs, ∃ p, v = .ref p ∧ p ≠ b) → IntsAll H vs xs → IntsAll H' vs xs
  | [], [], _, _ => trivial
  | v :: _, _ :: _, hn, ⟨⟨p, e, h⟩, t⟩ => by
    obtain ⟨p', e', hp⟩ := hn v List.mem_cons_self
    have : p = p' := by rw [e] at e'; exact V.ref.inj e'
    exact ⟨⟨p, e, k _ _ (by rw [this]; exact hp) h⟩, t.but k fun v hv => hn v (List.mem_cons_of_mem _ hv)⟩
  | [], _ :: _, _, h => h.elim
  | _ :: _, [], _, h => h.elim
/-- the web of a land -/
theorem ok_pin {W : Wb} {m : Nat} {hs : List Int} (hW : W.Ok m) (hl : hs.length = W.lab.length) (hb : ∀ (i : Nat) (l h x : Int), W.lo[i]? = some l → W.hi[i]? = some h → hs[i]? = some x → l ≤ x ∧ x ≤ h) : ({ W with lo := hs, hi := hs } : Wb).Ok m := by
  refine ⟨hW.len1, hW.len, hW.labs, hl, hl, fun i a z ha hz => ?_, hW.prs, hW.pnd, hW.pl, hW.dr, hW.dnd⟩
  have ha : hs[i]? = some a := ha
  have hz : hs[i]? = some z := hz
  rw [ha] at hz
  cases hz
  have hi := get_lt ha
  rw [hl] at hi
  obtain ⟨lo, hlo⟩ : ∃ v, W.lo[i]? = some v := ⟨_, List.getElem?_eq_getElem (by rw [hW.llo]; exact hi)⟩
  obtain ⟨hg, hhg⟩ : ∃ v, W.hi[i]? = some v := ⟨_, List.getElem?_eq_getElem (by rw [hW.lhi]; exact hi)⟩
  obtain ⟨b1, b2, b3⟩ := hW.bnd i lo hg hlo hhg
  obtain ⟨c1, c2⟩ := hb i lo hg a hlo hhg ha
  exact ⟨Int.le_trans b1 c1, Int.le_refl _, Int.le_trans c2 b3⟩
theorem lo_height {W : Wb} {m : Nat} (hW : W.Ok m) {x : Int} (h : x ∈ W.lo) : heightB x = true := by
  obtain ⟨i, hx⟩ := List.getElem?_of_mem h
  have hi := get_lt hx
  obtain ⟨hg, hhg⟩ : ∃ v, W.hi[i]? = some v := ⟨_, List.getElem?_eq_getElem (by rw [hW.lhi, ← hW.llo]; exact hi)⟩
  obtain ⟨b1, b2, b3⟩ := hW.bnd i x hg hx hhg
  unfold heightB
  rw [decide_eq_true b1, decide_eq_true (Int.le_trans b2 b3)]
  rfl
end L9

/-! min(xs, default=d), x < y of pairs, len of an own class, an instance called, defs with a default; levels of floods -/
namespace L9
open PySem PySem.Spec PyProof.Rows L2
/-! ### the least of some -/
theorem minI_spec : ∀ (xs : List Int) (x : Int), PySem.W.minOf x xs ∈ x :: xs ∧ ∀ y ∈ x :: xs, PySem.W.minOf x xs ≤ y
  | [], x => ⟨List.mem_cons_self, fun y hy => by rw [List.mem_singleton.mp hy]; exact Int.le_refl _⟩
  | z :: xs, x => by
    have e : PySem.W.minOf x (z :: xs) = PySem.W.minOf (if PySem.W.DatumOrd.lt z x = true then z else x) xs := rfl
    obtain ⟨h1, h2⟩ := minI_spec xs (if PySem.W.DatumOrd.lt z x = true then z else x)
    rw [← e] at h1 h2
    have hlt : (PySem.W.DatumOrd.lt z x = true) ↔ z < x := decide_eq_true_iff
    by_cases h : PySem.W.DatumOrd.lt z x = true
    · rw [if_pos h] at h1 h2
      have hzx := hlt.mp h
      have h3 := h2 z List.mem_cons_self
      refine ⟨?_, fun y hy => ?_⟩
      · rcases List.mem_cons.mp h1 with g | g
        · rw [g]; simp
        · exact List.mem_cons_of_mem _ (List.mem_cons_of_mem _ g)
      · rcases List.mem_cons.mp hy with g | g
        · rw [g]; omega
        · exact h2 y g
    · rw [if_neg h] at h1 h2
      have hzx : ¬ z < x := fun g => h (hlt.mpr g)
      have h3 := h2 x List.mem_cons_self
      refine ⟨?_, fun y hy => ?_⟩
      · rcases List.mem_cons.mp h1 with g | g
        · rw [g]; exact List.mem_cons_self
        · exact List.mem_cons_of_mem _ (List.mem_cons_of_mem _ g)
      · rcases List.mem_cons.mp hy with g | g
        · rw [g]; exact h3
        · rcases List.mem_cons.mp g with g | g
          · rw [g]; omega
          · exact h2 y (List.mem_cons_of_mem _ g)
/-- (a number, a text) before another one -/
def ltR (p q : Int × Str) : Bool := PySem.W.DatumOrd.lt p q
theorem ltR_iff {p q : Int × Str} : ltR p q = true ↔ p.1 < q.1 ∨ (p.1 = q.1 ∧ p.2.cps.toList < q.2.cps.toList) := by
  show (if p.1 = q.1 then PySem.W.DatumOrd.lt p.2 q.2 else PySem.W.DatumOrd.lt p.1 q.1) = true ↔ _
  by_cases h : p.1 = q.1
  · rw [if_pos h]
    have : (PySem.W.DatumOrd.lt p.2 q.2 = true) ↔ p.2.cps.toList < q.2.cps.toList := decide_eq_true_iff
    rw [this]
    constructor
    · exact fun g => .inr ⟨h, g⟩
    · rintro (g | g)
      · omega
      · exact g.2
  · rw [if_neg h]
    have : (PySem.W.DatumOrd.lt p.1 q.1 = true) ↔ p.1 < q.1 := decide_eq_true_iff
    rw [this]
    constructor
    · exact fun g => .inl g
    · rintro (g | g)
      · exact g
      · exact absurd g.1 h
theorem ltR_irrefl (p : Int × Str) : ¬ ltR p p = true := fun h => by
  rcases ltR_iff.mp h with h | h
  · exact absurd h (Int.lt_irrefl _)
  · exact List.lt_irrefl _ h.2
theorem ltR_trans {p q r : Int × Str} (h : ltR p q = true) (k : ltR q r = true) : ltR p r = true := by
  rw [ltR_iff] at *
  rcases h with h | ⟨h, h'⟩
  · rcases k with k | ⟨k, _⟩
    · exact .inl (by omega)
    · exact .inl (by omega)
  · rcases k with k | ⟨k, k'⟩
    · exact .inl (by omega)
    · exact .inr ⟨by omega, List.lt_trans h' k'⟩
theorem ltR_fst {p q : Int × Str} (h : ltR p q = true) : p.1 ≤ q.1 := by
  rcases ltR_iff.mp h with h | h
  · omega
  · omega
theorem minR_spec : ∀ (xs : List (Int × Str)) (x : Int × Str), PySem.W.minOf x xs ∈ x :: xs ∧ ∀ y ∈ x :: xs, (PySem.W.minOf x xs).1 ≤ y.1
  | [], x => ⟨List.mem_cons_self, fun y hy => by rw [List.mem_singleton.mp hy]; exact Int.le_refl _⟩
  | z :: xs, x => by
    have e : PySem.W.minOf x (z :: xs) = PySem.W.minOf (if ltR z x = true then z else x) xs := rfl
    obtain ⟨h1, h2⟩ := minR_spec xs (if ltR z x = true then z else x)
    rw [← e] at h1 h2
    by_cases h : ltR z x = true
    · rw [if_pos h] at h1 h2
      have hzx := ltR_fst h
      have h3 := h2 z List.mem_cons_self
      refine ⟨?_, fun y hy => ?_⟩
      · rcases List.mem_cons.mp h1 with g | g
        · rw [g]; simp
        · exact List.mem_cons_of_mem _ (List.mem_cons_of_mem _ g)
      · rcases List.mem_cons.mp hy with g | g
        · rw [g]; omega
        · exact h2 y g
    · rw [if_neg h] at h1 h2
      have hzx : x.1 ≤ z.1 := by
        rcases Int.lt_or_le z.1 x.1 with g | g
        · exact absurd (ltR_iff.mpr (.inl g)) h
        · exact g
      have h3 := h2 x List.mem_cons_self
      refine ⟨?_, fun y hy => ?_⟩
      · rcases List.mem_cons.mp h1 with g | g
        · rw [g]; exact List.mem_cons_self
        · exact List.mem_cons_of_mem _ (List.mem_cons_of_mem _ g)
      · rcases List.mem_cons.mp hy with g | g
        · rw [g]; exact h3
        · rcases List.mem_cons.mp g with g | g
          · rw [g]; omega
          · exact h2 y (List.mem_cons_of_mem _ g)
section
variable {X : Cx}
/-- min(xs) of pairs (a number, a text): the least by its place -/
def rMinR (K : PySem.W.Frag) : List V → Hp → VK → Prop := fun ws H Q => ∃ (p : Addr) (vs : List V) (x : Int × Str) (xs : List (Int × Str)), ws = [.ref p] ∧ SqL K H p vs ∧ HdAll K H vs (x :: xs) ∧ ∀ (i : Nat) v z, vs[i]? = some v → (x :: xs)[i]? = some z → z = PySem.W.minOf x xs → Q v H
theorem cr_minR (hc : X.calm = true) (hu : X.A.units + 1 + 64 < cLine) : CallR X (.builtin "min") (rMinR X.K) := by
  intro pins s σ H ws us Q I r h
  obtain ⟨p, vs, x, xs, rfl, hl, ha, q⟩ := h
  rw [Vals.ref1 r]
  obtain ⟨its, rv, pl, hz⟩ := I.list hl
  obtain ⟨as, rd⟩ := Dp.readsAll I _ _ _ ha.dp rv
  refine PySem.W.min_list_datum (I.ok.hd hc) pl.isList (x := x) (xs := xs) ⟨as, by simpa using rd⟩ (Nat.lt_of_le_of_lt (Nat.add_le_add_left (by decide) _) hu) fun i v h2 tk hi hv hk => ?_
  have hi2 : its[i]? = some v := by simpa using hi
  obtain ⟨y, hy, ry⟩ := vals_at rv hi2
  obtain ⟨z, hz2, hzd⟩ := HdAll.get ha hy
  obtain ⟨as2, rd2⟩ := Dp.reads I _ _ _ hzd ry
  obtain ⟨as3, rd3⟩ := hv
  have e : PySem.W.Datum.toD z = PySem.W.Datum.toD (PySem.W.minOf x xs) := reads_inj _ _ _ _ _ (PySem.W.Datum.plain z) (PyProof.Rows.Reads.keeps hk rd2) rd3
  have e2 : z = PySem.W.minOf x xs := by
    have e : PyData.tuple [.int z.1, .str z.2] = PyData.tuple [.int (PySem.W.minOf x xs).1, .str (PySem.W.minOf x xs).2] := e
    injection e with e
    injection e with e1 e
    injection e with e3 _
    injection e1 with e1
    injection e3 with e3
    exact Prod.ext e1 e3
  exact ⟨y, H, I.kept hk, ry, q i y z hy hz2 e2⟩
/-- min(xs, default=d) of ints -/
def rMinDI (K : PySem.W.Frag) : List V → List V → Hp → VK → Prop := fun ws zs H Q => ∃ (p : Addr) (ns : List Int) (d : V), ws = [.ref p] ∧ zs = [d] ∧ SqL K H p (ns.map V.int) ∧ (ns = [] → Q d H) ∧ ∀ m, m ∈ ns → (∀ y ∈ ns, m ≤ y) → Q (.int m) H
theorem cr_minDI (hc : X.calm = true) (hu : X.A.units + 1 + 64 < cLine) : CallRK X (.builtin "min") ["default"] (rMinDI X.K) := by
  intro pins s σ H xs zs us ws Q I r rz h
  obtain ⟨p, ns, d, rfl, rfl, hl, h0, h1⟩ := h
  rw [Vals.ref1 r]
  obtain ⟨dv, rfl, rd0⟩ := vals1 rz
  obtain ⟨its, rv, pl, hz⟩ := I.list hl
  obtain ⟨as, rd⟩ := Dp.readsAll I _ _ _ (hd_ints (K := X.K) (H := H) ns).dp rv
  refine PySem.W.min_list_datum_default (α := Int) (I.ok.hd hc) pl.isList (xs := ns) ⟨as, by simpa using rd⟩ (Nat.lt_of_le_of_lt (by show _ + 0 ≤ _; omega) hu) (fun e h' tk hk => ?_) fun y ys i v h' tk e hi hv hk => ?_
  · exact ⟨d, H, I.kept hk, rd0, h0 e⟩
  · subst e
    obtain ⟨m1, m2⟩ := minI_spec ys y
    obtain ⟨as3, rd3⟩ := hv
    have hv2 : ∃ t, v = Value.int (PySem.W.minOf y ys) t := by
      have rd3 : Reads h' v (.int (PySem.W.minOf y ys)) as3 := rd3
      cases rd3
      exact ⟨_, rfl⟩
    exact ⟨.int (PySem.W.minOf y ys), H, I.kept hk, hv2, h1 _ m1 m2⟩
/-- x < y of data of the one type -/
def rLtT (α : Type) [DecidableEq α] [PySem.W.DatumOrd α] (K : PySem.W.Frag) : R2 := fun v u H Q => ∃ x y : α, Hd K H v x ∧ Hd K H u y ∧ Q (.bl (PySem.W.DatumOrd.lt x y)) H
theorem op_ltT {α : Type} [DecidableEq α] [PySem.W.DatumOrd α] (hu : X.A.units + PySem.W.Datum.depth α < cLine) : OpR X (compareOp .Lt) (rLtT α X.K) := by
  intro pins s σ H v u v' u' Q I rv ru h
  obtain ⟨x, y, h1, h2, q⟩ := h
  exact PySem.W.lt_datum (Dp.reads I _ _ _ h1 rv) (Dp.reads I _ _ _ h2 ru) hu ⟨.bl _, H, I, rfl, q⟩
theorem op_ltTK {K' : PySem.W.Frag} (hk : X.K = K') {α : Type} [DecidableEq α] [PySem.W.DatumOrd α] (hu : X.A.units + PySem.W.Datum.depth α < cLine) : OpR X (compareOp .Lt) (rLtT α K') := by subst hk; exact op_ltT hu
/-- len(x), x of the class at C -/
def rLenO (C : Addr) (sp : Sp) : List V → Hp → VK → Prop := fun xs H Q => ∃ a dx fs, xs = [.ref a] ∧ H a = some (.ins C dx fs) ∧ sp [.ref a] H (fun z H' => ∃ n : Int, z = .int n ∧ 0 ≤ n ∧ n < 2 ^ 63 ∧ Q (.int n) H') E0
theorem OCal.len {C : Addr} {k : Nat} {ps : List Str} {sp : Sp} (M : OCal X.prog X.w X.K X.mg X.base C "__len__" k ps sp) (hr : Room (k + 1) X.A) : CallR X (.builtin "len") (rLenO C sp) := by
  obtain ⟨f, fd, G, hs, hf, hf2, b⟩ := M.ex
  intro pins s σ H xs us Q I r h
  obtain ⟨a, dx, fs, rfl, ha, q⟩ := h
  rw [Vals.ref1 r]
  obtain ⟨od, J⟩ := inst_at I ha
  obtain ⟨mm, hF⟩ := I.fr
  refine PySem.W.len_K hF I.ok.mod.kin J hs hf ?_
  refine wpAny_mono (run_fn1 (us := [.ref a]) (vs := [.ref a]) G hr b pass0 I (.cons rfl .nil) q) (fun w s' z => ?_) fun _ _ z => z
  obtain ⟨z', H', I', rz, n, ez, h0, h1, qz⟩ := z
  subst ez
  obtain ⟨t, rfl⟩ := rz
  exact ⟨⟨h0, h1⟩, .int n, H', I'.tok _, ⟨_, rfl⟩, qz⟩
/-- o(e, ..), o of the class at C -/
theorem OCal.call {C : Addr} {k : Nat} {ps : List Str} {sp : Sp} {fe e : Expr} {es : List Expr} {tf : TE} {t : TA} {pos : Pos} (M : OCal X.prog X.w X.K X.mg X.base C "__call__" k ps sp) (hr : Room k X.A) (hf : PE X fe tf) (ha : PA X (e :: es) t)
    (ht : eval (.Call fe (e :: es) [] pos) X.env = (do callWith pos (← eval fe X.env) [] (backTo pos (starEach (e :: es) X.env)) (backToKw pos (keywordEach [] X.env))) := by rfl)
    (he : starEach (e :: es) X.env = (false, eval e X.env) :: starEach es X.env := by rfl) (hpl : (backTo pos (starEach es X.env)).any (·.1) = false := by rfl) : PE X (.Call fe (e :: es) [] pos) (StX.tCallO X C (fun vs H Q E => sp (vs ++ []) H Q E) E0 tf t) := by
  obtain ⟨f, fd, G, hs, hf', hf2, b⟩ := M.ex
  exact StX.pe_callO hf ⟨hs, hf', hf2⟩ (G.raw b .nil) hr pass0 ha ht he hpl
end
/-- the def x whose last parameters have the values dvs where nothing is written -/
structure CalD (P : Program) (w : World) (K : PySem.W.Frag) (mg : Str → Option Value) (base : Heap) (x : Str) (k : Nat) (ps : List Str) (dvs : List V) (sp : Sp) : Prop where
  ex : ∃ (f : Addr) (fd : FuncData) (ds : List Value), FnOk P w K mg base CX0 k f fd ps sp ∧ mg x = some (.ref f) ∧ PySem.W.keepIn K (.ref f) = true ∧ Vals dvs ds ∧ Binds K fd ps ds
theorem pe_calD {X : Cx} {x : Str} {k : Nat} {ps : List Str} {dvs : List V} {sp : Sp} {p pos : Pos} {e : Expr} {es : List Expr} {t : TA} (C : CalD X.prog X.w X.K X.mg X.base x k ps dvs sp) (hr : Room k X.A) (hg : Gl X x) (ha : PA X (e :: es) t)
    (hdb : (x == ("__debug__" : Str)) = false := by decide) (he : starEach (e :: es) X.env = (false, eval e X.env) :: starEach es X.env := by rfl) (hpl : (backTo pos (starEach es X.env)).any (·.1) = false := by rfl) :
    PE X (.Call (.Name x p) (e :: es) [] pos) (tCall sp dvs E0 t) := by
  obtain ⟨f, fd, ds, G, hm, hk, hd, hb⟩ := C.ex
  exact pe_call G hr hg hm hk hb hd pass0 ha hdb he hpl
section
variable {X : Cx}
/-- name = {.. : ..} on one line, the name a local -/
theorem ps_setDc {i : Nat} {y : Str} {py : Pos} {kx vx tg iter : Expr} {ifs : List Expr} {scope : Scope} {own : List (Str × Nat)} {pos spos : Pos} {wi : TI} {g : TG} {tt : TT} {tk tv : TE}
    (hc : X.calm = true) (hN : X.N.Nodup) (hy : X.N[i]? = some y) (hyl : X.env.scope.names.lookup y = some .local)
    (hsw : swapsWith (.DictComp kx vx [⟨tg, iter, ifs, 0⟩] scope pos) (some (.Name y py)) spos.line X.env = pure true) (hi : PI X tg iter wi) (ok : BlkOk X.N X.env.scope scope own)
    (hg : ∀ (s1 : Shared) (H1 : Hp) (C : Addr) (cl : List (Str × Addr)) (fp : List Addr), PG (X.blk s1 H1 scope (compEnvC scope cl C X.env) fp) tg g)
    (ht : ∀ (s1 : Shared) (H1 : Hp) (C : Addr) (cl : List (Str × Addr)) (fp : List Addr), PTs (X.blk s1 H1 scope (compEnvC scope cl C X.env) fp) ifs tt)
    (hk : ∀ (s1 : Shared) (H1 : Hp) (C : Addr) (cl : List (Str × Addr)) (fp : List Addr), PE (X.blk s1 H1 scope (compEnvC scope cl C X.env) fp) kx tk)
    (he : ∀ (s1 : Shared) (H1 : Hp) (C : Addr) (cl : List (Str × Addr)) (fp : List Addr), PE (X.blk s1 H1 scope (compEnvC scope cl C X.env) fp) vx tv) (hs : ∀ x, foldedSetIterable iter X.env x = pure x := by intro _; rfl) :
    PS X (.Assign [.Name y py] (.DictComp kx vx [⟨tg, iter, ifs, 0⟩] scope pos) spos) (tAsg (tDc wi g tt tk tv (own.map (·.2))) (gName i)) := by
  refine ⟨fun pins s σ H D I h => ?_⟩
  rw [exec_Assign_Name_used _ _ _ _ hsw]
  refine wpAny_bind (wpAny_standAt (wpAny_bind ?_))
  show wpAny _ X.A (do let _ ← comprehension (.DictComp kx vx [⟨tg, iter, ifs, 0⟩] scope pos) scope X.env (firstIterPos [⟨tg, iter, ifs, 0⟩] pos) newDict false (eval iter X.env) (some (assign (.Name y py) X.env))) _ _ s
  have hw : tDc wi g tt tk tv (own.map (·.2)) σ H (fun x H1 => gName i x σ H1 D.nx) := h
  refine wpAny_bind (thn (dc_core (Qf := fun _ s2 => SP X pins D .next s2) hc hN I hi ok hg ht hk he hs hw fun L C s2 m H2 I2 q hn fo => ?_) fun _ s3 hq => wpAny_pure (wpAny_pure hq))
  show wpAny _ _ (assign (.Name y py) X.env (.ref L)) _ _ _
  obtain ⟨f0, f1, f2, f3, f4, f5⟩ := fo
  refine wpAny_assign_Name (store_ok2 (v := V.ref L) I2 hN hy (.inl hyl) rfl (fun s4 I4 ⟨a, sb, ha⟩ => ?_) (.inr hyl))
  have haC : C ≠ a := by
    rcases ha with z | z
    · rw [z]; exact f1
    · exact fun e => f4 y a z e.symm
  exact ⟨m, hn.sameBut sb haC, fun h3 sb3 => ⟨_, H2, I4.turned (t' := s4.toks) (fun b o hb e => (sb3.2 b hb).trans e) f0 f1 f3 f4 f5, q⟩⟩
theorem sw_dict {kx vx : Expr} {gs : List Comprehension} {scope : Scope} {pos py : Pos} {y : Str} {l : Nat} {env : Env} (hk : env.scope.kind = .function) (hy : env.scope.names.lookup y = some .local) (hl : (py.line == pos.line) = true)
    (ha : (scope.names.any fun (n, k) => n == y && (k == .local || k == .cell)) = false) : swapsWith (.DictComp kx vx gs scope pos) (some (.Name y py)) l env = pure true := by
  have ky : env.kindOf y = some .local := hy
  have hb : env.blockKind = .function := by unfold Env.blockKind; rw [hk]; rfl
  unfold swapsWith
  simp only [hb, ky, ha, Expr.pos, hl]
  rfl
end
end L9

/-! dicts by names; levels of floods: what the walk by the least level keeps -/
namespace L9
open PySem PySem.Spec PyProof.Rows L2
/-- a dict by names -/
def byV (l : List Str) (g : Str → V) : List (L2.Key × V) := l.map fun x => ((Sum.inr x : L2.Key), g x)
theorem byI_V (l : List Str) (f : Str → Int) : byI l f = byV l (fun x => V.int (f x)) := rfl
theorem byV_len (l : List Str) (g : Str → V) : (byV l g).length = l.length := List.length_map _
def insN (l : List Str) (x : Str) : List Str := if x ∈ l then l else l ++ [x]
def upF {α : Type} (f : Str → α) (x : Str) (v : α) : Str → α := fun y => if y = x then v else f y
theorem mem_insN {l : List Str} {x y : Str} : y ∈ insN l x ↔ y ∈ l ∨ y = x := by
  unfold insN
  by_cases h : x ∈ l
  · rw [if_pos h]
    exact ⟨.inl, fun g => g.elim id fun e => by rw [e]; exact h⟩
  · rw [if_neg h, List.mem_append, List.mem_singleton]
theorem nodup_insN {l : List Str} {x : Str} (h : l.Nodup) : (insN l x).Nodup := by
  unfold insN
  by_cases hx : x ∈ l
  · rw [if_pos hx]; exact h
  · rw [if_neg hx, List.nodup_append]
    exact ⟨h, by simp, fun a ha c hc e => hx (by rw [List.mem_singleton.mp hc] at e; rw [← e]; exact ha)⟩
theorem any_byV {l : List Str} {g : Str → V} {x : Str} : ((byV l g).any fun kv => decide (kv.1 = (Sum.inr x : L2.Key))) = decide (x ∈ l) := by
  unfold byV
  rw [List.any_map]
  induction l with
  | nil => rfl
  | cons y l ih =>
    rw [List.any_cons, ih]
    by_cases e : y = x
    · subst e
      simp
    · have e2 : ¬ x = y := fun h => e h.symm
      have : ¬ ((Sum.inr y : L2.Key) = Sum.inr x) := fun h => e (Sum.inr.inj h)
      simp [this, e2, Function.comp]
theorem putK_byV {l : List Str} {g : Str → V} {x : Str} {v : V} : putK (byV l g) (Sum.inr x : L2.Key) v = byV (insN l x) (upF g x v) := by
  unfold putK
  rw [any_byV]
  unfold insN
  by_cases h : x ∈ l
  · rw [decide_eq_true h, if_pos rfl, if_pos h]
    unfold byV
    rw [List.map_map]
    refine List.map_congr_left fun y _ => ?_
    show (if (Sum.inr y : L2.Key) = Sum.inr x then ((Sum.inr y : L2.Key), v) else (Sum.inr y, g y)) = (Sum.inr y, if y = x then v else g y)
    by_cases e : y = x
    · rw [if_pos (by rw [e]), if_pos e]
    · rw [if_neg (fun z => e (Sum.inr.inj z)), if_neg e]
  · rw [decide_eq_false h, if_neg (by decide), if_neg h]
    unfold byV
    rw [List.map_append]
    congr 1
    · refine List.map_congr_left fun y hy => ?_
      show _ = ((Sum.inr y : L2.Key), if y = x then v else g y)
      rw [if_neg (fun e => h (by rw [← e]; exact hy))]
    · show _ = [((Sum.inr x : L2.Key), if x = x then v else g x)]
      rw [if_pos rfl]
theorem valV_byV {g : Str → V} {x : Str} : ∀ {l : List Str}, valV (byV l g) (Sum.inr x : L2.Key) = if x ∈ l then some (g x) else none
  | [] => rfl
  | y :: l => by
    have ih := valV_byV (g := g) (x := x) (l := l)
    unfold byV at ih ⊢
    rw [List.map_cons]
    by_cases e : y = x
    · subst e
      rw [valV_pos rfl, if_pos List.mem_cons_self]
    · rw [valV_neg (fun z => e (Sum.inr.inj z)), ih]
      by_cases h : x ∈ l
      · rw [if_pos h, if_pos (List.mem_cons_of_mem _ h)]
      · rw [if_neg h, if_neg (fun z => (List.mem_cons.mp z).elim (fun q => e q.symm) h)]
theorem dropK_byV {l : List Str} {g : Str → V} {x : Str} : dropK (byV l g) (Sum.inr x : L2.Key) = byV (l.filter fun y => decide (y ≠ x)) g := by
  unfold dropK byV
  rw [List.filter_map]
  congr 1
  refine List.filter_congr fun y _ => ?_
  show decide ((Sum.inr y : L2.Key) ≠ Sum.inr x) = decide (y ≠ x)
  by_cases e : y = x
  · subst e; simp
  · have : ¬ ((Sum.inr y : L2.Key) = Sum.inr x) := fun h => e (Sum.inr.inj h)
    simp [this, e]
theorem isSome_byV {l : List Str} {g : Str → V} {x : Str} : (valV (byV l g) (Sum.inr x : L2.Key)).isSome = decide (x ∈ l) := by
  rw [valV_byV]
  by_cases h : x ∈ l
  · rw [if_pos h, decide_eq_true h]; rfl
  · rw [if_neg h, decide_eq_false h]; rfl
/-- reached at a level at most t -/
inductive Fl (adj : Str → Str → Prop) (f : Str → Int) (sl : List Str) (sv : Str → Int) (t : Int) : Str → Prop
  | start {s : Str} : s ∈ sl → sv s ≤ t → Fl adj f sl sv t s
  | step {x y : Str} : Fl adj f sl sv t x → adj x y → f y ≤ t → Fl adj f sl sv t y
theorem Fl.mono {adj : Str → Str → Prop} {f : Str → Int} {sl : List Str} {sv : Str → Int} {t u : Int} (h : t ≤ u) {x : Str} (k : Fl adj f sl sv t x) : Fl adj f sl sv u x := by
  induction k with
  | start h1 h2 => exact .start h1 (Int.le_trans h2 h)
  | step _ a b ih => exact .step ih a (Int.le_trans b h)
/-- what stands between two turns; pend: pairs that are still to come -/
structure Dij (adj : Str → Str → Prop) (ns : List Str) (f : Str → Int) (sl : List Str) (sv : Str → Int) (pend : Str → Str → Prop) (L : List Str) (g : Str → Int) (Wt : List Str) (w : Str → Int) : Prop where
  ndL : L.Nodup
  ndW : Wt.Nodup
  mL : ∀ x ∈ L, x ∈ ns
  mW : ∀ x ∈ Wt, x ∈ ns
  dj : ∀ x ∈ L, x ∉ Wt
  le : ∀ x ∈ L, ∀ y ∈ Wt, g x ≤ w y
  sL : ∀ x ∈ L, Fl adj f sl sv (g x) x
  sW : ∀ x ∈ Wt, Fl adj f sl sv (w x) x
  st : ∀ s ∈ sl, (s ∈ L ∧ g s ≤ sv s) ∨ (s ∈ Wt ∧ w s ≤ sv s)
  cl : ∀ x ∈ L, ∀ y, adj x y → ¬ pend x y → (y ∈ L ∧ g y ≤ max (g x) (f y)) ∨ (y ∈ Wt ∧ w y ≤ max (g x) (f y))
section
variable {adj : Str → Str → Prop} {ns : List Str} {f : Str → Int} {sl : List Str} {sv : Str → Int} {L : List Str} {g : Str → Int} {Wt : List Str} {w : Str → Int} {pend pend' : Str → Str → Prop}
theorem Dij.init (nd : sl.Nodup) (hm : ∀ x ∈ sl, x ∈ ns) : Dij adj ns f sl sv (fun _ _ => False) [] g sl sv :=
  ⟨List.nodup_nil, nd, (fun _ h => nomatch h), hm, (fun _ h => nomatch h), (fun _ h => nomatch h), (fun _ h => nomatch h), fun x hx => .start hx (Int.le_refl _), fun s hs => .inr ⟨hs, Int.le_refl _⟩, (fun _ h => nomatch h)⟩
theorem Dij.pop (D : Dij adj ns f sl sv (fun _ _ => False) L g Wt w) {here : Str} (hh : here ∈ Wt) (hmin : ∀ y ∈ Wt, w here ≤ w y) :
    Dij adj ns f sl sv (fun x _ => x = here) (insN L here) (upF g here (w here)) (Wt.filter fun y => decide (y ≠ here)) w ∧ here ∉ L ∧ (∀ x ∈ insN L here, upF g here (w here) x ≤ w here) ∧ (∀ y ∈ Wt.filter (fun y => decide (y ≠ here)), w here ≤ w y) := by
  have hL : here ∉ L := fun h => D.dj here h hh
  have up1 : ∀ x ∈ L, upF g here (w here) x = g x := fun x hx => by
    unfold upF
    rw [if_neg (fun e => hL (by rw [← e]; exact hx))]
  have up2 : upF g here (w here) here = w here := by
    unfold upF
    rw [if_pos rfl]
  have mf : ∀ y, y ∈ Wt.filter (fun y => decide (y ≠ here)) ↔ y ∈ Wt ∧ y ≠ here := fun y => by
    rw [List.mem_filter, decide_eq_true_eq]
  have top : ∀ x ∈ insN L here, upF g here (w here) x ≤ w here := fun x hx => by
    rcases mem_insN.mp hx with h | h
    · rw [up1 x h]; exact D.le x h here hh
    · rw [h, up2]; exact Int.le_refl _
  have low : ∀ y ∈ Wt.filter (fun y => decide (y ≠ here)), w here ≤ w y := fun y hy => hmin y ((mf y).mp hy).1
  refine ⟨⟨nodup_insN D.ndL, D.ndW.filter _, fun x hx => ?_, fun x hx => D.mW x ((mf x).mp hx).1, fun x hx hy => ?_, fun x hx y hy => Int.le_trans (top x hx) (low y hy), fun x hx => ?_, fun x hx => D.sW x ((mf x).mp hx).1, fun s hs => ?_, fun x hx y ha hp => ?_⟩, hL, top, low⟩
  · rcases mem_insN.mp hx with h | h
    · exact D.mL x h
    · rw [h]; exact D.mW _ hh
  · obtain ⟨h1, h2⟩ := (mf x).mp hy
    rcases mem_insN.mp hx with h | h
    · exact D.dj x h h1
    · exact h2 h
  · rcases mem_insN.mp hx with h | h
    · rw [up1 x h]; exact D.sL x h
    · rw [h, up2]; exact D.sW _ hh
  · rcases D.st s hs with ⟨h1, h2⟩ | ⟨h1, h2⟩
    · exact .inl ⟨mem_insN.mpr (.inl h1), by rw [up1 s h1]; exact h2⟩
    · by_cases e : s = here
      · exact .inl ⟨mem_insN.mpr (.inr e), by rw [e, up2, ← e]; exact h2⟩
      · exact .inr ⟨(mf s).mpr ⟨h1, e⟩, h2⟩
  · rcases mem_insN.mp hx with h | h
    · rw [up1 x h]
      rcases D.cl x h y ha (fun z => z) with ⟨h1, h2⟩ | ⟨h1, h2⟩
      · exact .inl ⟨mem_insN.mpr (.inl h1), by rw [up1 y h1]; exact h2⟩
      · by_cases e : y = here
        · exact .inl ⟨mem_insN.mpr (.inr e), by
            rw [show upF g here (w here) y = w here by rw [e]; exact up2, ← e]
            exact h2⟩
        · exact .inr ⟨(mf y).mpr ⟨h1, e⟩, h2⟩
    · exact absurd h hp
/-- the pair (here, y) is done, nothing to change -/
theorem Dij.same (D : Dij adj ns f sl sv pend L g Wt w) (hp : ∀ x y, pend x y → pend' x y ∨ (adj x y → (y ∈ L ∧ g y ≤ max (g x) (f y)) ∨ (y ∈ Wt ∧ w y ≤ max (g x) (f y)))) : Dij adj ns f sl sv pend' L g Wt w :=
  ⟨D.ndL, D.ndW, D.mL, D.mW, D.dj, D.le, D.sL, D.sW, D.st, fun x hx y ha hn => by
    by_cases h : pend x y
    · exact (hp x y h).elim (fun z => absurd z hn) fun z => z ha
    · exact D.cl x hx y ha h⟩
/-- y is met from here at a lower level -/
theorem Dij.put (D : Dij adj ns f sl sv pend L g Wt w) {here y : Str} (hh : here ∈ L) (ha : adj here y) (hy : y ∈ ns) (hL : y ∉ L) (hW : y ∈ Wt → max (g here) (f y) < w y) (top : ∀ x ∈ L, g x ≤ g here) (low : ∀ y ∈ Wt, g here ≤ w y)
    (hp : ∀ x z, pend x z → pend' x z ∨ (x = here ∧ z = y)) : Dij adj ns f sl sv pend' L g (insN Wt y) (upF w y (max (g here) (f y))) ∧ ∀ z ∈ insN Wt y, g here ≤ upF w y (max (g here) (f y)) z := by
  have hu1 : upF w y (max (g here) (f y)) y = max (g here) (f y) := by unfold upF; rw [if_pos rfl]
  have hu2 : ∀ z, z ≠ y → upF w y (max (g here) (f y)) z = w z := fun z hz => by unfold upF; rw [if_neg hz]
  have low' : ∀ z ∈ insN Wt y, g here ≤ upF w y (max (g here) (f y)) z := fun z hz => by
    by_cases e : z = y
    · rw [e, hu1]; exact Int.le_max_left _ _
    · rw [hu2 z e]
      exact low z ((mem_insN.mp hz).resolve_right e)
  have less : ∀ v : Int, y ∈ Wt → w y ≤ v → max (g here) (f y) ≤ v := fun v h1 h2 => Int.le_trans (Int.le_of_lt (hW h1)) h2
  refine ⟨⟨D.ndL, nodup_insN D.ndW, D.mL, fun x hx => ?_, fun x hx hz => ?_, fun x hx z hz => Int.le_trans (top x hx) (low' z hz), D.sL, fun x hx => ?_, fun s hs => ?_, fun x hx z haz hn => ?_⟩, low'⟩
  · rcases mem_insN.mp hx with h | h
    · exact D.mW x h
    · rw [h]; exact hy
  · rcases mem_insN.mp hz with h | h
    · exact D.dj x hx h
    · exact hL (by rw [← h]; exact hx)
  · by_cases e : x = y
    · rw [e, hu1]
      exact .step ((D.sL here hh).mono (Int.le_max_left _ _)) ha (Int.le_max_right _ _)
    · rw [hu2 x e]
      exact D.sW x ((mem_insN.mp hx).resolve_right e)
  · rcases D.st s hs with h | ⟨h1, h2⟩
    · exact .inl h
    · refine .inr ⟨mem_insN.mpr (.inl h1), ?_⟩
      by_cases e : s = y
      · subst e; rw [hu1]; exact less _ h1 h2
      · rw [hu2 s e]; exact h2
  · by_cases hpz : pend x z
    · rcases hp x z hpz with h | ⟨h1, h2⟩
      · exact absurd h hn
      · subst h1
        subst h2
        exact .inr ⟨mem_insN.mpr (.inr rfl), by rw [hu1]; exact Int.le_refl _⟩
    · rcases D.cl x hx z haz hpz with h | ⟨h1, h2⟩
      · exact .inl h
      · refine .inr ⟨mem_insN.mpr (.inl h1), ?_⟩
        by_cases e : z = y
        · subst e; rw [hu1]; exact less _ h1 h2
        · rw [hu2 z e]; exact h2
theorem Dij.done (D : Dij adj ns f sl sv (fun _ _ => False) L g [] w) (t : Int) (u : Str) : (u ∈ L ∧ g u ≤ t) ↔ Fl adj f sl sv t u := by
  constructor
  · rintro ⟨h1, h2⟩
    exact (D.sL u h1).mono h2
  · intro h
    induction h with
    | start h1 h2 =>
      rcases D.st _ h1 with ⟨h3, h4⟩ | ⟨h3, _⟩
      · exact ⟨h3, Int.le_trans h4 h2⟩
      · exact nomatch h3
    | step _ ha hf ih =>
      rcases D.cl _ ih.1 _ ha (fun z => z) with ⟨h3, h4⟩ | ⟨h3, _⟩
      · exact ⟨h3, Int.le_trans h4 (Int.max_le.mpr ⟨ih.2, hf⟩)⟩
      · exact nomatch h3
end
end L9

/-! what the floods, the sure hollows, lands and the calm land promise -/
namespace L9
open PySem PySem.Spec PyProof.Rows L2
/-- a def with defaults, nothing raised -/
theorem _root_.L2.FunD.okN {P : Program} {w : World} {K : PySem.W.Frag} {mg : Str → Option Value} {base : Heap} {x qual : Str} {params : Arguments} {body : List Stmt} {scope : Scope} {dvs : List V} {kws : List (Str × V)} {f : Addr} {fd : FuncData} {N ps : List Str} {k : Nat} {sp : Sp} (F : FunD K x qual params body scope dvs kws f fd) (S : FnScope N ps scope)
    (len : ∀ vs H Q E, sp vs H Q E → vs.length = ps.length) (hb : ∀ (cdv : Value) (A : Around) (outer : List Env) (s : Shared) (H : Hp) (vs : List V) (Q : VK) (E : XK), Room k (A.deeper (envOfC qual scope s.heap.objs.size f cdv)) → sp vs H Q E →
      ∃ t, PSs (cxOf CX0 P w K mg base N qual scope f cdv A outer s H E).nox body t ∧ t { nx := fun _ H2 => Q .non H2, rt := Q } (L2.start N vs) H) : FnOk P w K mg base CX0 (k + 1) f fd ps sp := by
  refine F.ok S len fun cdv A outer s H vs Q E hr hsp => ?_
  obtain ⟨t, h, q⟩ := hb cdv A outer s H vs Q E hr hsp
  exact ⟨t, h.nox, q⟩
section
variable {σ : L2.St} {H : Hp} {Q : VK} {D : Ends} {ta tb : TE} {t tk : TA}
theorem w_ddel (q : ta σ H fun x H1 => tb σ H1 fun y H2 => ∃ a kvs k, x = .ref a ∧ H2 a = some (.dK kvs) ∧ y = kV k ∧ (valV kvs k).isSome = true ∧ D.nx σ (upd H2 a (.dK (dropK kvs k)))) : sDDel ta tb D σ H := q
theorem w_ckw {r : List V → List V → Hp → VK → Prop} (q : t σ H fun vs H1 => tk σ H1 fun zs H2 => r vs zs H2 Q) : tCKw r t tk σ H Q := q
theorem w_callO {X : Cx} {C : Addr} {sp : Sp} {E : XK} (q : ta σ H fun y H1 => ∃ a, y = V.ref a ∧ t σ H1 fun vs H2 => StX.InsC X H2 a C ∧ sp (V.ref a :: vs) H2 Q E) : StX.tCallO X C sp E ta t σ H Q := q
end
theorem same_tup {K : PySem.W.Frag} {H H' : Hp} {a : Addr} {xs : List V} (s : Same H H') (h : SqT K H a xs) : SqT K H' a xs := by
  rcases h with (h | ⟨o, h⟩) | h
  · exact .inl (.inl (s _ _ h))
  · exact .inl (.inr ⟨o, s _ _ h⟩)
  · exact .inr h
/-- a dict's comprehension over anything that is walked -/
theorem dc_it {J : It} {n : Nat} {G : Hp → Prop} {Y : Nat → Hp → V → Hp → Prop} (w : Walk J n G Y) {g : TG} {tt : TT} {tk tv : TE} {vs : List Nat} {σ : L2.St} {H1 : Hp} {D : Addr} {Qd : Hp → Prop} (Pv : Nat → Hp → Prop) (h0 : Pv 0 (upd H1 D (.dK []))) (hG : ∀ i H, i ≤ n → Pv i H → G H)
    (hs : ∀ i x H H', i < n → Pv i H → Y i H x H' → g x (wipe σ vs) H' fun σ2 H2 => wipe σ2 vs = wipe σ vs ∧ tt σ2 H2 fun b H3 =>
      if b = true then tk σ2 H3 fun y H4 => tv σ2 H4 fun z H5 => ∃ kvs k, y = kV k ∧ H5 D = some (.dK kvs) ∧ kvs.length < sizeLine ∧ Pv (i + 1) (upd H5 D (.dK (putK kvs k z))) else Pv (i + 1) H3) (hd : ∀ H, Pv n H → Qd H) :
    ∃ W : Nat → Nat → Hp → Prop, (∃ m, W 0 m (upd H1 D (.dK []))) ∧ ∀ i m H, W i m H →
      (J.stop i H ∧ Qd H) ∨ (J.go i H ∧ ∃ Nx : Hp → Prop, (∀ H', Nx H' → ∃ m', m' < m ∧ W (i + 1) m' H') ∧ ∀ x H', J.yld i H x H' → g x (wipe σ vs) H' fun σ2 H2 => wipe σ2 vs = wipe σ vs ∧ tt σ2 H2 fun b H3 =>
        if b = true then tk σ2 H3 fun y H4 => tv σ2 H4 fun z H5 => ∃ kvs k, y = kV k ∧ H5 D = some (.dK kvs) ∧ kvs.length < sizeLine ∧ Nx (upd H5 D (.dK (putK kvs k z))) else Nx H3) := by
  refine ⟨fun i m H => m = n - i ∧ i ≤ n ∧ Pv i H, ⟨n, by simp, Nat.zero_le _, h0⟩, ?_⟩
  rintro i m H ⟨rfl, hi, p⟩
  have q := hG i H hi p
  by_cases hlt : i < n
  · refine .inr ⟨w.goes i H hlt q, Pv (i + 1), fun H' p' => ⟨n - (i + 1), by omega, rfl, hlt, p'⟩, fun x H' y => hs i x H H' hlt p (w.yields i H x H' hlt q y)⟩
  · have e : i = n := by omega
    subst e
    exact .inl ⟨w.stops H q, hd H p⟩
theorem byV_get {l : List Str} {g : Str → V} {i : Nat} {k : L2.Key} {v : V} (h : (byV l g)[i]? = some (k, v)) : ∃ x, l[i]? = some x ∧ k = Sum.inr x ∧ v = g x := by
  unfold byV at h
  rw [List.getElem?_map] at h
  cases hx : l[i]? with
  | none => rw [hx] at h; cases h
  | some x =>
    rw [hx] at h
    injection h with h
    injection h with h1 h2
    exact ⟨x, rfl, h1.symm, h2.symm⟩
theorem unlock_same {H H' : Hp} {d : Addr} {u : HO} {od : Obj} (hd : H d = some u) (s : Same (upd H d (.frz od u)) H') : Same H (upd H' d u) := fun p o e => by
  by_cases z : p = d
  · subst z
    rw [hd] at e
    cases e
    exact upd_same
  · rw [upd_ne z]
    exact s _ _ ((upd_ne z).trans e)
def optV : Option Int → V
  | none => .non
  | some d => .int d
/-- ties that a flood goes along -/
def AdjS (c : Ch) (zs : List Str) (x y : Str) : Prop := Adj c x y ∧ x ∉ zs
/-- levels that a flood tells -/
def Levels (c : Ch) (zs : List Str) (f : Str → Int) (sl : List Str) (sv : Str → Int) (ks : List Str) (g : Str → Int) : Prop := ks.Nodup ∧ (∀ x ∈ ks, x ∈ c.names) ∧ ∀ t u, (u ∈ ks ∧ g u ≤ t) ↔ Fl (AdjS c zs) f sl sv t u
def spFloodP (K : PySem.W.Frag) (C CB : Addr) : Sp := fun vs H Q _ => ∃ (p a b z : Addr) (c : Ch) (f : Str → Int) (sl : List Str) (sv : Str → Int) (zs : List Str), vs = [.ref p, .ref a, .ref b, .ref z] ∧ ChAt C CB H p c ∧ c.Ok ∧ H a = some (.dK (byI c.names f)) ∧ H b = some (.dK (byI sl sv)) ∧ sl.Nodup ∧ (∀ x ∈ sl, x ∈ c.names) ∧ (SqL K H z (zs.map V.str) ∨ SqT K H z (zs.map V.str)) ∧
  ∀ (r q u : Addr) (H' : Hp) (ks : List Str) (g : Str → Int), Same H H' → H r = none → H q = none → H' r = some (.tup [.ref q, .ref u]) → H' q = some (.dK (byI ks g)) → Levels c zs f sl sv ks g → Q (.ref r) H'
def spLevF (K : PySem.W.Frag) (C CB : Addr) : Sp := fun vs H Q _ => ∃ (p a b z : Addr) (c : Ch) (f : Str → Int) (sl : List Str) (sv : Str → Int) (zs : List Str), vs = [.ref p, .ref a, .ref b, .ref z] ∧ ChAt C CB H p c ∧ c.Ok ∧ H a = some (.dK (byI c.names f)) ∧ H b = some (.dK (byI sl sv)) ∧ sl.Nodup ∧ (∀ x ∈ sl, x ∈ c.names) ∧ (SqL K H z (zs.map V.str) ∨ SqT K H z (zs.map V.str)) ∧
  ∀ (q : Addr) (H' : Hp) (ks : List Str) (g : Str → Int), Same H H' → H q = none → H' q = some (.dK (byI ks g)) → Levels c zs f sl sv ks g → Q (.ref q) H'
/-- the end of a hollow of x, at floods over f, ranks by g -/
def EndOf (c : Ch) (f g : Str → Int) (x : Str) (o : Option Int) : Prop := ∀ t : Int, (∃ d, o = some d ∧ d ≤ t) ↔ ∃ y, Fl (AdjS c []) f [x] f t y ∧ (y ∈ c.outs ∨ ltR (g y, y) (g x, x) = true)
def spEndLv (C CB : Addr) : Sp := fun vs H Q _ => ∃ (p a b : Addr) (x : Str) (c : Ch) (f g : Str → Int), vs = [.ref p, .ref a, .ref b, .str x] ∧ ChAt C CB H p c ∧ c.Ok ∧ H a = some (.dK (byI c.names f)) ∧ H b = some (.dK (byI c.names g)) ∧ x ∈ c.names ∧
  ∀ (H' : Hp) (o : Option Int), Same H H' → EndOf c f g x o → Q (optV o) H'
/-- a root: nothing ahead of it, no outlet, in its part at its own level -/
def Root (c : Ch) (f g : Str → Int) (x : Str) : Prop := x ∈ c.names ∧ ∀ y, Fl (AdjS c []) f [x] f (g x) y → y ∉ c.outs ∧ ¬ ltR (g y, y) (g x, x) = true
/-- pairs (a number, a text), item by item -/
def RkAll (H : Hp) : List V → List (Int × Str) → Prop
  | [], [] => True
  | v :: vs, x :: xs => (∃ p, v = .ref p ∧ H p = some (.tup [.int x.1, .str x.2])) ∧ RkAll H vs xs
  | _, _ => False
theorem RkAll.keep {H H' : Hp} (k : ∀ p xs, H p = some (.tup xs) → H' p = some (.tup xs)) : ∀ {vs : List V} {xs : List (Int × Str)}, RkAll H vs xs → RkAll H' vs xs
  | [], [], _ => trivial
  | _ :: _, _ :: _, ⟨⟨p, e, h⟩, t⟩ => ⟨⟨p, e, k _ _ h⟩, t.keep k⟩
  | [], _ :: _, h => h.elim
  | _ :: _, [], h => h.elim
theorem RkAll.same {H H' : Hp} (s : Same H H') {vs : List V} {xs : List (Int × Str)} (t : RkAll H vs xs) : RkAll H' vs xs := t.keep fun p xs e => s _ _ e
theorem RkAll.length {H : Hp} : ∀ {vs : List V} {xs : List (Int × Str)}, RkAll H vs xs → vs.length = xs.length
  | [], [], _ => rfl
  | _ :: _, _ :: _, ⟨_, t⟩ => by rw [List.length_cons, List.length_cons, t.length]
  | [], _ :: _, h => h.elim
  | _ :: _, [], h => h.elim
theorem RkAll.get {H : Hp} : ∀ {vs : List V} {xs : List (Int × Str)} {i : Nat} {v : V}, RkAll H vs xs → vs[i]? = some v → ∃ x p, xs[i]? = some x ∧ v = .ref p ∧ H p = some (.tup [.int x.1, .str x.2])
  | _ :: _, x :: _, 0, v, ⟨⟨p, e, h⟩, _⟩, ev => by
    cases ev
    exact ⟨x, p, rfl, e, h⟩
  | _ :: _, _ :: _, i + 1, v, ⟨_, t⟩, ev => RkAll.get (i := i) t ev
  | [], [], _, _, _, e => nomatch e
  | [], _ :: _, _, _, h, _ => h.elim
  | _ :: _, [], _, _, h, _ => h.elim
theorem RkAll.app {H : Hp} {v : V} {x : Int × Str} (h : ∃ p, v = .ref p ∧ H p = some (.tup [.int x.1, .str x.2])) : ∀ {vs : List V} {xs : List (Int × Str)}, RkAll H vs xs → RkAll H (vs ++ [v]) (xs ++ [x])
  | [], [], _ => ⟨h, trivial⟩
  | _ :: _, _ :: _, ⟨h0, t⟩ => ⟨h0, RkAll.app h t⟩
  | [], _ :: _, h => h.elim
  | _ :: _, [], h => h.elim
theorem RkAll.upd {H : Hp} {D : Addr} {ys : List V} {o : HO} (eD : H D = some (.lst ys)) {vs : List V} {xs : List (Int × Str)} (t : RkAll H vs xs) : RkAll (L2.upd H D o) vs xs := by
  refine t.keep fun p zs e => ?_
  by_cases z : p = D
  · rw [z, eD] at e
    cases e
  · exact (upd_ne z).trans e
theorem RkAll.hd {K : PySem.W.Frag} {H : Hp} : ∀ {vs : List V} {xs : List (Int × Str)}, RkAll H vs xs → HdAll K H vs xs
  | [], [], _ => trivial
  | _ :: _, (a, b) :: _, ⟨⟨p, e, h⟩, t⟩ => by
    subst e
    exact ⟨hd_pair (SqT.of h) (.int a) (.str b), t.hd⟩
  | [], _ :: _, h => h.elim
  | _ :: _, [], h => h.elim
/-- hollows, item by item: (name, birth, death) -/
def HolAll (H : Hp) : List V → List (Str × Int × Option Int) → Prop
  | [], [] => True
  | v :: vs, x :: xs => (∃ p, v = .ref p ∧ H p = some (.tup [.str x.1, .int x.2.1, optV x.2.2])) ∧ HolAll H vs xs
  | _, _ => False
theorem HolAll.keep {H H' : Hp} (k : ∀ p xs, H p = some (.tup xs) → H' p = some (.tup xs)) : ∀ {vs : List V} {xs : List (Str × Int × Option Int)}, HolAll H vs xs → HolAll H' vs xs
  | [], [], _ => trivial
  | _ :: _, _ :: _, ⟨⟨p, e, h⟩, t⟩ => ⟨⟨p, e, k _ _ h⟩, t.keep k⟩
  | [], _ :: _, h => h.elim
  | _ :: _, [], h => h.elim
theorem HolAll.same {H H' : Hp} (s : Same H H') {vs : List V} {xs : List (Str × Int × Option Int)} (t : HolAll H vs xs) : HolAll H' vs xs := t.keep fun p xs e => s _ _ e
theorem HolAll.length {H : Hp} : ∀ {vs : List V} {xs : List (Str × Int × Option Int)}, HolAll H vs xs → vs.length = xs.length
  | [], [], _ => rfl
  | _ :: _, _ :: _, ⟨_, t⟩ => by rw [List.length_cons, List.length_cons, t.length]
  | [], _ :: _, h => h.elim
  | _ :: _, [], h => h.elim
theorem HolAll.get {H : Hp} : ∀ {vs : List V} {xs : List (Str × Int × Option Int)} {i : Nat} {v : V}, HolAll H vs xs → vs[i]? = some v → ∃ x p, xs[i]? = some x ∧ v = .ref p ∧ H p = some (.tup [.str x.1, .int x.2.1, optV x.2.2])
  | _ :: _, x :: _, 0, v, ⟨⟨p, e, h⟩, _⟩, ev => by
    cases ev
    exact ⟨x, p, rfl, e, h⟩
  | _ :: _, _ :: _, i + 1, v, ⟨_, t⟩, ev => HolAll.get (i := i) t ev
  | [], [], _, _, _, e => nomatch e
  | [], _ :: _, _, _, h, _ => h.elim
  | _ :: _, [], _, _, h, _ => h.elim
theorem HolAll.app {H : Hp} {v : V} {x : Str × Int × Option Int} (h : ∃ p, v = .ref p ∧ H p = some (.tup [.str x.1, .int x.2.1, optV x.2.2])) : ∀ {vs : List V} {xs : List (Str × Int × Option Int)}, HolAll H vs xs → HolAll H (vs ++ [v]) (xs ++ [x])
  | [], [], _ => ⟨h, trivial⟩
  | _ :: _, _ :: _, ⟨h0, t⟩ => ⟨h0, HolAll.app h t⟩
  | [], _ :: _, h => h.elim
  | _ :: _, [], h => h.elim
theorem HolAll.upd {H : Hp} {D : Addr} {ys : List V} {o : HO} (eD : H D = some (.lst ys)) {vs : List V} {xs : List (Str × Int × Option Int)} (t : HolAll H vs xs) : HolAll (L2.upd H D o) vs xs := by
  refine t.keep fun p zs e => ?_
  by_cases z : p = D
  · rw [z, eD] at e
    cases e
  · exact (upd_ne z).trans e
/-- the sure hollows of a chart over two dicts -/
structure Hollows (c : Ch) (f g : Str → Int) (hs : List (Str × Int × Option Int)) : Prop where
  nd : (hs.map (·.1)).Nodup
  all : ∀ x, (∃ h ∈ hs, h.1 = x) ↔ Root c f g x
  birth : ∀ h ∈ hs, h.2.1 = g h.1
  death : ∀ h ∈ hs, EndOf c f g h.1 h.2.2
  srt : hs.Pairwise fun a b => ltR (a.2.1, a.1) (b.2.1, b.1) = true
def spHolOf (C CB : Addr) : Sp := fun vs H Q _ => ∃ (p a b : Addr) (c : Ch) (f g : Str → Int), vs = [.ref p, .ref a, .ref b] ∧ a ≠ b ∧ ChAt C CB H p c ∧ c.Ok ∧ H a = some (.dK (byI c.names f)) ∧ H b = some (.dK (byI c.names g)) ∧
  ∀ (r : Addr) (H' : Hp) (us : List V) (hs : List (Str × Int × Option Int)), Same H H' → H r = none → H' r = some (.lst us) → HolAll H' us hs → Hollows c f g hs → Q (.ref r) H'
def spSureH (C CB : Addr) : Sp := fun vs H Q _ => ∃ (p : Addr) (c : Ch), vs = [.ref p] ∧ ChAt C CB H p c ∧ c.Ok ∧
  ∀ (r : Addr) (H' : Hp) (us : List V) (hs : List (Str × Int × Option Int)), Same H H' → H r = none → H' r = some (.lst us) → HolAll H' us hs → Hollows c c.lo c.hi hs → Q (.ref r) H'
def spRoots (C CB : Addr) : Sp := fun vs H Q _ => ∃ (p : Addr) (c : Ch), vs = [.ref p] ∧ ChAt C CB H p c ∧ c.Ok ∧
  ∀ (r : Addr) (H' : Hp) (rs : List Str), Same H H' → H r = none → H' r = some (.lst (rs.map V.str)) → rs.Nodup → (∀ x, x ∈ rs ↔ Root c c.lo c.hi x) → Q (.ref r) H'
/-- where the calm land starts -/
structure Starts (c : Ch) (sl : List Str) (sv : Str → Int) : Prop where
  nd : sl.Nodup
  mem : ∀ x, x ∈ sl ↔ x ∈ c.outs ∨ Root c c.lo c.hi x
  out : ∀ x ∈ c.outs, sv x = c.lo x
  root : ∀ x, Root c c.lo c.hi x → sv x = c.hi x
def spStarts (C CB : Addr) : Sp := fun vs H Q _ => ∃ (p : Addr) (c : Ch), vs = [.ref p] ∧ ChAt C CB H p c ∧ c.Ok ∧
  ∀ (r : Addr) (H' : Hp) (sl : List Str) (sv : Str → Int), Same H H' → H r = none → H' r = some (.dK (byI sl sv)) → Starts c sl sv → Q (.ref r) H'
theorem ChAt.but0 {C CB CL : Addr} {H H' : Hp} {p y dx : Addr} {c : Ch} (hy : H y = some (.ins CL dx [])) (k : But y H H') (h : ChAt C CB H p c) : ChAt C CB H' p c := by
  obtain ⟨dx2, b2, t, o, h0, ⟨ba, h1, h1'⟩, ⟨ta, h2, h2'⟩, h3⟩ := h
  have kk : ∀ q ob, H q = some ob → ob ≠ .ins CL dx [] → H' q = some ob := fun q ob e hn => k q ob (fun z => by
    rw [z, hy] at e
    exact hn (Option.some.inj e).symm) e
  exact ⟨dx2, b2, t, o, kk _ _ h0 (fun z => by cases z), ⟨ba, kk _ _ h1 (fun z => by cases z), fun x hx => by
    obtain ⟨dy, ey⟩ := h1' x hx
    exact ⟨dy, kk _ _ ey (fun z => by cases z)⟩⟩, ⟨ta, kk _ _ h2 (fun z => by cases z), fun x hx => kk _ _ (h2' x hx) (fun z => by cases z)⟩, kk _ _ h3 (fun z => by cases z)⟩
/-! ### ranks in order -/
theorem ltR_tri (p q : Int × Str) : ltR p q = true ∨ p = q ∨ ltR q p = true := by
  by_cases h1 : p.1 < q.1
  · exact .inl (ltR_iff.mpr (.inl h1))
  by_cases h2 : q.1 < p.1
  · exact .inr (.inr (ltR_iff.mpr (.inl h2)))
  have e1 : p.1 = q.1 := by omega
  by_cases h3 : p.2.cps.toList < q.2.cps.toList
  · exact .inl (ltR_iff.mpr (.inr ⟨e1, h3⟩))
  by_cases h4 : q.2.cps.toList < p.2.cps.toList
  · exact .inr (.inr (ltR_iff.mpr (.inr ⟨e1.symm, h4⟩)))
  have e2 : p.2.cps.toList = q.2.cps.toList := List.le_antisymm (List.not_lt.mp h4) (List.not_lt.mp h3)
  refine .inr (.inl (Prod.ext e1 ?_))
  have e3 : p.2.cps = q.2.cps := Array.ext' e2
  cases hp : p.2
  cases hq : q.2
  rw [hp, hq] at e3
  exact congrArg _ e3
theorem leR (p q : Int × Str) : PySem.W.dataLe false PySem.W.Datum.toD p q = !ltR q p := by
  rw [PySem.W.dataLe_eq]
  show (!PySem.W.dataLt (PySem.W.Datum.toD q) (PySem.W.Datum.toD p)) = _
  rw [PySem.W.DatumOrd.lt_eq]
  rfl
theorem sortR {xs : List (Int × Str)} (nd : xs.Nodup) : (xs.mergeSort (PySem.W.dataLe false PySem.W.Datum.toD)).Perm xs ∧ (xs.mergeSort (PySem.W.dataLe false PySem.W.Datum.toD)).Pairwise fun a b => ltR a b = true := by
  have hp := List.mergeSort_perm xs (PySem.W.dataLe false PySem.W.Datum.toD)
  refine ⟨hp, ?_⟩
  have h1 : (xs.mergeSort (PySem.W.dataLe false PySem.W.Datum.toD)).Pairwise fun a b => PySem.W.dataLe false PySem.W.Datum.toD a b = true := by
    refine List.pairwise_mergeSort (fun a b c h k => ?_) (fun a b => ?_) xs
    · rw [leR] at *
      rw [Bool.not_eq_true'] at *
      refine Bool.eq_false_iff.mpr fun z => ?_
      rcases ltR_tri b a with g | g | g
      · exact absurd g (Bool.eq_false_iff.mp h)
      · subst g
        exact absurd z (Bool.eq_false_iff.mp k)
      · exact absurd (ltR_trans z g) (Bool.eq_false_iff.mp k)
    · rw [leR, leR]
      cases hx : ltR b a with
      | false => rfl
      | true =>
        cases hy : ltR a b with
        | false => rfl
        | true => exact absurd (ltR_trans hx hy) (ltR_irrefl _)
  have nd2 : (xs.mergeSort (PySem.W.dataLe false PySem.W.Datum.toD)).Nodup := hp.nodup_iff.mpr nd
  refine (h1.and nd2).imp fun {a b} h => ?_
  obtain ⟨h2, h3⟩ := h
  rw [leR, Bool.not_eq_true'] at h2
  rcases ltR_tri a b with g | g | g
  · exact g
  · exact absurd g h3
  · exact absurd g (Bool.eq_false_iff.mp h2)
theorem hd_rank {K : PySem.W.Frag} {H : Hp} {v : V} {x : Int × Str} (h : Hd K H v x) : ∃ p, v = .ref p ∧ SqT K H p [.int x.1, .str x.2] := by
  have h : Dp K H v (.tuple [.int x.1, .str x.2]) := h
  cases h with
  | tup hs ha =>
    cases ha with
    | cons h1 ha =>
      cases ha with
      | cons h2 ha =>
        cases ha
        cases h1
        cases h2
        exact ⟨_, rfl, hs⟩
theorem root_iff {c : Ch} {f g : Str → Int} {x : Str} {o : Option Int} (hx : x ∈ c.names) (ho : EndOf c f g x o) : Root c f g x ↔ ¬ ∃ d, o = some d ∧ d ≤ g x := by
  rw [ho (g x)]
  constructor
  · rintro ⟨_, h⟩ ⟨y, hy, hy2⟩
    obtain ⟨h1, h2⟩ := h y hy
    exact hy2.elim h1 h2
  · intro h
    refine ⟨hx, fun y hy => ⟨fun h1 => h ⟨y, hy, .inl h1⟩, fun h1 => h ⟨y, hy, .inr h1⟩⟩⟩
theorem mergeI {g : Str → Int} : ∀ (m l : List Str) (f : Str → Int), m.Nodup → (∀ y ∈ m, y ∉ l) → ∃ F : Str → Int, mergeK (byI l f) (byI m g) = byI (l ++ m) F ∧ (∀ y ∈ l, F y = f y) ∧ ∀ y ∈ m, F y = g y
  | [], l, f, _, _ => ⟨f, by rw [List.append_nil]; rfl, fun _ _ => rfl, fun _ h => nomatch h⟩
  | x :: m, l, f, hn, h => by
    rw [List.nodup_cons] at hn
    have hx := h x List.mem_cons_self
    have e : putK (byI l f) (Sum.inr x : L2.Key) (V.int (g x)) = byI (l ++ [x]) (fun y => if y = x then g x else f y) := by
      rw [byI_V, putK_byV]
      unfold insN
      rw [if_neg hx, byI_V]
      congr 1
      funext y
      unfold upF
      split <;> rfl
    obtain ⟨F, h1, h2, h3⟩ := mergeI (g := g) m (l ++ [x]) (fun y => if y = x then g x else f y) hn.2 fun y hy hyl => by
      rcases List.mem_append.mp hyl with g1 | g1
      · exact h y (List.mem_cons_of_mem _ hy) g1
      · exact hn.1 (by rw [← List.mem_singleton.mp g1]; exact hy)
    refine ⟨F, ?_, fun y hy => ?_, fun y hy => ?_⟩
    · show mergeK (putK (byI l f) (Sum.inr x) (V.int (g x))) (byI m g) = _
      rw [e, h1, List.append_assoc]
      rfl
    · rw [h2 y (List.mem_append.mpr (.inl hy)), if_neg (fun z => hx (by rw [← z]; exact hy))]
    · rcases List.mem_cons.mp hy with g1 | g1
      · rw [h2 y (List.mem_append.mpr (.inr (List.mem_singleton.mpr g1))), if_pos g1, g1]
      · exact h3 y g1
theorem lo_le {c : Ch} (ok : c.Ok) {x : Str} (hx : x ∈ c.names) : c.lo x ≤ c.hi x := (ok.bnd x hx).2.1
def spLevelsM : Sp := fun vs H Q _ => ∃ (a : Addr) (xs : List Int), vs = [.ref a] ∧ H a = some (.lst (xs.map V.int)) ∧ xs.length ≤ 30 ∧
  ∀ (p : Addr) (H' : Hp) (ys : List Int), Same H H' → H p = none → H' p = some (.lst (ys.map V.int)) → ys.Pairwise (· ≤ ·) → (∀ y ∈ ys, y ∈ xs) → ys.length ≤ 30 → Q (.ref p) H'
def spStepsM : Sp := fun vs H Q _ => ∃ (a : Addr) (xs : List Int), vs = [.ref a] ∧ H a = some (.lst (xs.map V.int)) ∧ xs.length ≤ 30 ∧
  ∀ (p : Addr) (H' : Hp) (us : List V) (es : List (Int × Int)), Same H H' → H p = none → H' p = some (.lst us) → TupAll H' us es → (∀ e ∈ es, e.1 ≤ e.2 ∧ e.1 ∈ xs ∧ e.2 ∈ xs) → Q (.ref p) H'
/-! ### lands -/
structure LdT (K : PySem.W.Frag) (mg : Str → Option Value) (C : Addr) : Prop where
  c : ClsT K mg "Land" C
  nc : NoAttr K C "chart"
  nh : NoAttr K C "height_by_name"
def ldf (c h : Addr) : List (Str × V) := [(("chart" : Str), .ref c), (("height_by_name" : Str), .ref h)]
theorem ldf_c (c h : Addr) : (ldf c h).lookup ("chart" : Str) = some (.ref c) := rfl
theorem ldf_h (c h : Addr) : (ldf c h).lookup ("height_by_name" : Str) = some (.ref h) := by
  unfold ldf
  rw [List.lookup_cons, show (("height_by_name" : Str) == ("chart" : Str)) = false by decide +kernel]
  rfl
def LdAt (CL C CB : Addr) (H : Hp) (p : Addr) (c : Ch) (h : Str → Int) : Prop := ∃ dx cp hp, H p = some (.ins CL dx (ldf cp hp)) ∧ ChAt C CB H cp c ∧ H hp = some (.dK (byI c.names h))
theorem LdAt.mono {CL C CB : Addr} {H H' : Hp} {p : Addr} {c : Ch} {h : Str → Int} (s : Same H H') (l : LdAt CL C CB H p c h) : LdAt CL C CB H' p c h := by
  obtain ⟨dx, cp, hp, h0, h1, h2⟩ := l
  exact ⟨dx, cp, hp, s _ _ h0, h1.mono s, s _ _ h2⟩
def spLen (C CB : Addr) : Sp := fun vs H Q _ => ∃ (p : Addr) (c : Ch), vs = [.ref p] ∧ ChAt C CB H p c ∧ Q (.int (c.names.length : Nat)) H
def spInB (CB : Addr) : Sp := fun vs H Q _ => ∃ (a : Addr) (l h x : Int), vs = [.ref a, .int x] ∧ BndAt CB H a l h ∧ heightB x = true ∧ l ≤ x ∧ x ≤ h ∧ Q (.bl true) H
def spAreH (C CB : Addr) : Sp := fun vs H Q _ => ∃ (p d : Addr) (c : Ch) (l : List Str) (h : Str → Int), vs = [.ref p, .ref d] ∧ ChAt C CB H p c ∧ c.Ok ∧ H d = some (.dK (byI l h)) ∧ l.length = c.names.length ∧ (∀ x ∈ c.names, x ∈ l) ∧ ∀ H', Same H H' → Q (.bl true) H'
def spLdInit (CL C CB : Addr) : Sp := fun vs H Q _ => ∃ (y dx p d : Addr) (c : Ch) (l : List Str) (h : Str → Int), vs = [.ref y, .ref p, .ref d] ∧ H y = some (.ins CL dx []) ∧ ChAt C CB H p c ∧ c.Ok ∧ H d = some (.dK (byI l h)) ∧ l.Nodup ∧ (∀ x, x ∈ l ↔ x ∈ c.names) ∧ (∀ x ∈ c.names, c.lo x ≤ h x ∧ h x ≤ c.hi x) ∧
  ∀ H', But y H H' → LdAt CL C CB H' y c h → Q .non H'
def spLdCall (CL C CB : Addr) : Sp := fun vs H Q _ => ∃ (q : Addr) (x : Str) (c : Ch) (h : Str → Int), vs = [.ref q, .str x] ∧ LdAt CL C CB H q c h ∧ x ∈ c.names ∧ Q (.int (h x)) H
/-- the calm land's heights -/
def CalmOf (c : Ch) (h : Str → Int) : Prop := ∃ (sl : List Str) (sv : Str → Int), Starts c sl sv ∧ ∀ u ∈ c.names, ∀ t, h u ≤ t ↔ Fl (AdjS c []) c.lo sl sv t u
def spCalm (CL C CB : Addr) : Sp := fun vs H Q _ => ∃ (p : Addr) (c : Ch), vs = [.ref p] ∧ ChAt C CB H p c ∧ c.Ok ∧
  ∀ (r : Addr) (H' : Hp) (h : Str → Int), Same H H' → H r = none → LdAt CL C CB H' r c h → CalmOf c h → (∀ x ∈ c.names, c.lo x ≤ h x ∧ h x ≤ c.hi x) → Q (.ref r) H'
end L9

/-! {**d, k: v, ..}; d != e of dicts -/
namespace L9
open PySem PySem.Spec PyProof.Rows L2
section
variable {P : Program} {W : World} {B : Around} {X : Value → Shared → Prop} {s : Shared}
theorem mix_noref {k : Key} {key : Value} (h : (mixKind P W).is k key = true) (r : Addr) : key ≠ .ref r := by
  rcases keyIs_shape h with ⟨i, t, rfl, rfl⟩ | ⟨x, t, rfl, rfl⟩
  · exact fun z => nomatch z
  · exact fun z => nomatch z
/-- a pair put into a dict as it stands in another one -/
theorem put_own {p : Addr} {now : List (Key × Value)} {k : Key} {kv x : Value} {Q : Unit → Shared → Prop} (isk : (mixKind P W).is k kv = true) (at0 : s.heap.DictOf (mixKind P W) p now) (few : now.length ≤ sizeLine)
    (q : ∀ g, g.DictOf (mixKind P W) p (stored now k x) → Heap.SameBut p s.heap g → Q () { s with heap := g }) : wpAny (model P W) B (dictPut p ((mixKind P W).hash k) kv x) Q X s := by
  rcases at0 with ⟨ob, ents, ep, g0, cl, dat, kof, pof, nd⟩
  have small : ents.size ≤ sizeLine := by
    have := pof.length
    rw [Array.length_toList] at this
    omega
  have same : (ents.findIdx? fun e => (mixKind P W).is k e.key) = now.findIdx? fun r => decide (r.1 = k) := by
    rw [← pof.findIdx k]
    cases ents
    exact (List.findIdx?_toArray ..)
  unfold dictPut
  refine wpAny_bind (wpAny_dictFind_of isk g0 dat kof ?_)
  match hf : ents.findIdx? fun e => (mixKind P W).is k e.key with
  | none =>
    rw [hf] at same ⊢
    have fresh := not_mem_of_findIdx_none same.symm
    have isNew : stored now k x = now ++ [(k, x)] := by
      unfold stored
      refine if_neg fun h => ?_
      obtain ⟨r, m, e⟩ := List.any_eq_true.mp h
      exact fresh (of_decide_eq_true e ▸ List.mem_map_of_mem (f := Prod.fst) m)
    have grown := pof.append isk ((mixKind P W).hash k) x
    refine wpAny_updateDictKeys (f := fun es => es.push ⟨(mixKind P W).hash k, kv, x⟩) (hz := small) g0 dat (q _ ⟨_, ents.push ⟨(mixKind P W).hash k, kv, x⟩, ep + 1, Heap.get?_update_self _ g0 (Obj.isFreed_of_dict (Obj.data_mapDictKeys dat _)), cl.mapDictKeys _, Obj.data_mapDictKeys dat _, kof.push isk _, ?_, ?_⟩ (Heap.SameBut.update ..))
    · rw [isNew, Array.toList_push]
      exact grown
    · rw [isNew, List.map_append]
      refine List.nodup_append.mpr ⟨nd, by simp, fun a ha b hb z => fresh ?_⟩
      have e : b = k := List.mem_singleton.mp hb
      rw [e] at z
      exact z ▸ ha
  | some i =>
    rw [hf] at same ⊢
    have place : (ents.toList.findIdx? fun e => (mixKind P W).is k e.key) = some i := by
      rw [← hf]
      cases ents
      exact (List.findIdx?_toArray ..).symm
    refine wpAny_updateDict (f := fun es => es.modify i fun e => { e with val := x }) g0 dat (q _ ⟨_, _, ep, Heap.get?_update_self _ g0 (Obj.isFreed_of_dict (Obj.data_mapDict dat _)), cl.mapDict _, Obj.data_mapDict dat _, kof.modify _ _, ?_, ?_⟩ (Heap.SameBut.update ..))
    · have changed := pof.modify nd place x
      unfold stored
      rw [if_pos (any_of_findIdx_some same.symm)]
      cases ents
      simpa using changed
    · unfold stored
      rw [if_pos (any_of_findIdx_some same.symm), keys_map_store]
      exact nd
/-- the pairs of one dict from the i-th on put into another one -/
theorem pour_own {p o : Addr} {all : List (Key × Value)} {ob : Obj} {ents : Array DictEntry} {ep : Nat} {body : Nat → PUnit → Sem (ForInStep PUnit)} {Q : PUnit → Shared → Prop} (apart : o ≠ p) (dat : ob.data = .dict ents ep) (pof : Pairs (mixKind P W) ents.toList all) (kof : PySem.KeysOf (mixKind P W) ents)
    (step : ∀ i (hi : i < ents.size) (g : Heap) (R : ForInStep PUnit → Shared → Prop), g.get? o = some ob → wpAny (model P W) B (dictPut p (ents[i]).hash (ents[i]).key (ents[i]).val) (fun _ s2 => s2.heap.get? o = some ob ∧ R (.yield ()) s2) X { s with heap := g } → wpAny (model P W) B (body i ()) R X { s with heap := g }) :
    ∀ (n i : Nat) (g : Heap) (now : List (Key × Value)), i + n = ents.size → g.get? o = some ob → g.DictOf (mixKind P W) p now → now.length + n ≤ sizeLine → Heap.SameBut p s.heap g →
      (∀ g2, g2.DictOf (mixKind P W) p (merged now (all.drop i)) → g2.get? o = some ob → Heap.SameBut p s.heap g2 → Q () { s with heap := g2 }) →
      wpAny (model P W) B (forIn (List.range' i n) PUnit.unit body) Q X { s with heap := g }
  | 0, i, g, now, hn, ho, hp, few, sm, q => by
    have hlen : all.length = ents.size := by
      rw [← pof.length, Array.length_toList]
    refine wpAny_pure (q g ?_ ho sm)
    rw [List.drop_of_length_le (by omega)]
    exact hp
  | n + 1, i, g, now, hn, ho, hp, few, sm, q => by
    have hi : i < ents.size := by omega
    have hlen : all.length = ents.size := by
      rw [← pof.length, Array.length_toList]
    have hia : i < all.length := by omega
    rw [List.range'_succ, List.forIn_cons]
    refine wpAny_bind (step i hi g _ ho ?_)
    have two := pof.get? (i := i) (e := ents[i]) (k := (all[i]).1) (v := (all[i]).2) (by simp [hi]) (List.getElem?_eq_getElem hia)
    obtain ⟨k2, isk2, hh⟩ := kof ents[i] (Array.getElem_mem hi)
    have ek : k2 = (all[i]).1 := (mixKind P W).inj _ _ _ isk2 two.1
    rw [hh, ek, two.2]
    refine put_own (s := { s with heap := g }) two.1 hp (by omega) fun g2 hp2 sm2 => ⟨(sm2.2 o apart).trans ho, ?_⟩
    have grow := stored_length_le now (all[i]).1 (all[i]).2
    refine pour_own apart dat pof kof step n (i + 1) g2 _ (by omega) ((sm2.2 o apart).trans ho) hp2 (by omega) (sm.trans sm2) fun g3 hp3 ho3 sm3 => q g3 ?_ ho3 sm3
    rw [List.drop_eq_getElem_cons hia]
    exact hp3
/-- a dict's pairs laid over those of another one -/
theorem merge_own {p o : Addr} {now all : List (Key × Value)} {Q : Unit → Shared → Prop} (apart : o ≠ p) (nosys : (o == sysModules) = false) (atP : s.heap.DictOf (mixKind P W) p now) (atO : s.heap.DictOf (mixKind P W) o all) (few : now.length + all.length ≤ sizeLine)
    (q : ∀ g, g.DictOf (mixKind P W) p (merged now all) → Heap.SameBut p s.heap g → Q () { s with heap := g }) : wpAny (model P W) B (mergeMapping p (.ref o) false) Q X s := by
  have ty := atO.typeIs
  rcases id atP with ⟨obP, entsP, epP, gP, _, datP, _⟩
  rcases id atO with ⟨ob, ents, ep, gO, cl, dat, kof, pof, nd⟩
  have hlen : all.length = ents.size := by
    rw [← pof.length, Array.length_toList]
  unfold mergeMapping
  refine wpAny_bind (wpAny_isInstance ty isSubtype_dict_dict ?_)
  rw [if_pos rfl]
  refine wpAny_bind (wpAny_specialOf ty F.slot_dict_iter.lookup (wpAny_bind (wpAny_pure ?_)))
  simp only [beq_self_eq_true, nosys, Bool.false_eq_true, if_false]
  refine wpAny_bind (wpAny_dictEntries gP datP ?_)
  have rest : ∀ (F : Nat → Nat → PUnit → Sem (ForInStep PUnit)), (∀ e, F e = fun i _ => (do
      let es ← dictEntries o
      match es[i]? with
      | some e2 => do
        holding [e2.key, e2.val] (dictPut p e2.hash e2.key e2.val)
        let now ← dictEpoch o
        if (now != e) = true then (do unsupported "dict.changed-during-merge"; pure (.yield ())) else pure (.yield ())
      | _ => do unsupported "dict.changed-during-merge"; pure (.yield ()))) →
      wpAny (model P W) B (do let es ← dictEntries o; let e ← dictEpoch o; forIn (List.range es.size) PUnit.unit (F e); pure ()) Q X s := fun F hF => by
    refine wpAny_bind (wpAny_dictEntries gO dat (wpAny_bind (wpAny_dictEpoch gO dat (wpAny_bind ?_))))
    rw [List.range_eq_range', hF]
    refine pour_own (s := s) (p := p) (o := o) apart dat pof kof (fun i hi g R hg h => ?_) ents.size 0 s.heap now (by omega) gO atP (by omega) (Heap.SameBut.refl _ _) fun g hp _ sm => wpAny_pure (q g (by rw [List.drop_zero] at hp; exact hp) sm)
    refine wpAny_bind (wpAny_dictEntries hg dat ?_)
    rw [Array.getElem?_eq_getElem (h := hi)]
    refine wpAny_bind (wpAny_holding (wpAny_mono h (fun _ s2 hs => ?_) fun _ _ e => e))
    refine wpAny_bind (wpAny_dictEpoch hs.1 dat ?_)
    rw [if_neg (by simp)]
    exact wpAny_pure hs.2
  split
  · refine wpAny_bind (wpAny_dictEntries gO dat (wpAny_bind ?_))
    have quiet : ∀ (l : List DictEntry) (F : DictEntry → PUnit → Sem (ForInStep PUnit)) (R : PUnit → Shared → Prop), (∀ e ∈ l, F e () = pure (.yield ())) → R () s → wpAny (model P W) B (forIn l PUnit.unit F) R X s := by
      intro l F R
      induction l with
      | nil => exact fun _ h => wpAny_pure h
      | cons e l ih =>
        intro hF h
        rw [List.forIn_cons, hF e List.mem_cons_self]
        exact wpAny_bind (wpAny_pure (ih (fun e2 m => hF e2 (List.mem_cons_of_mem _ m)) h))
    rw [← Array.forIn_toList]
    refine quiet _ _ _ (fun e he => ?_) ?_
    · obtain ⟨k, isk, _⟩ := kof e (Array.mem_toList_iff.mp he)
      have no := mix_noref isk
      split
      · rename_i r hr
        exact absurd hr (no r)
      · rfl
    · exact rest _ fun e => rfl
  · exact rest _ fun e => rfl
end
theorem heap_pairs (m : Option Addr) {F : (Option (Sem Value) × Sem Value) → (Option Addr × List (Sem Value × Sem Value)) → Sem (ForInStep (Option Addr × List (Sem Value × Sem Value)))}
    (hF : ∀ x r, r.length < 16 → F (some x.1, x.2) (m, r) = pure (.yield (m, r ++ [x]))) : ∀ xs r, r.length + xs.length ≤ 16 → forIn (xs.map fun x => (some x.1, x.2)) (m, r) F = pure (m, r ++ xs) := by
  intro xs
  induction xs with
  | nil => intro r _; rw [List.append_nil]; rfl
  | cons x xs ih =>
    intro r h
    rw [List.length_cons] at h
    have e := ih (r ++ [x]) (by rw [List.length_append, List.length_singleton]; omega)
    rw [List.append_assoc, List.singleton_append] at e
    rw [List.map_cons, List.forIn_cons, hF x r (by omega), pure_bind]
    exact e
/-- {**d, k: v, ..} -/
def tDStar (ta : TE) (trs : List (TE × TE)) : TE := fun σ H Q => ∀ p, H p = none → ta σ (upd H p (.dK [])) fun x H1 => ∃ (b : Addr) (more : List (Key × V)), x = .ref b ∧ b ≠ p ∧ H1 p = some (.dK []) ∧ H1 b = some (.dK more) ∧
  ∀ q, upd H1 p (.dK (mergeK [] more)) q = none → tPairs trs σ (upd (upd H1 p (.dK (mergeK [] more))) q (.dK [])) fun ps H2 => H2 q = some (.dK []) ∧ H2 p = some (.dK (mergeK [] more)) ∧ ∃ kvs : List (Key × V), ps = kvs.map (fun kv => (kV kv.1, kv.2)) ∧ kvs.length ≤ 15 ∧ (mergeK [] more).length + kvs.length < sizeLine ∧
    Q (.ref p) (upd (upd H2 q (.dK (mergeK [] kvs))) p (.dK (mergeK (mergeK [] more) (mergeK [] kvs))))
theorem pe_dstar {X : Cx} {pos : Pos} {a : Expr} {keys : List (Option Expr)} {values : List Expr} {ta : TE} {trs : List (TE × TE)} (ha : PE X a ta) (h : PPs X pos keys values trs) (hall : keys.all (·.isSome) = true) (hl : keys.length = values.length) (h0 : keys ≠ [])
    (h15 : keys.length ≤ 15) : PE X (.Dict (none :: keys) (a :: values) pos) (tDStar ta trs) := by
  refine ⟨fun pins s σ H Q I q => ?_⟩
  rw [arm_eval_Dict]
  refine wpAny_bind (wpAny_standAt ?_)
  show wpAny _ _ (dictDisplay ((none, (do let x ← eval a X.env; standAt pos; pure x)) :: ((evalEachOpt keys X.env).zip ((evalEach values X.env).map fun v => do let x ← v; standAt pos; pure x)))) _ _ _
  rw [zip_pairTrees keys values X.env pos hall hl]
  unfold dictDisplay
  dsimp only
  rw [List.forIn_cons]
  refine wpAny_bind (wpAny_bind ?_)
  dsimp only
  simp only [List.isEmpty_nil, if_true]
  refine wpAny_bind (wpAny_pure ?_)
  dsimp only
  refine wpAny_bind (wpAny_alloc ?_)
  have hn := I.hok.fresh (Nat.le_refl s.heap.objs.size)
  have I1 := I.laid (a := s.heap.objs.size) (o := .dK []) (h' := s.heap.push { cls := .type "dict", data := .dict #[] }) (t' := s.toks) (fun _ _ q => Heap.get?_push_of_some _ q) (Nat.le_refl _) (dk_empty s.heap I.big)
  generalize s.heap.objs.size = p at hn I1 ⊢
  refine wpAny_bind (wpAny_holding (wpAny_bind (thn (ha.run pins _ σ _ _ I1 (q p hn)) fun v s1 ⟨x, H1, I2, rx, b, more, ex, hbp, ep, eb, q2⟩ => wpAny_bind (wpAny_standAt (wpAny_pure ?_)))))
  subst ex
  obtain rfl : v = Value.ref b := rx
  obtain ⟨z, hd, vs0, r0, dd⟩ := dk_of I2.hok ep
  cases r0
  obtain ⟨z2, hd2, ws2, rel2, dd2⟩ := dk_of I2.hok eb
  have hsz0 : ([] : List (Key × Value)).length + ws2.length ≤ sizeLine := by
    rw [List.length_nil, Nat.zero_add, ← rel2.length]
    exact z2
  refine wpAny_bind (wpAny_onRaise (wpAny_tryCatch (wpAny_onRaise (wpAny_holding (merge_own hbp hd2 dd dd2 hsz0 fun h1 dd1 hs1 => ?_)))))
  refine wpAny_pure ?_
  have he1 : ∃ q, h1.get? p = some q := let ⟨q, _, _, hq, _⟩ := dd1; ⟨q, hq⟩
  have hz1 : (mergeK [] more).length ≤ sizeLine := Nat.le_trans (length_mergeK more []) (by rw [List.length_nil, Nat.zero_add]; exact z2)
  have I3 := d_write (t' := s1.toks) (ob := .dK (mergeK [] more)) I2 (by rw [ep]; exact True.intro) hs1 he1 (dk_new hz1 hd (KV.merge rel2 .nil) dd1)
  have hpn : (pairTrees keys values X.env pos).length = keys.length := pairTrees_length keys values X.env pos hall hl
  dsimp only
  rw [heap_pairs (some p) (fun x r hr => by
    have few17 : ((r ++ [(x.1, x.2)]).length == 17) = false := by simp; omega
    simp only [few17, Bool.false_eq_true, if_false]) (pairTrees keys values X.env pos) [] (by rw [List.length_nil, hpn]; omega)]
  refine wpAny_pure ?_
  have hemp : (([] : List (Sem Value × Sem Value)) ++ pairTrees keys values X.env pos).isEmpty = false := by
    rw [List.nil_append]
    cases hp : pairTrees keys values X.env pos with
    | nil => rw [hp] at hpn; exact absurd (List.length_eq_zero_iff.mp hpn.symm) h0
    | cons _ _ => rfl
  dsimp only
  rw [hemp]
  simp only [Bool.false_eq_true, if_false]
  refine wpAny_bind ?_
  refine wpAny_bind (wpAny_holding ?_)
  have hn3 := I3.hok.fresh (Nat.le_refl h1.objs.size)
  have I4 := I3.laid (a := h1.objs.size) (o := .dK []) (h' := h1.push { cls := .type "dict", data := .dict #[] }) (t' := s1.toks) (fun _ _ q => Heap.get?_push_of_some _ q) (Nat.le_refl _) (dk_empty h1 I3.big)
  rw [List.nil_append]
  refine wpAny_subDict (knd := mixKind X.prog X.w) (by rw [hpn]; exact h15) (thn (h.run pins _ σ _ _ I4 (q2 _ hn3)) fun ws s2 ⟨ps, H2, I5, rel, eq, ep2, kvs, epk, lk, lz, q3⟩ => ?_)
  subst epk
  obtain ⟨rs, c, rk⟩ := carries_of (P := X.prog) (w := X.w) rel
  obtain ⟨z5, hd5, vs5, r5, dd5⟩ := dk_of I5.hok eq
  cases r5
  refine ⟨rs, c, dd5, fun h' dd' hs => ?_⟩
  have hz0 : (mergeK [] kvs).length ≤ sizeLine := by
    have h1 := length_mergeK kvs []
    rw [List.length_nil] at h1
    rw [sizeLine_eq]; omega
  have heq : ∃ q, h'.get? h1.objs.size = some q := let ⟨q, _, _, hq, _⟩ := dd'; ⟨q, hq⟩
  have I6 := d_write (t' := s2.toks + ws.length) (ob := .dK (mergeK [] kvs)) I5 (by rw [eq]; exact True.intro) hs heq (dk_new hz0 hd5 (rk.merge .nil) dd')
  have hpq : p ≠ h1.objs.size := fun z => by
    rw [← z, upd_same] at hn3
    cases hn3
  have ep6 : upd H2 h1.objs.size (.dK (mergeK [] kvs)) p = some (.dK (mergeK [] more)) := (upd_ne hpq).trans ep2
  have eq6 : upd H2 h1.objs.size (.dK (mergeK [] kvs)) h1.objs.size = some (.dK (mergeK [] kvs)) := upd_same
  obtain ⟨z6, hd6, ws6, rel6, dd6⟩ := dk_of I6.hok ep6
  obtain ⟨z7, hd7, ws7, rel7, dd7⟩ := dk_of I6.hok eq6
  have hk15 : (mergeK [] kvs).length ≤ kvs.length := by
    have h1 := length_mergeK kvs []
    rw [List.length_nil, Nat.zero_add] at h1
    exact h1
  have hsz2 : ws6.length + ws7.length ≤ sizeLine := by
    rw [← rel6.length, ← rel7.length]
    omega
  refine wpAny_bind (wpAny_onRaise (wpAny_holding (merge_own (Ne.symm hpq) hd7 dd6 dd7 hsz2 fun h2 dd8 hs8 => ?_)))
  refine wpAny_pure ?_
  dsimp only
  refine wpAny_pure ?_
  have he8 : ∃ q, h2.get? p = some q := let ⟨q, _, _, hq, _⟩ := dd8; ⟨q, hq⟩
  have hz8 : (mergeK (mergeK [] more) (mergeK [] kvs)).length ≤ sizeLine := Nat.le_trans (length_mergeK _ _) (by omega)
  exact ⟨.ref p, _, d_write (s := { s2 with heap := h', toks := s2.toks + ws.length }) (t' := s2.toks + ws.length) I6 (by rw [ep6]; exact True.intro) hs8 he8 (dk_new hz8 hd6 (KV.merge rel7 rel6) dd8), rfl, q3⟩
/-- d != d, one and the same dict -/
def rNeSelf : R2 := fun x y H Q => ∃ a ks, x = .ref a ∧ y = .ref a ∧ H a = some (.dK ks) ∧ (ks.map (·.1)).Nodup ∧ Q (.bl false) H
theorem hits_self {A : Around} {s : Shared} {kb : List (Key × Value)} : ∀ (va : List (Key × Value)), (∀ p ∈ va, valueAt kb p.1 = some p.2) → PySem.W.KeqHits A s kb va true
  | [], _ => .nil
  | (k, v) :: r, h => by
    show PySem.W.KeqHits A s kb ((k, v) :: r) (true && true)
    exact .hit (h _ List.mem_cons_self) (SeqAt.EqAt.same _) (hits_self r fun p hp => h p (List.mem_cons_of_mem _ hp))
theorem valueAt_self : ∀ {va : List (Key × Value)}, (va.map (·.1)).Nodup → ∀ p ∈ va, valueAt va p.1 = some p.2
  | [], _, p, h => nomatch h
  | (k, v) :: r, hn, p, h => by
    rw [List.map_cons, List.nodup_cons] at hn
    unfold valueAt
    rcases List.mem_cons.mp h with e | e
    · rw [e]
      simp
    · have m := List.mem_map_of_mem (f := fun q : Key × Value => q.1) e
      have hne : k ≠ p.1 := fun z => hn.1 (by rw [show (k, v).1 = p.1 from z]; exact m)
      have ih := valueAt_self hn.2 p e
      unfold valueAt at ih
      simp [List.find?_cons, hne] at ih ⊢
      exact ih
theorem op_neSelf {X : Cx} (hu : X.A.units < cLine) : OpR X (compareOp .NotEq) rNeSelf := by
  intro pins s σ H x y v u Q I rx ry h
  obtain ⟨a, ks, rfl, rfl, ea, hn, q⟩ := h
  cases (show v = Value.ref a from rx)
  cases (show u = Value.ref a from ry)
  obtain ⟨_, ya, va, ra, da⟩ := dk_of I.hok ea
  have hk : ∀ {ks : List (Key × V)} {va : List (Key × Value)}, KV ks va → va.map (·.1) = ks.map (·.1) := fun r => by
    induction r with
    | nil => rfl
    | cons h _ ih => rw [List.map_cons, List.map_cons, ih, h.1]
  have hk := hk ra
  exact PySem.W.keq_ne (knd := mixKind X.prog X.w) (r := true) ya ya da da hu (fun _ => hits_self va (valueAt_self (by rw [hk]; exact hn))) (fin_bl I q (by simp))
end L9

/-! the calm land: it starts somewhere near every place; its closed parts are the sure regions -/
namespace L9
open PySem PySem.Spec PyProof.Rows L2
open Classical in
theorem least_R (P : Str → Prop) (g : Str → Int) : ∀ l : List Str, (∃ x ∈ l, P x) → ∃ r ∈ l, P r ∧ ∀ y ∈ l, P y → ¬ ltR (g y, y) (g r, r) = true
  | [], ⟨x, hx, _⟩ => nomatch hx
  | z :: l, h => by
    by_cases hl : ∃ x ∈ l, P x
    · obtain ⟨r, hr, hp, hm⟩ := least_R P g l hl
      by_cases hz : P z ∧ ltR (g z, z) (g r, r) = true
      · refine ⟨z, List.mem_cons_self, hz.1, fun y hy hpy hlt => ?_⟩
        rcases List.mem_cons.mp hy with e | e
        · rw [e] at hlt; exact ltR_irrefl _ hlt
        · exact hm y e hpy (ltR_trans hlt hz.2)
      · refine ⟨r, List.mem_cons_of_mem _ hr, hp, fun y hy hpy hlt => ?_⟩
        rcases List.mem_cons.mp hy with e | e
        · rw [e] at hlt hpy; exact hz ⟨hpy, hlt⟩
        · exact hm y e hpy hlt
    · obtain ⟨x, hx, hp⟩ := h
      rcases List.mem_cons.mp hx with e | e
      · subst e
        refine ⟨x, List.mem_cons_self, hp, fun y hy hpy hlt => ?_⟩
        rcases List.mem_cons.mp hy with e | e
        · rw [e] at hlt; exact ltR_irrefl _ hlt
        · exact hl ⟨y, e, hpy⟩
      · exact absurd ⟨x, e, hp⟩ hl
section
variable {c : Ch} {f g : Str → Int} {t s : Int} {x y u : Str}
/-- places of at most a level -/
def Lv (c : Ch) (f : Str → Int) (t : Int) (x : Str) : Prop := x ∈ c.names ∧ f x ≤ t
theorem Lv.mono (h : s ≤ t) (x : Str) (k : Lv c f s x) : Lv c f t x := ⟨k.1, Int.le_trans k.2 h⟩
theorem fl_rch (ok : c.Ok) (hx : x ∈ c.names) : Fl (AdjS c []) f [x] f t y ↔ M9.Rch (Adj c) (Lv c f t) x y := by
  constructor
  · intro h
    induction h with
    | start h1 h2 =>
      rw [List.mem_singleton.mp h1] at h2 ⊢
      exact .refl ⟨hx, h2⟩
    | step _ ha hf ih => exact .step ih ha.1 ⟨ok.nin _ ha.1.1 _ ha.1.2, hf⟩
  · intro h
    induction h with
    | refl h => exact .start (List.mem_singleton.mpr rfl) h.2
    | step _ ha hf ih => exact .step ih ⟨ha, fun z => nomatch z⟩ hf.2
/-- a part with a place that is surely low enough, and dry, has a root -/
theorem root_of (ok : c.Ok) (hlh : ∀ x ∈ c.names, f x ≤ g x) (hst : s ≤ t) (hx : M9.Rch (Adj c) (Lv c f t) u x) (hxs : g x ≤ s) (dry : ∀ y, M9.Rch (Adj c) (Lv c f t) u y → y ∉ c.outs) :
    ∃ r, M9.Rch (Adj c) (Lv c f t) u r ∧ g r ≤ s ∧ Root c f g r := by
  obtain ⟨r, hr, hp, hm⟩ := least_R (fun y => M9.Rch (Adj c) (Lv c f t) u y) g c.names ⟨x, hx.last.1, hx⟩
  have hrs : g r ≤ s := by
    rcases Int.lt_or_le (g x) (g r) with h | h
    · exact absurd (ltR_iff.mpr (.inl h)) (hm x hx.last.1 hx)
    · exact Int.le_trans h hxs
  refine ⟨r, hp, hrs, hr, fun y hy => ?_⟩
  have h1 := (fl_rch ok hr).mp hy
  have h2 : M9.Rch (Adj c) (Lv c f t) u y := hp.trans (h1.mono fun a ha => ha.mono (Int.le_trans hrs hst) a)
  exact ⟨dry y h2, hm y h2.last.1 h2⟩
theorem lo_hi (ok : c.Ok) : ∀ x ∈ c.names, c.lo x ≤ c.hi x := fun x hx => (ok.bnd x hx).2.1
variable {sl : List Str} {sv : Str → Int}
theorem Starts.names (ok : c.Ok) (S : Starts c sl sv) : ∀ x ∈ sl, x ∈ c.names ∧ c.lo x ≤ sv x := fun x hx => by
  rcases (S.mem x).mp hx with h | h
  · exact ⟨ok.oin x h, by rw [S.out x h]; exact Int.le_refl _⟩
  · exact ⟨h.1, by rw [S.root x h]; exact lo_hi ok x h.1⟩
/-- reached from the starts: from a start within the places of that level -/
theorem fl_starts (ok : c.Ok) (S : Starts c sl sv) : Fl (AdjS c []) c.lo sl sv t u ↔ ∃ x ∈ sl, sv x ≤ t ∧ M9.Rch (Adj c) (Lv c c.lo t) x u := by
  constructor
  · intro h
    induction h with
    | start h1 h2 => exact ⟨_, h1, h2, .refl ⟨(S.names ok _ h1).1, Int.le_trans (S.names ok _ h1).2 h2⟩⟩
    | step _ ha hf ih =>
      obtain ⟨x, h1, h2, h3⟩ := ih
      exact ⟨x, h1, h2, .step h3 ha.1 ⟨ok.nin _ ha.1.1 _ ha.1.2, hf⟩⟩
  · rintro ⟨x, h1, h2, h3⟩
    induction h3 with
    | refl _ => exact .start h1 h2
    | step _ ha hf ih => exact .step ih ⟨ha, fun z => nomatch z⟩ hf.2
open Classical in
/-- every place is reached at its high bound -/
theorem calm_hi (ok : c.Ok) (S : Starts c sl sv) (hu : u ∈ c.names) : Fl (AdjS c []) c.lo sl sv (c.hi u) u := by
  rw [fl_starts ok S]
  have sy := Adj.sy ok
  have h0 : Lv c c.lo (c.hi u) u := ⟨hu, lo_hi ok u hu⟩
  by_cases h : ∃ o, M9.Rch (Adj c) (Lv c c.lo (c.hi u)) u o ∧ o ∈ c.outs
  · obtain ⟨o, h1, h2⟩ := h
    exact ⟨o, (S.mem o).mpr (.inl h2), by rw [S.out o h2]; exact h1.last.2, h1.symm sy⟩
  · obtain ⟨r, h1, h2, h3⟩ := root_of (g := c.hi) ok (lo_hi ok) (Int.le_refl (c.hi u)) (.refl h0) (Int.le_refl _) fun y hy ho => h ⟨y, hy, ho⟩
    exact ⟨r, (S.mem r).mpr (.inr h3), by rw [S.root r h3]; exact h2, h1.symm sy⟩
theorem fl_lo (ok : c.Ok) (S : Starts c sl sv) (h : Fl (AdjS c []) c.lo sl sv t u) : Lv c c.lo t u := by
  obtain ⟨x, _, _, h⟩ := (fl_starts ok S).mp h
  exact h.last
/-- the calm land's heights lie within the bounds -/
theorem calm_in (ok : c.Ok) {h : Str → Int} (S : Starts c sl sv) (hh : ∀ u ∈ c.names, ∀ t, h u ≤ t ↔ Fl (AdjS c []) c.lo sl sv t u) : ∀ x ∈ c.names, c.lo x ≤ h x ∧ h x ≤ c.hi x := fun x hx =>
  ⟨(fl_lo ok S ((hh x hx (h x)).mp (Int.le_refl _))).2, (hh x hx _).mpr (calm_hi ok S hx)⟩
/-- .. and are one for all that lies in a part -/
theorem calm_part (ok : c.Ok) {h : Str → Int} (S : Starts c sl sv) (hh : ∀ u ∈ c.names, ∀ t, h u ≤ t ↔ Fl (AdjS c []) c.lo sl sv t u) (hx : x ∈ c.names) (hxt : h x ≤ t) (hy : M9.Rch (Adj c) (Lv c c.lo t) x y) : h y ≤ t := by
  rw [hh y hy.last.1]
  obtain ⟨z, h1, h2, h3⟩ := (fl_starts ok S).mp ((hh x hx t).mp hxt)
  exact (fl_starts ok S).mpr ⟨z, h1, h2, h3.trans hy⟩
end
section
variable {W : Wb} {m : Nat} {c : Ch} {N : List (List Int)} {t : Int}
/-- numbers by a function of the names -/
structure ByF (W : Wb) (ws : List Int) (fn : Str → Int) : Prop where
  len : ws.length = W.lab.length
  val : ∀ (i : Nat) x v, W.lab[i]? = some x → ws[i]? = some v → fn x = v
theorem ByF.lo (hW : W.Ok m) : ByF W W.lo W.loF := ⟨hW.llo, fun i x v h1 h2 => Wb.loF_at hW h1 h2⟩
theorem ByF.hi (hW : W.Ok m) : ByF W W.hi W.hiF := ⟨hW.lhi, fun i x v h1 h2 => Wb.hiF_at hW h1 h2⟩
variable {ws : List Int} {fn : Str → Int}
theorem low_ix (hF : ByF W ws fn) {x : Str} (hx : x ∈ W.lab) : LowI ws t (W.ix x) ↔ fn x ≤ t := by
  have g := idx_get hx
  obtain ⟨v, hv⟩ : ∃ v, ws[W.lab.idxOf x]? = some v := ⟨_, List.getElem?_eq_getElem (by rw [hF.len]; exact get_lt g)⟩
  have e := hF.val _ x v g hv
  constructor
  · rintro ⟨i, v2, e2, hv2, hvt⟩
    have : i = W.lab.idxOf x := by unfold Wb.ix at e2; omega
    subst this
    rw [hv] at hv2
    cases hv2
    rw [e]
    exact hvt
  · intro h
    exact ⟨_, v, rfl, hv, by rw [← e]; exact h⟩
theorem low_name (hW : W.Ok m) (hF : ByF W ws fn) {a : Int} (h : LowI ws t a) : ∃ x ∈ W.lab, a = W.ix x ∧ fn x ≤ t := by
  obtain ⟨i, v, rfl, hv, hvt⟩ := h
  have hi := get_lt hv
  rw [hF.len] at hi
  obtain ⟨x, hx⟩ : ∃ x, W.lab[i]? = some x := ⟨_, List.getElem?_eq_getElem hi⟩
  refine ⟨x, List.mem_of_getElem? hx, ?_, by rw [hF.val i x v hx hv]; exact hvt⟩
  unfold Wb.ix
  rw [idx_of hW.labs.nd hx]
theorem ix_inj (hW : W.Ok m) {x y : Str} (hx : x ∈ W.lab) (hy : y ∈ W.lab) (h : W.ix x = W.ix y) : x = y := by
  have := Wb.at_ix hx
  rw [h, Wb.at_ix hy] at this
  exact this.symm
/-- ways by names are ways by numbers -/
theorem rch_ix (hW : W.Ok m) (hc : OfWeb W c) (hN : NearOf W.lab.length W.prs N) (hF : ByF W ws fn) {x y : Str} (hx : x ∈ W.lab) : M9.Rch (AdjI N) (LowI ws t) (W.ix x) (W.ix y) ∧ y ∈ W.lab ↔ M9.Rch (Adj c) (Lv c fn t) x y := by
  constructor
  · rintro ⟨h, hy⟩
    have h2 := h.map (adj2 := Adj c) (T := Lv c fn t) W.at (fun a ha => by
      obtain ⟨z, hz, rfl, hzt⟩ := low_name hW hF ha
      rw [Wb.at_ix hz]
      exact ⟨(hc.nm z).mpr hz, hzt⟩) (fun a b _ _ h => (adj_to hW hc hN h).1)
    rw [Wb.at_ix hx, Wb.at_ix hy] at h2
    exact h2
  · intro h
    refine ⟨h.map W.ix (fun a ha => (low_ix hF ((hc.nm a).mp ha.1)).mpr ha.2) (fun a b _ _ h => adj_fro hW hc hN h), (hc.nm y).mp h.last.1⟩
theorem rch_name (hW : W.Ok m) (hc : OfWeb W c) (hN : NearOf W.lab.length W.prs N) (hF : ByF W ws fn) {x : Str} {b : Int} (hx : x ∈ W.lab) (h : M9.Rch (AdjI N) (LowI ws t) (W.ix x) b) : ∃ y ∈ W.lab, b = W.ix y ∧ M9.Rch (Adj c) (Lv c fn t) x y := by
  obtain ⟨y, hy, rfl, _⟩ := low_name hW hF h.last
  exact ⟨y, hy, rfl, (rch_ix hW hc hN hF hx).mp ⟨h, hy⟩⟩
theorem dr_out (hW : W.Ok m) (hc : OfWeb W c) {x : Str} (hx : x ∈ W.lab) : W.ix x ∈ W.dr ↔ x ∈ c.outs := by
  rw [hc.outs]
  constructor
  · intro h
    exact ⟨W.lab.idxOf x, h, idx_get hx⟩
  · rintro ⟨d, hd, e⟩
    have : W.ix x = (d : Int) := by unfold Wb.ix; rw [idx_of hW.labs.nd e]
    rw [this]
    exact hd
/-- the calm land has just as many closed parts as there are sure regions -/
theorem calm_count {hs : List Int} {h : Str → Int} {s : Int} {L M : List (List Int)} (hW : W.Ok m) (hc : OfWeb W c) (hN : NearOf W.lab.length W.prs N) (hF : ByF W hs h) (hC : CalmOf c h) (hst : s ≤ t) (hL : ShutI N W.lo W.hi W.dr s t L) (hM : ShutI N hs hs W.dr s t M) : M.length = L.length := by
  obtain ⟨sl, sv, S, hh⟩ := hC
  have ok := hc.ok
  have sy := Adj.sy ok
  have syI := adjI_sy hW hN
  have FL : ByF W W.lo c.lo := by rw [hc.lo]; exact ByF.lo hW
  have FH : ByF W W.hi c.hi := by rw [hc.hi]; exact ByF.hi hW
  have hin := calm_in ok S hh
  -- ways at a level of the calm land, and of the low bounds
  have toLo : ∀ {x y : Str}, M9.Rch (Adj c) (Lv c h t) x y → M9.Rch (Adj c) (Lv c c.lo t) x y := fun k => k.mono fun a ha => ⟨ha.1, Int.le_trans (hin a ha.1).1 ha.2⟩
  have toH : ∀ {x y : Str}, x ∈ c.names → h x ≤ t → M9.Rch (Adj c) (Lv c c.lo t) x y → M9.Rch (Adj c) (Lv c h t) x y := fun {x y} hx hxt k => by
    induction k with
    | refl _ => exact .refl ⟨hx, hxt⟩
    | step k a hz ih => exact .step ih a ⟨hz.1, calm_part ok S hh hx hxt (.step k a hz)⟩
  refine Nat.le_antisymm ?_ ?_
  · refine M9.count_le (D := fun a b => ∀ y ∈ a, y ∉ b) (R := fun (k l : List Int) => ∃ x ∈ W.lab, h x ≤ t ∧ W.ix x ∈ k ∧ W.ix x ∈ l ∧ k ∈ M ∧ l ∈ L) ?_ M L hM.parts.apart fun k hk => ?_
    · rintro k k' l ⟨x, hx, hxt, hxk, hxl, hk, hl⟩ ⟨y, hy, hyt, hyk, hyl, hk', _⟩ hd
      have h1 := ((hL.parts.at syI hl hxl).2 (W.ix y)).mp hyl
      have h2 := (rch_ix hW hc hN FL hx).mp ⟨h1, hy⟩
      have h3 := (rch_ix hW hc hN hF hx).mpr (toH ((hc.nm x).mpr hx) hxt h2)
      exact hd _ (((hM.parts.at syI hk hxk).2 _).mpr h3.1) hyk
    · obtain ⟨a, hak, ha⟩ := hM.low k hk
      obtain ⟨x, hx, rfl, hxs⟩ := low_name hW hF ha
      have hxn := (hc.nm x).mpr hx
      have hxt : h x ≤ t := Int.le_trans hxs hst
      have hkr := (hM.parts.at syI hk hak).2
      obtain ⟨z, hz, hzs, hzx⟩ := (fl_starts ok S).mp ((hh x hxn s).mp hxs)
      have hxz : M9.Rch (Adj c) (Lv c c.lo t) x z := (hzx.symm sy).mono fun a ha => ha.mono hst a
      have hzn := (S.names ok z hz).1
      have hzl := (hc.nm z).mp hzn
      have inK : ∀ y, M9.Rch (Adj c) (Lv c c.lo t) x y → W.ix y ∈ k := fun y hy => (hkr _).mpr ((rch_ix hW hc hN hF hx).mpr (toH hxn hxt hy)).1
      have hro : Root c c.lo c.hi z := by
        rcases (S.mem z).mp hz with ho | ho
        · exact absurd ((dr_out hW hc hzl).mpr ho) (hM.dry k hk _ (inK z hxz))
        · exact ho
      rw [S.root z hro] at hzs
      have hxlo : c.lo x ≤ t := Int.le_trans (hin x hxn).1 hxt
      obtain ⟨l, hl, hxl⟩ := hL.all (W.ix x) ((low_ix FL hx).mpr hxlo) (fun b hb hd => by
        obtain ⟨y, hy, rfl, hxy⟩ := rch_name hW hc hN FL hx hb
        exact hM.dry k hk _ (inK y hxy) hd) ⟨W.ix z, ((rch_ix hW hc hN FL hx).mpr hxz).1, (low_ix FH hzl).mpr hzs⟩
      exact ⟨l, hl, x, hx, hxt, hak, hxl, hk, hl⟩
  · refine M9.count_le (D := fun a b => ∀ y ∈ a, y ∉ b) (R := fun (l k : List Int) => ∃ x ∈ W.lab, h x ≤ t ∧ W.ix x ∈ k ∧ W.ix x ∈ l ∧ k ∈ M ∧ l ∈ L) ?_ L M hL.parts.apart fun l hl => ?_
    · rintro l l' k ⟨x, hx, hxt, hxk, hxl, hk, hl⟩ ⟨y, hy, hyt, hyk, hyl, _, hl'⟩ hd
      have h1 := ((hM.parts.at syI hk hxk).2 (W.ix y)).mp hyk
      have h2 := (rch_ix hW hc hN hF hx).mp ⟨h1, hy⟩
      have h3 := (rch_ix hW hc hN FL hx).mpr (toLo h2)
      exact hd _ (((hL.parts.at syI hl hxl).2 _).mpr h3.1) hyl
    · obtain ⟨a, hal, ha⟩ := hL.low l hl
      obtain ⟨x, hx, rfl, hxs⟩ := low_name hW FH ha
      obtain ⟨hxlow, hlr⟩ := hL.parts.at syI hl hal
      have hxn := (hc.nm x).mpr hx
      have hx0 : Lv c c.lo t x := ⟨hxn, (low_ix FL hx).mp hxlow⟩
      have inL : ∀ y, M9.Rch (Adj c) (Lv c c.lo t) x y → W.ix y ∈ l := fun y hy => (hlr _).mpr ((rch_ix hW hc hN FL hx).mpr hy).1
      obtain ⟨r, hxr, hrs, hro⟩ := root_of (g := c.hi) ok (lo_hi ok) hst (.refl hx0) hxs fun y hy ho => by
        have hyl := (hc.nm y).mp hy.last.1
        exact hL.dry l hl _ (inL y hy) ((dr_out hW hc hyl).mpr ho)
      have hrl := (hc.nm r).mp hro.1
      have hr1 : h r ≤ s := Int.le_trans ((hh r hro.1 _).mpr (.start ((S.mem r).mpr (.inr hro)) (by rw [S.root r hro]; exact Int.le_refl _))) hrs
      have hr2 : h r ≤ t := Int.le_trans hr1 hst
      obtain ⟨k, hk, hrk⟩ := hM.all (W.ix r) ((low_ix hF hrl).mpr hr2) (fun b hb hd => by
        obtain ⟨y, hy, rfl, hry⟩ := rch_name hW hc hN hF hrl hb
        exact hL.dry l hl _ (inL y (hxr.trans (toLo hry))) hd) ⟨W.ix r, .refl ((low_ix hF hrl).mpr hr2), (low_ix hF hrl).mpr hr1⟩
      exact ⟨k, hk, r, hrl, hr2, hrk, inL r hxr, hk, hl⟩
end
/-- o(e, ..), o of the class at C, wherever it stands -/
def tCallOK (C : Addr) (sp : Sp) (tf : TE) (t : TA) : TE := fun σ H Q => tf σ H fun y H1 => ∃ a, y = V.ref a ∧ t σ H1 fun vs H2 => (∃ dx fs, H2 a = some (.ins C dx fs)) ∧ sp (V.ref a :: vs ++ []) H2 Q E0
theorem w_callOK {C : Addr} {sp : Sp} {tf : TE} {t : TA} {σ : L2.St} {H : Hp} {Q : VK} (q : tf σ H fun y H1 => ∃ a, y = V.ref a ∧ t σ H1 fun vs H2 => (∃ dx fs, H2 a = some (.ins C dx fs)) ∧ sp (V.ref a :: vs ++ []) H2 Q E0) : tCallOK C sp tf t σ H Q := q
theorem OCal.callK {X : Cx} {C : Addr} {k : Nat} {ps : List Str} {sp : Sp} {fe e : Expr} {es : List Expr} {tf : TE} {t : TA} {pos : Pos} (M : OCal X.prog X.w X.K X.mg X.base C "__call__" k ps sp) (hr : Room k X.A) (hf : PE X fe tf) (ha : PA X (e :: es) t)
    (ht : eval (.Call fe (e :: es) [] pos) X.env = (do callWith pos (← eval fe X.env) [] (backTo pos (starEach (e :: es) X.env)) (backToKw pos (keywordEach [] X.env))) := by rfl)
    (he : starEach (e :: es) X.env = (false, eval e X.env) :: starEach es X.env := by rfl) (hpl : (backTo pos (starEach es X.env)).any (·.1) = false := by rfl) : PE X (.Call fe (e :: es) [] pos) (tCallOK C sp tf t) := by
  obtain ⟨f, fd, G, hs, hf', hf2, b⟩ := M.ex
  refine ⟨fun pins s σ H Q I h => ?_⟩
  refine Call_ (thn (hf.run pins s σ H _ I h) fun u s1 ⟨y, H1, I1, ry, a, ey, q⟩ => ?_) ht
  subst ey
  obtain rfl : u = Value.ref a := ry
  refine StX.callO_with (thn (ha.run pos pins s1 σ H1 _ I1 q) fun us s2 ⟨vs, H2, I2, r, hi, q2⟩ => ?_) he hpl
  obtain ⟨ox, od, J, hd⟩ := StX.insC_at (X := X) I2 (.inr hi)
  exact ⟨⟨C, ox, od, J, hd⟩, StX.run_callO ⟨hs, hf', hf2⟩ (G.raw b .nil) hr pass0 I2 (.inr hi) r q2⟩
end L9

/-! no land has fewer hollows that are deeper than the chart's sure ones -/
namespace L9
open PySem PySem.Spec PyProof.Rows L2
/-- a place whose hollow, over floods by f and ranks by g, is deeper than d -/
def Deep (c : Ch) (f g : Str → Int) (d : Int) (x : Str) : Prop := x ∈ c.names ∧ ∀ y, M9.Rch (Adj c) (Lv c f (g x + d)) x y → y ∉ c.outs ∧ ¬ ltR (g y, y) (g x, x) = true
/-- .. as the end of the hollow tells it -/
theorem deep_end {c : Ch} {f g : Str → Int} {x : Str} {o : Option Int} {d : Int} (ok : c.Ok) (hx : x ∈ c.names) (h : EndOf c f g x o) : Deep c f g d x ↔ ∀ e, o = some e → d < e - g x := by
  constructor
  · intro hd e he
    rcases Int.lt_or_le d (e - g x) with k | k
    · exact k
    · obtain ⟨y, hy, hz⟩ := (h (g x + d)).mp ⟨e, he, by omega⟩
      have h1 := hd.2 y ((fl_rch ok hx).mp hy)
      rcases hz with z | z
      · exact absurd z h1.1
      · exact absurd z h1.2
  · intro hd
    refine ⟨hx, fun y hy => ?_⟩
    have no : ¬ (y ∈ c.outs ∨ ltR (g y, y) (g x, x) = true) := fun z => by
      obtain ⟨e, he, hle⟩ := (h (g x + d)).mpr ⟨y, (fl_rch ok hx).mpr hy, z⟩
      have := hd e he
      omega
    exact ⟨fun z => no (.inl z), fun z => no (.inr z)⟩
section
variable {c : Ch} {h : Str → Int} {d : Int}
theorem deep_has (ok : c.Ok) (hh : ∀ x ∈ c.names, c.lo x ≤ h x ∧ h x ≤ c.hi x) {r : Str} (hr : Deep c c.lo c.hi d r) (hd : 0 ≤ d) : ∃ b, Deep c h h d b ∧ M9.Rch (Adj c) (Lv c c.lo (c.hi r + d)) r b := by
  have hrl : Lv c c.lo (c.hi r + d) r := ⟨hr.1, by
    have := lo_hi ok r hr.1
    omega⟩
  obtain ⟨b, hb, hPb, hleast⟩ := least_R (fun x => M9.Rch (Adj c) (Lv c c.lo (c.hi r + d)) r x) h c.names ⟨r, hr.1, .refl hrl⟩
  have hbr : h b ≤ h r := by
    rcases Int.lt_or_le (h r) (h b) with k | k
    · exact absurd (ltR_iff.mpr (.inl k)) (hleast r hr.1 (.refl hrl))
    · exact k
  have hrr := (hh r hr.1).2
  refine ⟨b, ⟨hb, fun y hy => ?_⟩, hPb⟩
  have hy2 : M9.Rch (Adj c) (Lv c c.lo (c.hi r + d)) b y := hy.mono fun a ha => ⟨ha.1, by
    have h1 := (hh a ha.1).1
    have h2 := ha.2
    omega⟩
  have hPy := hPb.trans hy2
  exact ⟨(hr.2 y hPy).1, hleast y hy.last.1 hPy⟩
theorem deep_apart (ok : c.Ok) {r r' b : Str} (hr : Deep c c.lo c.hi d r) (hr' : Deep c c.lo c.hi d r') (hb : M9.Rch (Adj c) (Lv c c.lo (c.hi r + d)) r b) (hb' : M9.Rch (Adj c) (Lv c c.lo (c.hi r' + d)) r' b) : r = r' := by
  have sy := Adj.sy ok
  have key : ∀ {p q : Str}, Deep c c.lo c.hi d p → Deep c c.lo c.hi d q → M9.Rch (Adj c) (Lv c c.lo (c.hi p + d)) p b → M9.Rch (Adj c) (Lv c c.lo (c.hi q + d)) q b → c.hi p ≤ c.hi q → ¬ ltR (c.hi p, p) (c.hi q, q) = true := fun {p q} hp hq h1 h2 hle => by
    have h3 : M9.Rch (Adj c) (Lv c c.lo (c.hi q + d)) b p := (h1.symm sy).mono (Lv.mono (by omega))
    exact (hq.2 p (h2.trans h3)).2
  rcases ltR_tri (c.hi r, r) (c.hi r', r') with k | k | k
  · exact absurd k (key hr hr' hb hb' (ltR_fst k))
  · exact congrArg Prod.snd k
  · exact absurd k (key hr' hr hb' hb (ltR_fst k))
/-- just so many -/
theorem deep_le (ok : c.Ok) (hh : ∀ x ∈ c.names, c.lo x ≤ h x ∧ h x ≤ c.hi x) (hd : 0 ≤ d) {A B : List Str} (nd : A.Nodup) (hA : ∀ x ∈ A, Deep c c.lo c.hi d x) (hB : ∀ x, Deep c h h d x → x ∈ B) : A.length ≤ B.length := by
  refine M9.count_le (D := fun a b => a ≠ b) (R := fun r b => Deep c c.lo c.hi d r ∧ M9.Rch (Adj c) (Lv c c.lo (c.hi r + d)) r b) ?_ A B nd fun r hr => ?_
  · rintro r r' b ⟨h1, h2⟩ ⟨h3, h4⟩ hn
    exact hn (deep_apart ok h1 h3 h2 h4)
  · obtain ⟨b, hb, hp⟩ := deep_has ok hh (hA r hr) hd
    exact ⟨b, hB b hb, hA r hr, hp⟩
end
/-- deeper than d, as the law's rows and the program's tell it -/
def isDeep (g : Int) (d : Int) (o : Option Int) : Bool := match o with | none => true | some e => decide (d < e - g)
theorem isDeep_iff {g d : Int} {o : Option Int} : isDeep g d o = true ↔ ∀ e, o = some e → d < e - g := by
  cases o with
  | none => exact ⟨fun _ e h => (nomatch h), fun _ => rfl⟩
  | some e => exact ⟨fun h e2 h2 => by cases h2; exact of_decide_eq_true h, fun h => decide_eq_true (h e rfl)⟩
/-- the hollows of the land that are deeper are at least those of the chart -/
theorem hollows_deep {c : Ch} {h : Str → Int} {d : Int} {hs hl : List (Str × Int × Option Int)} (ok : c.Ok) (hh : ∀ x ∈ c.names, c.lo x ≤ h x ∧ h x ≤ c.hi x) (hd : 0 ≤ d) (hS : Hollows c c.lo c.hi hs) (hL : Hollows c h h hl) :
    (hs.filter fun x => isDeep x.2.1 d x.2.2).length ≤ (hl.filter fun x => isDeep x.2.1 d x.2.2).length := by
  have h1 := deep_le (A := (hs.filter fun x => isDeep x.2.1 d x.2.2).map (·.1)) (B := (hl.filter fun x => isDeep x.2.1 d x.2.2).map (·.1)) ok hh hd (hS.nd.sublist (List.filter_sublist.map _)) (fun x hx => ?_) (fun x hx => ?_)
  · rwa [List.length_map, List.length_map] at h1
  · obtain ⟨p, hp, rfl⟩ := List.mem_map.mp hx
    obtain ⟨hp, hpd⟩ := List.mem_filter.mp hp
    have hn := ((hS.all p.1).mp ⟨p, hp, rfl⟩).1
    rw [hS.birth p hp] at hpd
    exact (deep_end ok hn (hS.death p hp)).mpr (isDeep_iff.mp hpd)
  · have hr : Root c h h x := ⟨hx.1, fun y hy => hx.2 y (((fl_rch ok hx.1).mp hy).mono (Lv.mono (by omega)))⟩
    obtain ⟨p, hp, rfl⟩ := (hL.all x).mpr hr
    refine List.mem_map.mpr ⟨p, List.mem_filter.mpr ⟨hp, ?_⟩, rfl⟩
    rw [hL.birth p hp]
    exact isDeep_iff.mpr ((deep_end ok hr.1 (hL.death p hp)).mp hx)
/-! ### depths in order -/
def Dp (d : Int) (v : Option Int) : Bool := match v with | none => true | some e => decide (d < e)
/-- None first, then falling -/
def Desc (xs : List (Option Int)) : Prop := xs.Pairwise fun a b => ∀ d, Dp d b = true → Dp d a = true
theorem desc_count {xs : List (Option Int)} {i : Nat} {v : Option Int} {d : Int} (h : Desc xs) (e : xs[i]? = some v) (hv : Dp d v = true) : i < (xs.filter (Dp d)).length := by
  have hi := get_lt e
  have all : ∀ u ∈ xs.take (i + 1), Dp d u = true := fun u hu => by
    obtain ⟨j, hj⟩ := List.getElem?_of_mem hu
    rw [List.getElem?_take] at hj
    split at hj
    · rename_i hji
      rcases Nat.lt_or_ge j i with k | k
      · have hj2 := get_lt hj
        have h1 := List.pairwise_iff_getElem.mp h j i hj2 hi k
        rw [List.getElem?_eq_getElem hj2] at hj
        rw [List.getElem?_eq_getElem hi] at e
        rw [← Option.some.inj hj]
        exact h1 d (by rw [Option.some.inj e]; exact hv)
      · have : j = i := by omega
        subst this
        rw [e] at hj
        rw [← Option.some.inj hj]
        exact hv
    · cases hj
  have h1 : (xs.take (i + 1)).filter (Dp d) = xs.take (i + 1) := List.filter_eq_self.mpr all
  have h2 : ((xs.take (i + 1)).filter (Dp d)).length ≤ (xs.filter (Dp d)).length := ((List.take_sublist _ _).filter _).length_le
  rw [h1, List.length_take] at h2
  omega
theorem count_desc {ys : List (Option Int)} {i : Nat} {d : Int} (h : Desc ys) (e : i < (ys.filter (Dp d)).length) : ∃ v, ys[i]? = some v ∧ Dp d v = true := by
  have hi : i < ys.length := Nat.lt_of_lt_of_le e (List.length_filter_le _ _)
  refine ⟨ys[i], List.getElem?_eq_getElem hi, ?_⟩
  cases hv : Dp d ys[i] with
  | true => rfl
  | false =>
    exfalso
    have no : (ys.drop i).filter (Dp d) = [] := List.filter_eq_nil_iff.mpr fun u hu hd => by
      obtain ⟨j, hj⟩ := List.getElem?_of_mem hu
      rw [List.getElem?_drop] at hj
      have hij := get_lt hj
      rw [List.getElem?_eq_getElem hij] at hj
      have hju := Option.some.inj hj
      rcases Nat.eq_zero_or_pos j with k | k
      · subst k
        rw [← hju] at hd
        have hd : Dp d ys[i] = true := hd
        rw [hv] at hd
        cases hd
      · have h1 := List.pairwise_iff_getElem.mp h i (i + j) hi hij (by omega) d (by rw [hju]; exact hd)
        rw [hv] at h1
        cases h1
    have h2 : (ys.filter (Dp d)) = (ys.take i).filter (Dp d) ++ (ys.drop i).filter (Dp d) := by
      rw [← List.filter_append, List.take_append_drop]
    rw [h2, no, List.append_nil] at e
    have h3 := List.length_filter_le (Dp d) (ys.take i)
    rw [List.length_take] at h3
    omega
/-- as many that are deeper, for each depth: at each index at least as deep -/
theorem depths_dom {xs ys : List (Option Int)} (hx : Desc xs) (hy : Desc ys) (hc : ∀ d : Int, 0 ≤ d → (xs.filter (Dp d)).length ≤ (ys.filter (Dp d)).length) (pos : ∀ a, some a ∈ xs → 0 < a) {i : Nat} {v : Option Int} (e : xs[i]? = some v) :
    ∃ u, ys[i]? = some u ∧ (v = none → u = none) ∧ ∀ a b, v = some a → u = some b → a ≤ b := by
  have at_ : ∀ d : Int, 0 ≤ d → Dp d v = true → ∃ u, ys[i]? = some u ∧ Dp d u = true := fun d hd hv => count_desc hy (Nat.lt_of_lt_of_le (desc_count hx e hv) (hc d hd))
  cases v with
  | none =>
    obtain ⟨u, hu, _⟩ := at_ 0 (Int.le_refl _) rfl
    refine ⟨u, hu, fun _ => ?_, fun a b h => nomatch h⟩
    cases u with
    | none => rfl
    | some b =>
      obtain ⟨u2, hu2, h2⟩ := at_ (max 0 b) (by omega) rfl
      rw [hu] at hu2
      cases hu2
      have h3 : max 0 b < b := of_decide_eq_true h2
      omega
  | some a =>
    have ha := pos a (List.mem_of_getElem? e)
    obtain ⟨u, hu, h2⟩ := at_ (a - 1) (by omega) (decide_eq_true (by omega))
    refine ⟨u, hu, fun h => (nomatch h), fun a' b h h' => ?_⟩
    cases h
    cases h'
    have h3 : a - 1 < b := of_decide_eq_true h2
    omega
end L9

/-! regions told exactly: sorted names, witnesses, the one order -/
namespace L9
open PySem PySem.Spec PyProof.Rows L2
/-- lists that were not there before -/
def Fr (H : Hp) (us : List V) : Prop := ∀ v ∈ us, ∃ m, v = V.ref m ∧ H m = none
theorem Fr.nil {H : Hp} : Fr H [] := fun _ h => nomatch h
theorem Fr.app {H : Hp} {us : List V} {r : Addr} (h : Fr H us) (hr : H r = none) : Fr H (us ++ [.ref r]) := fun v hv => by
  rcases List.mem_append.mp hv with g | g
  · exact h v g
  · exact ⟨r, List.mem_singleton.mp g, hr⟩
theorem Fr.old {H H' : Hp} {us : List V} (s : Same H H') (h : Fr H' us) : Fr H us := fun v hv => by
  obtain ⟨m, e, n⟩ := h v hv
  exact ⟨m, e, s.free n⟩
def spPartArS (C CB : Addr) : Sp := fun vs H Q _ => ∃ (p n : Addr) (s : Str) (c : Ch) (l : List Str), vs = [.ref p, .str s, .ref n] ∧ ChAt C CB H p c ∧ c.Ok ∧ H n = some (.dK (byT l)) ∧ s ∈ l ∧ (∀ x ∈ l, x ∈ c.names) ∧
  ∀ (r : Addr) (H' : Hp) (ys : List Str), Same H H' → H r = none → H' r = some (.lst (ys.map V.str)) → ys.Nodup → sortedS ys = true → (∀ y, y ∈ ys ↔ M9.Rch (Adj c) (· ∈ l) s y) → Q (.ref r) H'
def spPartsOfS (C CB : Addr) : Sp := fun vs H Q _ => ∃ (p n : Addr) (c : Ch) (l : List Str), vs = [.ref p, .ref n] ∧ ChAt C CB H p c ∧ c.Ok ∧ H n = some (.lst (l.map V.str)) ∧ l.Nodup ∧ (∀ x ∈ l, x ∈ c.names) ∧
  ∀ (r : Addr) (H' : Hp) (L : List (List Str)) (us : List V), Same H H' → H r = none → H' r = some (.lst us) → StrsAll H' us L → Fr H us → M9.Parts (Adj c) (· ∈ l) L → (∀ x ∈ l, ∃ m ∈ L, x ∈ m) → (∀ m ∈ L, m.Nodup ∧ sortedS m = true) → L.length ≤ 60 → Q (.ref r) H'
def spClosedS (C CB : Addr) : Sp := fun vs H Q _ => ∃ (p a b : Addr) (s t : Int) (c : Ch) (f g : Str → Int), vs = [.ref p, .ref a, .ref b, .int s, .int t] ∧ ChAt C CB H p c ∧ c.Ok ∧ H a = some (.dK (byI c.names f)) ∧ H b = some (.dK (byI c.names g)) ∧
  ∀ (r : Addr) (H' : Hp) (L : List (List Str)) (us : List V), Same H H' → H r = none → H' r = some (.lst us) → StrsAll H' us L → Fr H us → (∀ m ∈ L, m.Nodup ∧ sortedS m = true) → Shut c f g s t L → Q (.ref r) H'
/-- the one that ranks first -/
def Wit (f : Str → Int) (m : List Str) (w : Str) : Prop := w ∈ m ∧ ∀ x ∈ m, ltR (f x, x) (f w, w) = false
theorem Wit.uniq {f : Str → Int} {m m' : List Str} {w w' : Str} (h : Wit f m w) (h' : Wit f m' w') (e : ∀ x, x ∈ m ↔ x ∈ m') : w = w' := by
  have h1 := h.2 w' ((e w').mpr h'.1)
  have h2 := h'.2 w ((e w).mp h.1)
  rcases ltR_tri (f w, w) (f w', w') with g | g | g
  · rw [g] at h2; cases h2
  · exact congrArg Prod.snd g
  · rw [g] at h1; cases h1
theorem minR_wit : ∀ (xs : List (Int × Str)) (x : Int × Str), ∀ y ∈ x :: xs, ltR y (PySem.W.minOf x xs) = false
  | [], x, y, hy => by
    rw [List.mem_singleton.mp hy]
    exact Bool.eq_false_iff.mpr (ltR_irrefl _)
  | z :: xs, x, y, hy => by
    have e : PySem.W.minOf x (z :: xs) = PySem.W.minOf (if ltR z x = true then z else x) xs := rfl
    have ih := minR_wit xs (if ltR z x = true then z else x)
    rw [e]
    have h0 := ih _ List.mem_cons_self
    by_cases h : ltR z x = true
    · rw [if_pos h] at ih h0 ⊢
      rcases List.mem_cons.mp hy with g | g
      · rw [g]
        refine Bool.eq_false_iff.mpr fun k => ?_
        exact absurd (ltR_trans h k) (Bool.eq_false_iff.mp h0)
      · exact ih y g
    · rw [if_neg h] at ih h0 ⊢
      rcases List.mem_cons.mp hy with g | g
      · rw [g]; exact h0
      · rcases List.mem_cons.mp g with g | g
        · rw [g]
          refine Bool.eq_false_iff.mpr fun k => ?_
          rcases ltR_tri x z with g2 | g2 | g2
          · exact absurd (ltR_trans g2 k) (Bool.eq_false_iff.mp h0)
          · rw [← g2] at k
            exact absurd k (Bool.eq_false_iff.mp h0)
          · exact h g2
        · exact ih y (List.mem_cons_of_mem _ g)
theorem wit_min {f : Str → Int} {x : Str} {xs : List Str} {z : Str} (h : (f z, z) = PySem.W.minOf (f x, x) (xs.map fun y => (f y, y))) : Wit f (x :: xs) z := by
  have h1 := (minR_spec (xs.map fun y => (f y, y)) (f x, x)).1
  have h2 := minR_wit (xs.map fun y => (f y, y)) (f x, x)
  rw [← h] at h1 h2
  have key : ∀ y : Str, (f y, y) ∈ (f x, x) :: (xs.map fun y => (f y, y)) ↔ y ∈ x :: xs := fun y => by
    constructor
    · intro g
      rcases List.mem_cons.mp g with g | g
      · exact List.mem_cons.mpr (.inl (congrArg Prod.snd g))
      · obtain ⟨u, hu, e⟩ := List.mem_map.mp g
        have e2 : u = y := congrArg Prod.snd e
        exact List.mem_cons_of_mem _ (by rw [← e2]; exact hu)
    · intro g
      rcases List.mem_cons.mp g with g | g
      · rw [g]; exact List.mem_cons_self
      · exact List.mem_cons_of_mem _ (List.mem_map.mpr ⟨y, g, rfl⟩)
  exact ⟨(key z).mp h1, fun y hy => h2 _ ((key y).mpr hy)⟩
/-- a region as a tuple of its witness and a new list of its names -/
def RegAt (H0 H : Hp) (v : V) (x : Str × List Str) : Prop := ∃ t m, v = V.ref t ∧ H t = some (.tup [.str x.1, .ref m]) ∧ H m = some (.lst (x.2.map V.str)) ∧ H0 m = none
theorem RegAt.keep {H0 H H' : Hp} {v : V} {x : Str × List Str} (s : Same H H') (h : RegAt H0 H v x) : RegAt H0 H' v x := by
  obtain ⟨t, m, e, h1, h2, h3⟩ := h
  exact ⟨t, m, e, s _ _ h1, s _ _ h2, h3⟩
def RegAll (H0 H : Hp) (us : List V) (xs : List (Str × List Str)) : Prop := us.length = xs.length ∧ ∀ (i : Nat) v x, us[i]? = some v → xs[i]? = some x → RegAt H0 H v x
theorem RegAll.keep {H0 H H' : Hp} {us : List V} {xs : List (Str × List Str)} (s : Same H H') (h : RegAll H0 H us xs) : RegAll H0 H' us xs := ⟨h.1, fun i v x e1 e2 => (h.2 i v x e1 e2).keep s⟩
theorem RegAll.hd {K : PySem.W.Frag} {H0 H : Hp} {us : List V} {xs : List (Str × List Str)} (h : RegAll H0 H us xs) : HdAll K H us xs := hdAll_of h.1 fun i v x e1 e2 => by
  obtain ⟨t, m, rfl, h1, h2, _⟩ := h.2 i v x e1 e2
  obtain ⟨a, b⟩ := x
  exact hd_pair (SqT.of h1) (.str _) (hd_list (SqL.of h2) (hd_strs _))
theorem RegAll.clash {H0 H : Hp} {vs : List V} {xs : List (Str × List Str)} {i : Nat} {v : V} {l : List Str} {a : Addr} (h : RegAll H0 H vs xs) (e : vs[i]? = some v) (e1 : H a = some (.lst (l.map V.str))) (e2 : H a = some (.lst vs)) : a = a → False := fun _ => by
  rw [e2] at e1
  have h44 := HO.lst.inj (Option.some.inj e1)
  have hi := get_lt e
  obtain ⟨x, hx⟩ : ∃ x, xs[i]? = some x := ⟨_, List.getElem?_eq_getElem (by rw [← h.1]; exact hi)⟩
  obtain ⟨t, m, rfl, _⟩ := h.2 i v x e hx
  rw [h44, List.getElem?_map] at e
  cases hl : l[i]? with
  | none => rw [hl] at e; cases e
  | some y => rw [hl] at e; cases e
theorem RegAll.nil {H0 H : Hp} : RegAll H0 H [] [] := ⟨rfl, fun i v x e => nomatch e⟩
theorem RegAll.app {H0 H : Hp} {us : List V} {xs : List (Str × List Str)} {v : V} {x : Str × List Str} (h : RegAll H0 H us xs) (k : RegAt H0 H v x) : RegAll H0 H (us ++ [v]) (xs ++ [x]) := by
  refine ⟨by rw [List.length_append, List.length_append, h.1]; rfl, fun i w y e1 e2 => ?_⟩
  rcases Nat.lt_or_ge i us.length with g | g
  · rw [List.getElem?_append_left g] at e1
    rw [List.getElem?_append_left (by rw [← h.1]; exact g)] at e2
    exact h.2 i w y e1 e2
  · rw [List.getElem?_append_right g] at e1
    rw [List.getElem?_append_right (by rw [← h.1]; exact g), ← h.1] at e2
    have h3 : i - us.length = 0 := by
      rcases Nat.eq_zero_or_pos (i - us.length) with h4 | h4
      · exact h4
      · rw [List.getElem?_eq_none (by show 1 ≤ _; omega)] at e1; cases e1
    rw [h3] at e1 e2
    cases e1
    cases e2
    exact k
def RegsOf (f : Str → Int) (L : List (List Str)) (xs : List (Str × List Str)) : Prop := xs.map Prod.snd = L ∧ ∀ p ∈ xs, Wit f p.2 p.1
abbrev sortP (xs : List (Str × List Str)) : List (Str × List Str) := xs.mergeSort (PySem.W.dataLe false PySem.W.Datum.toD)
def spSureRX (C CB : Addr) : Sp := fun vs H Q _ => ∃ (p : Addr) (s t : Int) (c : Ch), vs = [.ref p, .int s, .int t] ∧ ChAt C CB H p c ∧ c.Ok ∧ heightB s = true ∧ heightB t = true ∧ s ≤ t ∧
  ∀ (r : Addr) (H' : Hp) (L : List (List Str)) (xs : List (Str × List Str)) (us : List V), Same H H' → H r = none → H' r = some (.lst us) → RegAll H H' us (sortP xs) → RegsOf c.hi L xs → (∀ m ∈ L, m.Nodup ∧ sortedS m = true) → Shut c c.lo c.hi s t L → Q (.ref r) H'
/-! sorting -/
section
variable {X : Cx} {α : Type} [DecidableEq α]
theorem each_in2 {R : Value → α → Prop} {S : V → α → Prop} (h : ∀ v u x, RelV v u → S v x → R u x) : ∀ {vs : List V} {us : List Value} {xs : List α}, Vals vs us → vs.length = xs.length → (∀ (i : Nat) v x, vs[i]? = some v → xs[i]? = some x → S v x) → PySem.W.EachIs R us xs
  | [], _, [], .nil, _, _ => .nil
  | _ :: _, _, _ :: _, .cons r rs, hl, hd => .cons (h _ _ _ r (hd 0 _ _ rfl rfl)) (each_in2 h rs (by simpa using hl) fun i v x e1 e2 => hd (i + 1) v x e1 e2)
  | [], _, _ :: _, _, hl, _ => by simp at hl
  | _ :: _, _, [], _, hl, _ => by simp at hl
/-- sorted(xs), where each item keeps what is known of it -/
def rSortS (α : Type) [DecidableEq α] [PySem.W.DatumOrd α] (K : PySem.W.Frag) : List V → Hp → VK → Prop := fun ws H Q => ∃ (p : Addr) (vs : List V) (xs : List α) (S : V → α → Prop), ws = [.ref p] ∧ SqL K H p vs ∧ HdAll K H vs xs ∧ (∀ (i : Nat) v x, vs[i]? = some v → xs[i]? = some x → S v x) ∧ PySem.W.Sortable (xs.map PySem.W.Datum.toD) ∧
  ∀ (q : Addr) (us : List V), H q = none → us.length = xs.length → (∀ (i : Nat) v x, us[i]? = some v → (xs.mergeSort (PySem.W.dataLe false PySem.W.Datum.toD))[i]? = some x → S v x) → Q (.ref q) (upd H q (.lst us))
theorem cr_sortS [PySem.W.DatumOrd α] (hu : X.A.units + 2 + PySem.W.Datum.depth α < cLine) : CallR X (.builtin "sorted") (rSortS α X.K) := by
  intro pins s σ H ws us Q I r h
  obtain ⟨p, vs, xs, S, rfl, hl, ha, hS, hso, q⟩ := h
  rw [Vals.ref1 r]
  obtain ⟨its, rv, pl, hz⟩ := I.list hl
  have hlen : xs.length ≤ sizeLine := by
    rw [← ha.length]
    exact hz
  refine PySem.W.sorted_data (R := fun u x => ∃ v, RelV v u ∧ S v x) (enc := PySem.W.Datum.toD) pl.isList (each_in2 (S := S) (fun v u x rr hd => ⟨v, rr, hd⟩) rv ha.length hS) (each_in (fun v u x rr hd => Dp.reads I _ _ _ hd rr) rv ha) (fun d hd d' hd' => by
    obtain ⟨a, _, rfl⟩ := List.mem_map.mp hd
    obtain ⟨b, _, rfl⟩ := List.mem_map.mp hd'
    exact PySem.W.DatumOrd.alike a b) hso hlen (fun b _ => Nat.lt_of_le_of_lt (Nat.add_le_add_left (PySem.W.Datum.depth_le b) _) hu) fun out ho he => ?_
  obtain ⟨ws, rw', hwl, hws⟩ := each_out (S := fun v _ x => S v x) (fun u x h => by
    obtain ⟨v, h1, h2⟩ := h
    exact ⟨v, h2, h1⟩) he
  have hd : ∀ (i : Nat) v x, ws[i]? = some v → (xs.mergeSort (PySem.W.dataLe false PySem.W.Datum.toD))[i]? = some x → S v x := fun i v x e1 e2 => by
    obtain ⟨u, hu2, _⟩ := rw'.get e1
    exact hws i v u x e1 hu2 e2
  obtain ⟨ep, he'⟩ := PyProof.Rows.sortedAll_at s.heap its out.toArray
  have hln : ws.length ≤ sizeLine := by
    rw [hwl, List.length_mergeSort]
    exact hlen
  exact ⟨.ref _, upd H (s.heap.objs.size + 1) (.lst ws), I.laid (t' := s.toks) (fun _ _ => PyProof.Rows.sortedAll_old) (Nat.le_succ _) ⟨hln, out, ep, rw', he'⟩, rfl, q _ ws (I.hok.fresh (Nat.le_succ _)) (by rw [hwl, List.length_mergeSort]) hd⟩
end
theorem dataLe_false {α : Type} [DecidableEq α] [PySem.W.DatumOrd α] (p q : α) : PySem.W.dataLe false PySem.W.Datum.toD p q = !PySem.W.DatumOrd.lt q p := by
  rw [PySem.W.dataLe_eq]
  show (!PySem.W.dataLt (PySem.W.Datum.toD q) (PySem.W.Datum.toD p)) = _
  rw [PySem.W.DatumOrd.lt_eq]
theorem data_sorted {α : Type} [DecidableEq α] [PySem.W.DatumOrd α] (xs : List α) : (xs.mergeSort (PySem.W.dataLe false PySem.W.Datum.toD)).Pairwise fun a b => PySem.W.dataLe false PySem.W.Datum.toD a b = true := by
  refine List.pairwise_mergeSort (fun a b c h k => ?_) (fun a b => ?_) xs
  · rw [PySem.W.dataLe_eq] at *
    have h : (!PySem.W.dataLt (PySem.W.Datum.toD b) (PySem.W.Datum.toD a)) = true := h
    have k : (!PySem.W.dataLt (PySem.W.Datum.toD c) (PySem.W.Datum.toD b)) = true := k
    show (!PySem.W.dataLt (PySem.W.Datum.toD c) (PySem.W.Datum.toD a)) = true
    rw [Bool.not_eq_true'] at *
    refine Bool.eq_false_iff.mpr fun z => ?_
    rcases PyProof.Rows.lex_negTrans _ (PySem.W.keyToks (PySem.W.Datum.toD b)) _ z with g | g
    · exact absurd g (Bool.eq_false_iff.mp k)
    · exact absurd g (Bool.eq_false_iff.mp h)
  · rw [PySem.W.dataLe_eq]
    show (!PySem.W.dataLt (PySem.W.Datum.toD b) (PySem.W.Datum.toD a) || !PySem.W.dataLt (PySem.W.Datum.toD a) (PySem.W.Datum.toD b)) = true
    cases hx : PySem.W.dataLt (PySem.W.Datum.toD b) (PySem.W.Datum.toD a) with
    | false => rfl
    | true =>
      cases hy : PySem.W.dataLt (PySem.W.Datum.toD a) (PySem.W.Datum.toD b) with
      | false => rfl
      | true =>
        have h1 := PyProof.Rows.lex_trans _ _ _ hx hy
        rw [PyProof.Rows.lex_irrefl] at h1
        cases h1
theorem str_tri {a b : Str} (h1 : ¬ a.cps.toList < b.cps.toList) (h2 : ¬ b.cps.toList < a.cps.toList) : a = b := by
  rcases ltR_tri (0, a) (0, b) with g | g | g
  · rcases ltR_iff.mp g with g | g
    · exact absurd g (Int.lt_irrefl _)
    · exact absurd g.2 h1
  · exact congrArg Prod.snd g
  · rcases ltR_iff.mp g with g | g
    · exact absurd g (Int.lt_irrefl _)
    · exact absurd g.2 h2
/-- the same regions in any order are sorted alike -/
theorem sortP_uniq {xs ys : List (Str × List Str)} (hp : xs.Perm ys) (hu : ∀ p ∈ xs, ∀ q ∈ xs, p.1 = q.1 → p = q) : sortP xs = sortP ys := by
  have h1 := List.mergeSort_perm xs (PySem.W.dataLe false PySem.W.Datum.toD)
  have h2 := List.mergeSort_perm ys (PySem.W.dataLe false PySem.W.Datum.toD)
  refine List.Perm.eq_of_pairwise (le := fun a b => PySem.W.dataLe false PySem.W.Datum.toD a b = true) (fun a b ha hb l1 l2 => ?_) (data_sorted xs) (data_sorted ys) ((h1.trans hp).trans h2.symm)
  have ha : a ∈ xs := h1.mem_iff.mp ha
  have hb : b ∈ xs := hp.mem_iff.mpr (h2.mem_iff.mp hb)
  refine hu a ha b hb ?_
  rw [dataLe_false, Bool.not_eq_true'] at l1 l2
  by_cases e : a.1 = b.1
  · exact e
  have l1 : (if b.1 = a.1 then PySem.W.DatumOrd.lt b.2 a.2 else decide (b.1.cps.toList < a.1.cps.toList)) = false := l1
  have l2 : (if a.1 = b.1 then PySem.W.DatumOrd.lt a.2 b.2 else decide (a.1.cps.toList < b.1.cps.toList)) = false := l2
  rw [if_neg (fun z => e z.symm)] at l1
  rw [if_neg e] at l2
  exact str_tri (of_decide_eq_false l2) (of_decide_eq_false l1)
theorem rising_pw : ∀ (l : List Str) (p : Str), risingS p l = true → (p :: l).Pairwise fun a b => ¬ b.cps.toList < a.cps.toList
  | [], p, _ => List.pairwise_singleton _ _
  | x :: r, p, h => by
    have h : (!ltCps x.cps.toList p.cps.toList && risingS x r) = true := h
    rw [Bool.and_eq_true, Bool.not_eq_true', ltCps_eq] at h
    have ih := rising_pw r x h.2
    have h1 := of_decide_eq_false h.1
    refine List.pairwise_cons.mpr ⟨fun y hy => ?_, ih⟩
    rcases List.mem_cons.mp hy with g | g
    · rw [g]; exact h1
    · have h2 := (List.pairwise_cons.mp ih).1 y g
      exact List.not_lt.mpr (List.le_trans (List.not_lt.mp h1) (List.not_lt.mp h2))
theorem sortedS_uniq {xs ys : List Str} (h : sortedS xs = true) (k : sortedS ys = true) (hp : xs.Perm ys) : xs = ys := by
  have pw : ∀ l : List Str, sortedS l = true → l.Pairwise fun a b => ¬ b.cps.toList < a.cps.toList
    | [], _ => .nil
    | x :: r, h => rising_pw r x h
  exact List.Perm.eq_of_pairwise (fun a b _ _ l1 l2 => str_tri l2 l1) (pw xs h) (pw ys k) hp
def spShutIS : Sp := fun vs H Q _ => ∃ (r w bi dr : Addr) (us : List V) (N : List (List Int)) (ws bs ds : List Int) (s t : Int), vs = [.ref r, .ref w, .ref bi, .ref dr, .int s, .int t] ∧ Web2 H r w us N ws ∧ H bi = some (.lst (bs.map V.int)) ∧ bs.length = ws.length ∧ H dr = some (.lst (ds.map V.int)) ∧
  ∀ (p : Addr) (H' : Hp) (vs : List V) (L : List (List Int)), Same H H' → H p = none → H' p = some (.lst vs) → IntsAll H' vs L → (∀ m ∈ L, m.length ≤ 60 ∧ m.Nodup) → L.length ≤ 60 → ShutI N ws bs ds s t L → Q (.ref p) H'
def spPartsIS : Sp := fun vs H Q _ => ∃ (r w : Addr) (us : List V) (N : List (List Int)) (ws : List Int) (t : Int), vs = [.ref r, .ref w, .int t] ∧ Web2 H r w us N ws ∧
  ∀ (p : Addr) (H' : Hp) (vs : List V) (L : List (List Int)), Same H H' → H p = none → H' p = some (.lst vs) → IntsAll H' vs L → M9.Parts (AdjI N) (LowI ws t) L → (∀ x, LowI ws t x → ∃ m ∈ L, x ∈ m) → (∀ m ∈ L, m.length ≤ 60 ∧ m.Nodup) → L.length ≤ 60 → Q (.ref p) H'
/-- what the law finds at two levels -/
def DueOf (W : Wb) (M : List (List Int)) (ys : List (Str × List Str)) : Prop := ys.length = M.length ∧ ∀ (i : Nat) m p, M[i]? = some m → ys[i]? = some p → p.2.Perm (m.map W.at) ∧ sortedS p.2 = true ∧ Wit W.hiF p.2 p.1
def spDue : Sp := fun vs H Q _ => ∃ (w r b : Addr) (W : Wb) (c : Ch) (us : List V) (N : List (List Int)) (s t : Int) (m : Nat), vs = [.ref w, .ref r, .int s, .int t] ∧ WbAt H w W b ∧ W.Ok m ∧ m ≤ 9 ∧ H r = some (.lst us) ∧ IntsAll H us N ∧ NearOf W.lab.length W.prs N ∧ OfWeb W c ∧
  ∀ (p : Addr) (H' : Hp) (M : List (List Int)) (ys : List (Str × List Str)) (vs : List V), Same H H' → H p = none → H' p = some (.lst vs) → RegAll H H' vs (sortP ys) → DueOf W M ys → (∀ m ∈ M, m.Nodup) → M.length ≤ 60 → ShutI N W.lo W.hi W.dr s t M → Q (.ref p) H'
end L9

/-! the calm land's hollows have the births and deaths of the sure ones -/
namespace L9
open PySem PySem.Spec PyProof.Rows L2
/-- a hollow, over floods by f and ranks by g, born by s, that lives beyond t -/
def Aliv (c : Ch) (f g : Str → Int) (s t : Int) (x : Str) : Prop := x ∈ c.names ∧ g x ≤ s ∧ ∀ y, M9.Rch (Adj c) (Lv c f t) x y → y ∉ c.outs ∧ ¬ ltR (g y, y) (g x, x) = true
def livP (s t : Int) (p : Int × Option Int) : Bool := decide (p.1 ≤ s) && (match p.2 with | none => true | some e => decide (t < e))
abbrev keyD (z : Str × Int × Option Int) : Int × Option Int := (z.2.1, z.2.2)
theorem aliv_deep {c : Ch} {f g : Str → Int} {s t : Int} {x : Str} : Aliv c f g s t x ↔ g x ≤ s ∧ Deep c f g (t - g x) x := by
  unfold Aliv Deep
  rw [show g x + (t - g x) = t by omega]
  exact ⟨fun ⟨a, b, d⟩ => ⟨b, a, d⟩, fun ⟨b, a, d⟩ => ⟨a, b, d⟩⟩
theorem livP_iff {c : Ch} {f g : Str → Int} {hs : List (Str × Int × Option Int)} {s t : Int} (ok : c.Ok) (h : Hollows c f g hs) {z : Str × Int × Option Int} (hz : z ∈ hs) : livP s t (keyD z) = true ↔ Aliv c f g s t z.1 := by
  obtain ⟨x, b, o⟩ := z
  have hr := (h.all x).mp ⟨_, hz, rfl⟩
  have hb : b = g x := h.birth _ hz
  have he : EndOf c f g x o := h.death _ hz
  show livP s t (b, o) = true ↔ Aliv c f g s t x
  rw [aliv_deep, deep_end ok hr.1 he, hb]
  unfold livP
  rw [Bool.and_eq_true, decide_eq_true_eq]
  constructor
  · rintro ⟨h1, h2⟩
    refine ⟨h1, fun e he => ?_⟩
    subst he
    have : t < e := of_decide_eq_true h2
    omega
  · rintro ⟨h1, h2⟩
    refine ⟨h1, ?_⟩
    cases o with
    | none => rfl
    | some e =>
      have := h2 e rfl
      exact decide_eq_true (by omega)
theorem aliv_root {c : Ch} {f g : Str → Int} {s t : Int} {x : Str} (ok : c.Ok) (hst : s ≤ t) (h : Aliv c f g s t x) : Root c f g x := ⟨h.1, fun y hy => h.2.2 y (((fl_rch ok h.1).mp hy).mono (Lv.mono (by have := h.2.1; omega)))⟩
theorem aliv_le {c : Ch} {f g f2 g2 : Str → Int} {hs hl : List (Str × Int × Option Int)} {s t : Int} (ok : c.Ok) (hst : s ≤ t) (hS : Hollows c f g hs) (hL : Hollows c f2 g2 hl) (R : Str → Str → Prop)
    (has : ∀ a, Aliv c f g s t a → ∃ b, Aliv c f2 g2 s t b ∧ R a b) (apart : ∀ a a' b, Aliv c f g s t a → Aliv c f g s t a' → R a b → R a' b → a = a') : (hs.map keyD).countP (livP s t) ≤ (hl.map keyD).countP (livP s t) := by
  rw [List.countP_eq_length_filter, List.countP_eq_length_filter, List.filter_map, List.filter_map, List.length_map, List.length_map]
  have h1 : ((hs.filter (livP s t ∘ keyD)).map (·.1)).length ≤ ((hl.filter (livP s t ∘ keyD)).map (·.1)).length := by
    refine M9.count_le (D := fun a b => a ≠ b) (R := fun a b => Aliv c f g s t a ∧ R a b) ?_ _ _ (hS.nd.sublist (List.filter_sublist.map _)) fun a ha => ?_
    · rintro a a' b ⟨h1, h2⟩ ⟨h3, h4⟩ hn
      exact hn (apart a a' b h1 h3 h2 h4)
    · obtain ⟨p, hp, rfl⟩ := List.mem_map.mp ha
      obtain ⟨hp, hpd⟩ := List.mem_filter.mp hp
      have hA := (livP_iff ok hS hp).mp hpd
      obtain ⟨b, hb, hR⟩ := has _ hA
      obtain ⟨q, hq, rfl⟩ := (hL.all b).mpr (aliv_root ok hst hb)
      exact ⟨q.1, List.mem_map.mpr ⟨q, List.mem_filter.mpr ⟨hq, (livP_iff ok hL hq).mpr hb⟩, rfl⟩, hA, hR⟩
  rwa [List.length_map, List.length_map] at h1
section
variable {c : Ch} {h : Str → Int} {s t : Int}
theorem aliv_apart {f g : Str → Int} (ok : c.Ok) {a a' b : Str} (ha : Aliv c f g s t a) (ha' : Aliv c f g s t a') (h1 : M9.Rch (Adj c) (Lv c f t) a b) (h2 : M9.Rch (Adj c) (Lv c f t) a' b) : a = a' := by
  have sy := Adj.sy ok
  rcases ltR_tri (g a, a) (g a', a') with k | k | k
  · exact absurd k (ha'.2.2 a (h2.trans (h1.symm sy))).2
  · exact congrArg Prod.snd k
  · exact absurd k (ha.2.2 a' (h1.trans (h2.symm sy))).2
theorem aliv_has {f g : Str → Int} (ok : c.Ok) {x u : Str} (hst : s ≤ t) (hu : M9.Rch (Adj c) (Lv c f t) x u) (hus : g u ≤ s) (dry : ∀ y, M9.Rch (Adj c) (Lv c f t) x y → y ∉ c.outs) : ∃ b, Aliv c f g s t b ∧ M9.Rch (Adj c) (Lv c f t) x b := by
  obtain ⟨b, hb, hp, hm⟩ := least_R (fun y => M9.Rch (Adj c) (Lv c f t) x y) g c.names ⟨u, hu.last.1, hu⟩
  refine ⟨b, ⟨hb, ?_, fun y hy => ⟨dry y (hp.trans hy), hm y hy.last.1 (hp.trans hy)⟩⟩, hp⟩
  rcases Int.lt_or_le (g u) (g b) with k | k
  · exact absurd (ltR_iff.mpr (.inl k)) (hm u hu.last.1 hu)
  · omega
/-- the calm land's hollows, counted at two levels -/
theorem calm_alive {hs hl : List (Str × Int × Option Int)} (ok : c.Ok) (hC : CalmOf c h) (hst : s ≤ t) (hS : Hollows c c.lo c.hi hs) (hL : Hollows c h h hl) : (hs.map keyD).countP (livP s t) = (hl.map keyD).countP (livP s t) := by
  obtain ⟨sl, sv, S, hh⟩ := hC
  have sy := Adj.sy ok
  have hin := calm_in ok S hh
  have toLo : ∀ {x y : Str}, M9.Rch (Adj c) (Lv c h t) x y → M9.Rch (Adj c) (Lv c c.lo t) x y := fun k => k.mono fun a ha => ⟨ha.1, Int.le_trans (hin a ha.1).1 ha.2⟩
  have toH : ∀ {x y : Str}, x ∈ c.names → h x ≤ t → M9.Rch (Adj c) (Lv c c.lo t) x y → M9.Rch (Adj c) (Lv c h t) x y := fun {x y} hx hxt k => by
    induction k with
    | refl _ => exact .refl ⟨hx, hxt⟩
    | step k a hz ih => exact .step ih a ⟨hz.1, calm_part ok S hh hx hxt (.step k a hz)⟩
  refine Nat.le_antisymm ?_ ?_
  · refine aliv_le ok hst hS hL (fun a b => M9.Rch (Adj c) (Lv c c.lo t) a b) (fun a ha => ?_) fun a a' b ha ha' h1 h2 => aliv_apart ok ha ha' h1 h2
    have h1 := (hin a ha.1).2
    have h2 := ha.2.1
    obtain ⟨b, hb, hr⟩ := aliv_has (g := h) (f := h) ok hst (.refl ⟨ha.1, by omega⟩) (by omega) fun y hy => (ha.2.2 y (toLo hy)).1
    exact ⟨b, hb, toLo hr⟩
  · refine aliv_le ok hst hL hS (fun b a => M9.Rch (Adj c) (Lv c c.lo t) b a) (fun b hb => ?_) fun b b' a hb hb' h1 h2 => ?_
    · obtain ⟨hbn, hbs, hbd⟩ := hb
      have hbt : h b ≤ t := by omega
      obtain ⟨z, hz, hzs, hzx⟩ := (fl_starts ok S).mp ((hh b hbn s).mp hbs)
      have hxz : M9.Rch (Adj c) (Lv c c.lo t) b z := (hzx.symm sy).mono fun a ha => ha.mono hst a
      have hro : Root c c.lo c.hi z := by
        rcases (S.mem z).mp hz with ho | ho
        · exact absurd ho (hbd z (toH hbn hbt hxz)).1
        · exact ho
      rw [S.root z hro] at hzs
      obtain ⟨a, ha, hr⟩ := aliv_has (g := c.hi) (f := c.lo) ok hst hxz hzs fun y hy => (hbd y (toH hbn hbt hy)).1
      exact ⟨a, ha, hr⟩
    · have t1 : h b ≤ t := by have := hb.2.1; omega
      have t2 : h b' ≤ t := by have := hb'.2.1; omega
      exact aliv_apart ok hb hb' (.refl ⟨hb.1, t1⟩) (toH hb'.1 t2 (h2.trans (h1.symm sy)))
end
/-! ### the same counts: the same births and deaths -/
theorem cnt_some (b e : Int) : ∀ l : List (Int × Option Int), l.count (b, some e) + l.countP (livP (b - 1) (e - 1)) + l.countP (livP b e) = l.countP (livP b (e - 1)) + l.countP (livP (b - 1) e)
  | [] => rfl
  | (x, o) :: l => by
    have ih := cnt_some b e l
    rw [List.count_cons, List.countP_cons, List.countP_cons, List.countP_cons, List.countP_cons]
    have key : (if ((x, o) == (b, some e)) = true then 1 else 0) + (if livP (b - 1) (e - 1) (x, o) = true then 1 else 0) + (if livP b e (x, o) = true then 1 else 0) = (if livP b (e - 1) (x, o) = true then 1 else 0) + (if livP (b - 1) e (x, o) = true then 1 else 0) := by
      cases o with
      | none => simp [livP]; omega
      | some v =>
        simp only [livP, beq_iff_eq, Prod.mk.injEq, Option.some.injEq, Bool.and_eq_true, decide_eq_true_eq]
        split <;> split <;> split <;> split <;> split <;> omega
    omega
theorem cnt_none (b t : Int) : ∀ l : List (Int × Option Int), (∀ p ∈ l, ∀ e, p.2 = some e → e ≤ t) → l.count (b, none) + l.countP (livP (b - 1) t) = l.countP (livP b t)
  | [], _ => rfl
  | (x, o) :: l, h => by
    have ih := cnt_none b t l fun p hp => h p (List.mem_cons_of_mem _ hp)
    rw [List.count_cons, List.countP_cons, List.countP_cons]
    have key : (if ((x, o) == (b, none)) = true then 1 else 0) + (if livP (b - 1) t (x, o) = true then 1 else 0) = (if livP b t (x, o) = true then 1 else 0) := by
      cases o with
      | none =>
        simp only [livP, beq_iff_eq, Prod.mk.injEq, Bool.and_eq_true, decide_eq_true_eq]
        split <;> split <;> split <;> simp_all <;> omega
      | some v =>
        have := h _ (List.mem_cons_self) v rfl
        simp only [livP, beq_iff_eq, Prod.mk.injEq, Bool.and_eq_true, decide_eq_true_eq]
        split <;> split <;> split <;> simp_all <;> omega
    omega
theorem perm_counts {A B : List (Int × Option Int)} (hA : ∀ p ∈ A, ∀ e, p.2 = some e → p.1 < e) (hB : ∀ p ∈ B, ∀ e, p.2 = some e → p.1 < e) (hc : ∀ s t : Int, s ≤ t → A.countP (livP s t) = B.countP (livP s t)) : A.Perm B := by
  rw [List.perm_iff_count]
  rintro ⟨b, o⟩
  cases o with
  | some e =>
    by_cases hbe : b < e
    · have h1 := cnt_some b e A
      have h2 := cnt_some b e B
      rw [hc _ _ (by omega), hc _ _ (by omega), hc _ _ (by omega), hc (b - 1) e (by omega)] at h1
      omega
    · rw [List.count_eq_zero.mpr fun h => hbe (hA _ h e rfl), List.count_eq_zero.mpr fun h => hbe (hB _ h e rfl)]
  | none =>
    obtain ⟨t, ht⟩ : ∃ t : Int, b ≤ t ∧ (∀ p ∈ A, ∀ e, p.2 = some e → e ≤ t) ∧ ∀ p ∈ B, ∀ e, p.2 = some e → e ≤ t := by
      have bnd : ∀ l : List (Int × Option Int), ∃ t : Int, ∀ p ∈ l, ∀ e, p.2 = some e → e ≤ t := fun l => by
        induction l with
        | nil => exact ⟨0, fun _ h => nomatch h⟩
        | cons q l ih =>
          obtain ⟨t, ht⟩ := ih
          refine ⟨max t (q.2.getD 0), fun p hp e he => ?_⟩
          rcases List.mem_cons.mp hp with h | h
          · rw [h] at he
            rw [he]
            exact Int.le_max_right _ _
          · exact Int.le_trans (ht p h e he) (Int.le_max_left _ _)
      obtain ⟨t1, h1⟩ := bnd A
      obtain ⟨t2, h2⟩ := bnd B
      exact ⟨max b (max t1 t2), Int.le_max_left _ _, fun p hp e he => Int.le_trans (h1 p hp e he) (Int.le_trans (Int.le_max_left _ _) (Int.le_max_right _ _)), fun p hp e he => Int.le_trans (h2 p hp e he) (Int.le_trans (Int.le_max_right _ _) (Int.le_max_right _ _))⟩
    obtain ⟨hbt, hA2, hB2⟩ := ht
    have h1 := cnt_none b t A hA2
    have h2 := cnt_none b t B hB2
    rw [hc _ _ (by omega), hc _ _ hbt] at h1
    omega
/-- births and deaths of the calm land's hollows: those of the sure ones -/
theorem calm_perm {c : Ch} {h : Str → Int} {hs hl : List (Str × Int × Option Int)} (ok : c.Ok) (hC : CalmOf c h) (hS : Hollows c c.lo c.hi hs) (hL : Hollows c h h hl) : (hl.map keyD).Perm (hs.map keyD) := by
  have val : ∀ {f g : Str → Int} {l : List (Str × Int × Option Int)}, Hollows c f g l → ∀ p ∈ l.map keyD, ∀ e, p.2 = some e → p.1 < e := fun {f g l} hl p hp e he => by
    obtain ⟨z, hz, rfl⟩ := List.mem_map.mp hp
    obtain ⟨x, b, o⟩ := z
    have he : o = some e := he
    have hr := (hl.all x).mp ⟨_, hz, rfl⟩
    have hb : b = g x := hl.birth _ hz
    have hE : EndOf c f g x o := hl.death _ hz
    show b < e
    rw [hb]
    have h1 : Deep c f g 0 x := ⟨hr.1, fun y hy => hr.2 y ((fl_rch ok hr.1).mpr (by rw [Int.add_zero] at hy; exact hy))⟩
    have := (deep_end ok hr.1 hE).mp h1 e he
    omega
  exact perm_counts (val hL) (val hS) fun s t hst => (calm_alive ok hC hst hS hL).symm
/-- triples (birth, whether it has no end, the end or 0), sorted -/
abbrev spanT (p : Int × Option Int) : PySem.W.T3 Int Bool Int := ⟨p.1, p.2.isNone, p.2.getD 0⟩
theorem t3_anti (a b : PySem.W.T3 Int Bool Int) (l1 : PySem.W.DatumOrd.lt b a = false) (l2 : PySem.W.DatumOrd.lt a b = false) : a = b := by
  obtain ⟨a1, a2, a3⟩ := a
  obtain ⟨b1, b2, b3⟩ := b
  have l1 : (if b1 = a1 then (if b2 = a2 then decide (b3 < a3) else (!b2 && a2)) else decide (b1 < a1)) = false := l1
  have l2 : (if a1 = b1 then (if a2 = b2 then decide (a3 < b3) else (!a2 && b2)) else decide (a1 < b1)) = false := l2
  by_cases e : a1 = b1
  · subst e
    rw [if_pos rfl] at l1 l2
    by_cases e2 : a2 = b2
    · subst e2
      rw [if_pos rfl] at l1 l2
      have h1 := of_decide_eq_false l1
      have h2 := of_decide_eq_false l2
      have : a3 = b3 := by omega
      rw [this]
    · cases a2 <;> cases b2 <;> simp_all
  · rw [if_neg (fun z => e z.symm)] at l1
    rw [if_neg e] at l2
    have h1 := of_decide_eq_false l1
    have h2 := of_decide_eq_false l2
    omega
theorem t3_sorted {xs ys : List (PySem.W.T3 Int Bool Int)} (hp : xs.Perm ys) : xs.mergeSort (PySem.W.dataLe false PySem.W.Datum.toD) = ys.mergeSort (PySem.W.dataLe false PySem.W.Datum.toD) := by
  have h1 := List.mergeSort_perm xs (PySem.W.dataLe false PySem.W.Datum.toD)
  have h2 := List.mergeSort_perm ys (PySem.W.dataLe false PySem.W.Datum.toD)
  refine List.Perm.eq_of_pairwise (le := fun a b => PySem.W.dataLe false PySem.W.Datum.toD a b = true) (fun a b _ _ l1 l2 => ?_) (data_sorted xs) (data_sorted ys) ((h1.trans hp).trans h2.symm)
  rw [dataLe_false, Bool.not_eq_true'] at l1 l2
  exact t3_anti a b l1 l2
end L9

/-! what tells the sure hollows, the depths and the sure count for good -/
namespace L9
open PySem PySem.Spec PyProof.Rows L2
theorem nodup_un37 {α β : Type} (f : α → β) : ∀ {l : List α}, (l.map f).Nodup → l.Nodup
  | [], _ => .nil
  | a :: l, h => by
    rw [List.map_cons, List.nodup_cons] at h
    exact List.nodup_cons.mpr ⟨fun hm => h.1 (List.mem_map.mpr ⟨a, hm, rfl⟩), nodup_un37 f h.2⟩
theorem end_uniq {c : Ch} {f g : Str → Int} {x : Str} {o u : Option Int} (h : EndOf c f g x o) (k : EndOf c f g x u) : o = u := by
  have key : ∀ t : Int, (∃ d, o = some d ∧ d ≤ t) ↔ ∃ d, u = some d ∧ d ≤ t := fun t => (h t).trans (k t).symm
  cases o with
  | none =>
    cases u with
    | none => rfl
    | some e =>
      obtain ⟨d, e1, _⟩ := (key e).mpr ⟨e, rfl, Int.le_refl _⟩
      cases e1
  | some a =>
    obtain ⟨d, e1, h1⟩ := (key a).mp ⟨a, rfl, Int.le_refl _⟩
    subst e1
    obtain ⟨d2, e2, h2⟩ := (key d).mpr ⟨d, rfl, Int.le_refl _⟩
    cases e2
    rw [show a = d by omega]
theorem hol_mem {c : Ch} {f g : Str → Int} {hs hl : List (Str × Int × Option Int)} (h : Hollows c f g hs) (k : Hollows c f g hl) {z : Str × Int × Option Int} (hz : z ∈ hs) : z ∈ hl := by
  obtain ⟨y, hy, e⟩ := (k.all z.1).mpr ((h.all z.1).mp ⟨z, hz, rfl⟩)
  have h1 := h.birth z hz
  have h2 := k.birth y hy
  have h3 := h.death z hz
  have h4 := k.death y hy
  obtain ⟨x, b, o⟩ := z
  obtain ⟨x2, b2, o2⟩ := y
  have e : x2 = x := e
  subst e
  have h1 : b = g x2 := h1
  have h2 : b2 = g x2 := h2
  have h5 := end_uniq (o := o) (u := o2) h3 h4
  subst h5
  rw [h1, ← h2]
  exact hy
theorem hol_uniq {c : Ch} {f g : Str → Int} {hs hl : List (Str × Int × Option Int)} (h : Hollows c f g hs) (k : Hollows c f g hl) : hs = hl := by
  have n1 : hs.Nodup := nodup_un37 _ h.nd
  have n2 : hl.Nodup := nodup_un37 _ k.nd
  have hp : hs.Perm hl := (List.perm_ext_iff_of_nodup n1 n2).mpr fun z => ⟨fun hz => hol_mem h k hz, fun hz => hol_mem k h hz⟩
  refine List.Perm.eq_of_pairwise (fun a b _ _ l1 l2 => ?_) h.srt k.srt hp
  exact absurd (ltR_trans l1 l2) (ltR_irrefl _)
theorem desc_uniq {xs ys : List (Option Int)} (hp : xs.Perm ys) (hx : Desc xs) (hy : Desc ys) : xs = ys := by
  refine List.Perm.eq_of_pairwise (le := fun a b => ∀ d, Dp d b = true → Dp d a = true) (fun a b _ _ l1 l2 => ?_) hx hy hp
  cases a with
  | none =>
    cases b with
    | none => rfl
    | some e =>
      have h1 : decide (e < e) = true := l2 e rfl
      have := of_decide_eq_true h1
      omega
  | some a =>
    cases b with
    | none =>
      have h1 : decide (a < a) = true := l1 a rfl
      have := of_decide_eq_true h1
      omega
    | some b =>
      have h1 : ¬ a < b := fun h => by
        have := of_decide_eq_true (show decide (a < a) = true from l1 a (decide_eq_true h))
        omega
      have h2 : ¬ b < a := fun h => by
        have := of_decide_eq_true (show decide (b < b) = true from l2 b (decide_eq_true h))
        omega
      rw [show a = b by omega]
/-- the sure count: the hollows born by s that live beyond t -/
theorem shut_alive {c : Ch} {hs : List (Str × Int × Option Int)} {L : List (List Str)} {s t : Int} (ok : c.Ok) (hst : s ≤ t) (hS : Hollows c c.lo c.hi hs) (hL : Shut c c.lo c.hi s t L) : L.length = (hs.map keyD).countP (livP s t) := by
  have sy := Adj.sy ok
  rw [List.countP_eq_length_filter, List.filter_map, List.length_map]
  have e : ((hs.filter (livP s t ∘ keyD)).map (·.1)).length = (hs.filter (livP s t ∘ keyD)).length := List.length_map _
  rw [← e]
  have at_ : ∀ x, x ∈ (hs.filter (livP s t ∘ keyD)).map (·.1) ↔ Aliv c c.lo c.hi s t x := fun x => by
    constructor
    · intro hx
      obtain ⟨p, hp, rfl⟩ := List.mem_map.mp hx
      obtain ⟨hp, hpd⟩ := List.mem_filter.mp hp
      exact (livP_iff ok hS hp).mp hpd
    · intro ha
      obtain ⟨q, hq, rfl⟩ := (hS.all x).mpr (aliv_root ok hst ha)
      exact List.mem_map.mpr ⟨q, List.mem_filter.mpr ⟨hq, (livP_iff ok hS hq).mpr ha⟩, rfl⟩
  refine Nat.le_antisymm ?_ ?_
  · refine M9.count_le (D := fun a b => ∀ y ∈ a, y ∉ b) (R := fun m x => Aliv c c.lo c.hi s t x ∧ x ∈ m) ?_ L _ hL.parts.apart fun m hm => ?_
    · rintro m m' x ⟨_, h1⟩ ⟨_, h2⟩ hd
      exact hd x h1 h2
    · obtain ⟨u, hu, hus⟩ := hL.low m hm
      obtain ⟨hu0, hmr⟩ := hL.parts.at sy hm hu
      obtain ⟨b, hb, hr⟩ := aliv_has (g := c.hi) (f := c.lo) ok hst (.refl hu0) hus fun y hy ho => hL.dry m hm y ((hmr y).mpr hy) ho
      exact ⟨b, (at_ b).mpr hb, hb, (hmr b).mpr hr⟩
  · refine M9.count_le (D := fun a b => a ≠ b) (R := fun x m => Aliv c c.lo c.hi s t x ∧ x ∈ m ∧ m ∈ L) ?_ _ L (hS.nd.sublist (List.filter_sublist.map _)) fun x hx => ?_
    · rintro x x' m ⟨h1, h2, h3⟩ ⟨h4, h5, _⟩ hn
      exact hn (aliv_apart ok h1 h4 (((hL.parts.at sy h3 h2).2 _).mp h2) (((hL.parts.at sy h3 h5).2 _).mp h2))
    · have ha := (at_ x).mp hx
      have hlo := lo_hi ok x ha.1
      have h0 : Lv c c.lo t x := ⟨ha.1, by have := ha.2.1; omega⟩
      obtain ⟨m, hm, hxm⟩ := hL.all x h0.1 h0.2 (fun y hy => (ha.2.2 y hy).1) ⟨x, .refl h0, ha.2.1⟩
      exact ⟨m, hm, ha, hxm, hm⟩
end L9

/-! lands with their chart, ties told, bounds changed, the calm land by its rule -/
namespace L9
open PySem PySem.Spec PyProof.Rows L2
def LdAtC (CL C CB : Addr) (H : Hp) (p cp : Addr) (c : Ch) (h : Str → Int) : Prop := ∃ dx hp, H p = some (.ins CL dx (ldf cp hp)) ∧ ChAt C CB H cp c ∧ H hp = some (.dK (byI c.names h))
theorem LdAtC.ld {CL C CB : Addr} {H : Hp} {p cp : Addr} {c : Ch} {h : Str → Int} (k : LdAtC CL C CB H p cp c h) : LdAt CL C CB H p c h := by
  obtain ⟨dx, hp, a, b, d⟩ := k
  exact ⟨dx, cp, hp, a, b, d⟩
theorem LdAtC.mono {CL C CB : Addr} {H H' : Hp} {p cp : Addr} {c : Ch} {h : Str → Int} (s : Same H H') (k : LdAtC CL C CB H p cp c h) : LdAtC CL C CB H' p cp c h := by
  obtain ⟨dx, hp, a, b, d⟩ := k
  exact ⟨dx, hp, s _ _ a, b.mono s, s _ _ d⟩
def spLdInitC (CL C CB : Addr) : Sp := fun vs H Q _ => ∃ (y dx p d : Addr) (c : Ch) (l : List Str) (h : Str → Int), vs = [.ref y, .ref p, .ref d] ∧ H y = some (.ins CL dx []) ∧ ChAt C CB H p c ∧ c.Ok ∧ H d = some (.dK (byI l h)) ∧ l.Nodup ∧ (∀ x, x ∈ l ↔ x ∈ c.names) ∧ (∀ x ∈ c.names, c.lo x ≤ h x ∧ h x ≤ c.hi x) ∧
  ∀ H', But y H H' → LdAtC CL C CB H' y p c h → Q .non H'
def spCalmC (CL C CB : Addr) : Sp := fun vs H Q _ => ∃ (p : Addr) (c : Ch), vs = [.ref p] ∧ ChAt C CB H p c ∧ c.Ok ∧
  ∀ (r : Addr) (H' : Hp) (h : Str → Int), Same H H' → H r = none → LdAtC CL C CB H' r p c h → CalmOf c h → (∀ x ∈ c.names, c.lo x ≤ h x ∧ h x ≤ c.hi x) → Q (.ref r) H'
def spRootsE (C CB : Addr) : Sp := fun vs H Q _ => ∃ (p : Addr) (c : Ch), vs = [.ref p] ∧ ChAt C CB H p c ∧ c.Ok ∧
  ∀ (r : Addr) (H' : Hp) (hs : List (Str × Int × Option Int)), Same H H' → H r = none → H' r = some (.lst ((hs.map (·.1)).map V.str)) → Hollows c c.lo c.hi hs → Q (.ref r) H'
def spLaidS (C CB : Addr) : Sp := fun vs H Q _ => ∃ (b w : Addr) (W : Wb) (n m : Nat), vs = [.ref b, .ref w] ∧ BoxAt H b n ∧ WbAt H w W b ∧ W.Ok m ∧ m ≤ 9 ∧ n ≤ 800000 ∧
  ∀ (p : Addr) (H' : Hp) (c : Ch), Drw H H' b (n + 40) → H p = none → ChAt C CB H' p c → OfWeb W c → sortedS c.names = true → Q (.ref p) H'
def spLdHs (CL C CB : Addr) : Sp := fun vs H Q _ => ∃ (q : Addr) (c : Ch) (h : Str → Int), vs = [.ref q] ∧ LdAt CL C CB H q c h ∧ c.names.length ≤ 60 ∧ ∀ r H', Same H H' → H r = none → H' r = some (.dK (byI c.names h)) → Q (.ref r) H'
def spChEq (C CB : Addr) : Sp := fun vs H Q _ => ∃ (p : Addr) (c : Ch), vs = [.ref p, .ref p] ∧ ChAt C CB H p c ∧ c.Ok ∧ Q (.bl true) H
def spLdEq (CL C CB : Addr) : Sp := fun vs H Q _ => ∃ (q r cp : Addr) (c : Ch) (h h2 : Str → Int), vs = [.ref q, .ref r] ∧ LdAtC CL C CB H q cp c h ∧ LdAtC CL C CB H r cp c h2 ∧ c.Ok ∧ (∀ x ∈ c.names, h x = h2 x) ∧ Q (.bl true) H
/-! ### the calm land is one -/
section
variable {c : Ch} {h h2 : Str → Int} {sl : List Str} {sv : Str → Int}
/-- from where the water may come: an outlet, or a root that is low enough -/
def Src (c : Ch) (t : Int) (s : Str) : Prop := s ∈ c.outs ∨ (Root c c.lo c.hi s ∧ c.hi s ≤ t)
theorem calm_src (ok : c.Ok) (hC : CalmOf c h) {x : Str} (hx : x ∈ c.names) (t : Int) : h x ≤ t ↔ ∃ s, Src c t s ∧ M9.Rch (Adj c) (Lv c c.lo t) s x := by
  obtain ⟨sl, sv, S, hh⟩ := hC
  rw [hh x hx t, fl_starts ok S]
  constructor
  · rintro ⟨s, hs, hv, hr⟩
    rcases (S.mem s).mp hs with h1 | h1
    · exact ⟨s, .inl h1, hr⟩
    · exact ⟨s, .inr ⟨h1, by rw [← S.root s h1]; exact hv⟩, hr⟩
  · rintro ⟨s, h1 | ⟨h1, h3⟩, hr⟩
    · exact ⟨s, (S.mem s).mpr (.inl h1), by rw [S.out s h1]; exact hr.head.2, hr⟩
    · exact ⟨s, (S.mem s).mpr (.inr h1), by rw [S.root s h1]; exact h3, hr⟩
theorem calm_uniq (ok : c.Ok) (h1 : CalmOf c h) (k : CalmOf c h2) : ∀ x ∈ c.names, h x = h2 x := fun x hx => by
  have a := (calm_src ok h1 hx (h2 x)).mpr ((calm_src ok k hx (h2 x)).mp (Int.le_refl _))
  have b := (calm_src ok k hx (h x)).mpr ((calm_src ok h1 hx (h x)).mp (Int.le_refl _))
  omega
theorem root_not_out {f g : Str → Int} {x : Str} (r : Root c f g x) (ok : c.Ok) (hl : f x ≤ g x) : x ∉ c.outs :=
  (r.2 x (.start (List.mem_singleton.mpr rfl) hl)).1
/-- every place is reached at its high bound -/
theorem src_hi (ok : c.Ok) {x : Str} (hx : x ∈ c.names) : ∃ s, Src c (c.hi x) s ∧ M9.Rch (Adj c) (Lv c c.lo (c.hi x)) s x := by
  have sy := Adj.sy ok
  have h0 : Lv c c.lo (c.hi x) x := ⟨hx, lo_hi ok x hx⟩
  by_cases h : ∃ o, M9.Rch (Adj c) (Lv c c.lo (c.hi x)) x o ∧ o ∈ c.outs
  · obtain ⟨o, h1, h2⟩ := h
    exact ⟨o, .inl h2, h1.symm sy⟩
  · obtain ⟨r, h1, h2, h3⟩ := root_of (g := c.hi) ok (lo_hi ok) (Int.le_refl (c.hi x)) (.refl h0) (Int.le_refl _) fun y hy ho => h ⟨y, hy, ho⟩
    exact ⟨r, .inr ⟨h3, h2⟩, h1.symm sy⟩
/-- a root's calm height is its high bound -/
theorem calm_root (ok : c.Ok) (hC : CalmOf c h) {x : Str} (r : Root c c.lo c.hi x) : h x = c.hi x := by
  have le := (calm_src ok hC r.1 _).mpr (src_hi ok r.1)
  rcases Int.lt_or_le (h x) (c.hi x) with lt | ge
  · obtain ⟨s, hs, hr⟩ := (calm_src ok hC r.1 (h x)).mp (Int.le_refl _)
    have sy := Adj.sy ok
    have fl : Fl (AdjS c []) c.lo [x] c.lo (c.hi x) s := (fl_rch ok r.1).mpr ((hr.symm sy).mono (Lv.mono le))
    have no := r.2 s fl
    rcases hs with h1 | ⟨h1, h2⟩
    · exact absurd h1 no.1
    · exact absurd (ltR_iff.mpr (.inl (show c.hi s < c.hi x by omega))) no.2
  · omega
/-- an outlet's is its low bound -/
theorem calm_out (ok : c.Ok) (hC : CalmOf c h) {x : Str} (ho : x ∈ c.outs) : h x = c.lo x := by
  have hx := ok.oin x ho
  have a := (calm_src ok hC hx (c.lo x)).mpr ⟨x, .inl ho, .refl ⟨hx, Int.le_refl _⟩⟩
  obtain ⟨s, _, hr⟩ := (calm_src ok hC hx (h x)).mp (Int.le_refl _)
  have b := hr.last.2
  omega
end
/-! ### passes over numbers -/
/-- the least level at which b is reached from a -/
def PassOf (N : List (List Int)) (ws : List Int) (a b : Int) (o : Option Int) : Prop := ∀ t : Int, (∃ d, o = some d ∧ d ≤ t) ↔ M9.Rch (AdjI N) (LowI ws t) a b
theorem top_of : ∀ {l : List Int}, l ≠ [] → ∃ d ∈ l, ∀ e ∈ l, e ≤ d
  | [], h => absurd rfl h
  | x :: l, _ => by
    by_cases hl : l = []
    · subst hl
      exact ⟨x, List.mem_cons_self, fun e he => by rw [List.mem_singleton.mp he]; exact Int.le_refl _⟩
    · obtain ⟨d, h1, h2⟩ := top_of hl
      by_cases hd : x ≤ d
      · refine ⟨d, List.mem_cons_of_mem _ h1, fun e he => ?_⟩
        rcases List.mem_cons.mp he with e1 | e1
        · rw [e1]; exact hd
        · exact h2 e e1
      · refine ⟨x, List.mem_cons_self, fun e he => ?_⟩
        rcases List.mem_cons.mp he with e1 | e1
        · rw [e1]; exact Int.le_refl _
        · have := h2 e e1
          omega
theorem lowI_floor {ws : List Int} {t a : Int} (h : LowI ws t a) : ∃ L ∈ ws, L ≤ t ∧ ∀ x, LowI ws t x → LowI ws L x := by
  obtain ⟨i, v, rfl, hv, hvt⟩ := h
  have hne : ws.filter (fun z => decide (z ≤ t)) ≠ [] := fun z => by
    have m : v ∈ ws.filter (fun z => decide (z ≤ t)) := List.mem_filter.mpr ⟨List.mem_of_getElem? hv, decide_eq_true hvt⟩
    rw [z] at m
    exact nomatch m
  obtain ⟨L, h1, h2⟩ := top_of hne
  obtain ⟨h3, h4⟩ := List.mem_filter.mp h1
  refine ⟨L, h3, of_decide_eq_true h4, fun x hx => ?_⟩
  obtain ⟨j, u, e, hu, hut⟩ := hx
  exact ⟨j, u, e, hu, h2 u (List.mem_filter.mpr ⟨List.mem_of_getElem? hu, decide_eq_true hut⟩)⟩
/-- found in a descending walk of the levels -/
theorem pass_last {N : List (List Int)} {ws ls : List Int} {a b : Int} (hall : ∀ z, z ∈ ws → z ∈ ls) (hd : ls.Pairwise fun x y => y ≤ x) (p : Int → Bool) (hp : ∀ z ∈ ls, p z = true ↔ M9.Rch (AdjI N) (LowI ws z) a b) : PassOf N ws a b (ls.filter p).getLast? := fun t => by
  have hdf : (ls.filter p).Pairwise fun x y => y ≤ x := hd.sublist List.filter_sublist
  constructor
  · rintro ⟨d, hd1, hdt⟩
    have hm : d ∈ ls.filter p := List.mem_of_getLast? hd1
    obtain ⟨h1, h2⟩ := List.mem_filter.mp hm
    refine ((hp d h1).mp h2).mono fun x hx => ?_
    obtain ⟨i, v, e, hv, hvd⟩ := hx
    exact ⟨i, v, e, hv, Int.le_trans hvd hdt⟩
  · intro h
    obtain ⟨L, hL, hLt, hLf⟩ := lowI_floor h.head
    have hLl := hall L hL
    have hm : L ∈ ls.filter p := List.mem_filter.mpr ⟨hLl, (hp L hLl).mpr (h.mono hLf)⟩
    cases hg : (ls.filter p).getLast? with
    | none =>
      rw [List.getLast?_eq_none_iff] at hg
      rw [hg] at hm
      exact nomatch hm
    | some d =>
      refine ⟨d, rfl, ?_⟩
      have : d ≤ L := by
        obtain ⟨pre, e⟩ : ∃ pre, ls.filter p = pre ++ [d] := by
          rw [List.getLast?_eq_some_iff] at hg
          exact hg
        rw [e] at hm hdf
        rcases List.mem_append.mp hm with h1 | h1
        · exact (List.pairwise_append.mp hdf).2.2 L h1 d (List.mem_singleton.mpr rfl)
        · rw [List.mem_singleton.mp h1]; exact Int.le_refl _
      omega
/-! ### a comprehension with two fors -/
theorem lc2_out {J : It} {n : Nat} {G : Hp → Prop} {Y : Nat → Hp → V → Hp → Prop} (w : Walk J n G Y) {H1 : Hp} {D : Addr} {Qd : Hp → Prop} {S : V → Hp → (Hp → Prop) → Prop} (Pv : Nat → Hp → Prop) (h0 : Pv 0 (upd H1 D (.lst []))) (hG : ∀ i H, i ≤ n → Pv i H → G H)
    (hs : ∀ i x H H', i < n → Pv i H → Y i H x H' → S x H' (Pv (i + 1))) (hd : ∀ H, Pv n H → Qd H) :
    ∃ W : Nat → Nat → Hp → Prop, (∃ m, W 0 m (upd H1 D (.lst []))) ∧ ∀ i m H, W i m H → (J.stop i H ∧ Qd H) ∨ (J.go i H ∧ ∃ Nx : Hp → Prop, (∀ H', Nx H' → ∃ m', m' < m ∧ W (i + 1) m' H') ∧ ∀ x H', J.yld i H x H' → S x H' Nx) := by
  refine ⟨fun i m H => m = n - i ∧ i ≤ n ∧ Pv i H, ⟨n, rfl, Nat.zero_le _, h0⟩, fun i m H ⟨e, hi, p⟩ => ?_⟩
  subst e
  have g := hG i H hi p
  by_cases lt : i < n
  · exact .inr ⟨w.goes i H lt g, Pv (i + 1), fun H' p' => ⟨n - (i + 1), by omega, rfl, lt, p'⟩, fun x H' y => hs i x H H' lt p (w.yields i H x H' lt g y)⟩
  · obtain rfl : i = n := by omega
    exact .inl ⟨w.stops H g, hd H p⟩
theorem lc2_in {K : PySem.W.Frag} {a : Addr} {xs : List V} {H4 : Hp} {Nx : Hp → Prop} {S : V → Hp → (Hp → Prop) → Prop} (Pv : Nat → Hp → Prop) (h0 : Pv 0 H4) (hl : ∀ j H, j ≤ xs.length → Pv j H → SqL K H a xs) (hs : ∀ j x H, xs[j]? = some x → Pv j H → S x H (Pv (j + 1))) (hd : ∀ H, Pv xs.length H → Nx H) :
    ∃ W1 : Nat → Nat → Hp → Prop, (∃ m, W1 0 m H4) ∧ ∀ j k H, W1 j k H → ((Itl K a).stop j H ∧ Nx H) ∨ ((Itl K a).go j H ∧ ∃ Nx1 : Hp → Prop, (∀ H', Nx1 H' → ∃ k', k' < k ∧ W1 (j + 1) k' H') ∧ ∀ x H', (Itl K a).yld j H x H' → S x H' Nx1) := by
  refine ⟨fun j m H => m = xs.length - j ∧ j ≤ xs.length ∧ Pv j H, ⟨xs.length, rfl, Nat.zero_le _, h0⟩, fun j m H ⟨e, hj, p⟩ => ?_⟩
  subst e
  have g := hl j H hj p
  by_cases lt : j < xs.length
  · refine .inr ⟨⟨xs, xs[j], g, by simp [lt]⟩, Pv (j + 1), fun H' p' => ⟨xs.length - (j + 1), by omega, rfl, lt, p'⟩, fun x H' y => ?_⟩
    obtain ⟨e, y⟩ := y
    rw [e]
    exact hs j x H (y xs g) p
  · obtain rfl : j = xs.length := by omega
    exact .inl ⟨⟨xs, g, Nat.le_refl _⟩, hd H p⟩
/-! ### dicts told anew -/
theorem mergeK_all : ∀ (more acc : List (L2.Key × V)), ((acc ++ more).map (·.1)).Nodup → mergeK acc more = acc ++ more
  | [], acc, _ => (List.append_nil acc).symm
  | p :: more, acc, h => by
    have hp : ∀ q ∈ acc, q.1 ≠ p.1 := fun q hq z => by
      rw [List.map_append, List.nodup_append] at h
      exact h.2.2 q.1 (List.mem_map_of_mem (f := Prod.fst) hq) p.1 (List.mem_map_of_mem (f := Prod.fst) List.mem_cons_self) z
    show mergeK (putK acc p.1 p.2) more = _
    rw [L9.putK_new hp, mergeK_all more (acc ++ [(p.1, p.2)]) (by rw [List.append_assoc]; exact h), List.append_assoc]
    rfl
theorem byN_keys (l : List Str) (a : Str → Addr) : (byN l a).map (·.1) = l.map fun x => (Sum.inr x : L2.Key) := by
  unfold byN
  rw [List.map_map]
  rfl
theorem inr_nodup {l : List Str} (h : l.Nodup) : (l.map fun x => (Sum.inr x : L2.Key)).Nodup := by
  unfold List.Nodup
  rw [List.pairwise_map]
  exact h.imp fun hab z => hab (Sum.inr.inj z)
theorem mergeN (l : List Str) (a : Str → Addr) (h : l.Nodup) : mergeK [] (byN l a) = byN l a := by
  rw [mergeK_all _ [] (by rw [List.nil_append, byN_keys]; exact inr_nodup h)]
  rfl
theorem putN_old {l : List Str} {a : Str → Addr} {x : Str} {p : Addr} (h : x ∈ l) : putK (byN l a) (Sum.inr x : L2.Key) (V.ref p) = byN l (fun y => if y = x then p else a y) := by
  unfold putK
  rw [if_pos]
  · unfold byN
    rw [List.map_map]
    refine List.map_congr_left fun y _ => ?_
    show (if (Sum.inr y : L2.Key) = Sum.inr x then ((Sum.inr y : L2.Key), V.ref p) else (Sum.inr y, V.ref (a y))) = _
    by_cases e : y = x
    · rw [if_pos (by rw [e])]
      simp [e]
    · rw [if_neg (fun z => e (Sum.inr.inj z))]
      simp [e]
  · rw [List.any_eq_true]
    exact ⟨_, List.mem_map_of_mem h, decide_eq_true rfl⟩
theorem pi_listK {X : Cx} {K' : PySem.W.Frag} (h : X.K = K') {tg l : Expr} {tl : TE} (hl : PE X l tl) : PI X tg l (iList K' tl) := by subst h; exact pi_list hl
end L9

/-! != of own instances whose class has an __eq__ alone; == and != of dicts whose values are compared by own defs -/
namespace L9
open PySem PySem.Spec PyProof.Rows L2

section
variable {prog : Program} {w : World} {A : Around} {E : Value → Shared → Prop} {s : Shared} {K : PySem.W.Frag} {x C f L : Addr} {h₀ : Heap} {m : Str → Option Value} {ox : Obj} {od : Option Obj} {b tb : Value}
theorem ifBound_objNe {M : Model} {args : List Value} {Q : Option Value → Shared → Prop} (X : K.In s.heap) (I : PySem.W.InstAt s.heap x ox C od) (hs : PySem.W.findIn K (.ref C) "__ne__" = some (some (.builtin "object.__ne__")))
    (h : wpAny M A (call (.builtin "object.__ne__") (.ref x :: args)) (fun v => Q (some v)) E s) : wpAny M A (callSpecialIfBound? (.ref x) "__ne__" args) Q E s := by
  simp only [callSpecialIfBound?, bindSpecialIfBound?]
  refine wpAny_holding (wpAny_bind (wpAny_bind (wpAny_bind (I.type.here ((PySem.W.looks_findIn X hs).here ?_)))))
  refine wpAny_bind (wpAny_askSetting (wpAny_ite ?_))
  have fin : wpAny M A (call (.builtin "object.__ne__") ([.ref x] ++ args) >>= fun v => pure (some v)) Q E s := wpAny_bind (wpAny_mono h (fun v s' h' => wpAny_pure h') fun _ _ h' => h')
  split
  · exact wpAny_bind (wpAny_of_eq (F.cmp_object.ne.bind _) (wpAny_pure (by exact fin)))
  · exact wpAny_tryCatch (wpAny_bind (wpAny_of_eq (F.cmp_object.ne.bind _) (wpAny_pure (by exact fin))))
theorem entry_objNe {Q : Fin → Shared → Prop} (hu : A.units < cLine) (X : K.In s.heap) (I : PySem.W.InstAt s.heap x ox C od) (hs : PySem.W.findIn K (.ref C) "__eq__" = some (some (.ref f))) (hf : PySem.W.isFn K (.ref f) = true)
    (h : wpAny (model prog w) A (call (.ref f) [.ref x, b]) (fun v s' => ∃ r, v = .bool r ∧ Q (.done (.ret (.bool (!r)))) s') E s) : wpAny (model prog w) A (Builtin.«object.__ne__» ⟨[.ref x, b], []⟩) Q E s := by
  unfold Builtin.«object.__ne__»
  repeat (first
    | with_reducible refine wpAny_cRoomFor hu ?_
    | (refine wpAny_bind (m := callSpecialIfBound? (.ref x) (Str.ofString "__eq__") [b])
        (PySem.W.ifBound_K X I hs hf (wpAny_mono h (fun r s' hr => by
          obtain ⟨b, rfl, hq⟩ := hr
          repeat (first | exact hq | exact wpAny_pure hq | exact wpAny_truthy_bool hq | (refine wpAny_bind (m := truthy (.bool _)) (wpAny_truthy_bool ?_)) | wp_step)) fun _ _ e => e)))
    | wp_step)
theorem ne_K {Q : Value → Shared → Prop} (hu : A.units + 1 < cLine) (F : PyProof.Rows.Fr h₀ L s.heap m) (X₀ : K.In h₀) (I : PySem.W.InstAt s.heap x ox C od) (hb : PySem.W.Looks (model prog w) s.heap (typeOf b) tb) (hn : PySem.W.notFirst K C tb = true)
    (hne : PySem.W.findIn K (.ref C) "__ne__" = some (some (.builtin "object.__ne__"))) (hm : PySem.W.mroIn K C (.type "object") = some true) (hs : PySem.W.findIn K (.ref C) "__eq__" = some (some (.ref f))) (hf : PySem.W.isFn K (.ref f) = true)
    (h : wpAny (model prog w) A.in1 (call (.ref f) [.ref x, b]) (fun v s' => ∃ r, v = .bool r ∧ Q (.bool (!r)) s') E s) : wpAny (model prog w) A (richCompare .NotEq (.ref x) b) Q E s := by
  have X := X₀.keeps F.keep
  have one : wpAny (model prog w) A (tryCompare (.ref x) "__ne__" b) (fun r s' => ∃ v, r = some v ∧ Q v s') E s := by
    unfold tryCompare
    refine wpAny_bind (ifBound_objNe X I hne (wpAny_call (codeAny_call_builtin PySem.F.cmp_object.ne.plain PySem.F.cmpEntry_ne (PySem.W.check_slot PySem.F.cmpKind_ne PySem.F.cmpSplit_ne (I.type.andThen (PySem.W.looks_mroIn X hm)) (PySem.F.cmpArgs_ne _ _)
      (entry_objNe (A := A.in1) hu X I hs hf (wpAny_mono h (fun v s' hv => ?_) fun _ _ e => e))))))
    obtain ⟨r, rfl, hq⟩ := hv
    first | exact ⟨r, rfl, wpAny_pure ⟨_, rfl, hq⟩⟩ | exact ⟨r, rfl, wpAny_pure (wpAny_pure ⟨_, rfl, hq⟩)⟩
  unfold richCompare
  simp only [oneThing_ref]
  refine wpAny_holding (wpAny_bind (wpAny_cRoomFor (Nat.lt_of_succ_lt hu) ?_))
  rw [cmpInfo_NotEq]
  dsimp only
  refine wpAny_bind (I.type.here (wpAny_bind (hb.here ?_)))
  split
  · rename_i q
    have e : PySem.W.subIn K tb (.ref C) = some false := by
      rcases Bool.or_eq_true_iff.mp hn with e | e
      · rw [beq_iff_eq.mp e] at q; simp at q
      · exact beq_iff_eq.mp e
    refine wpAny_bind ((PySem.W.looks_subIn X e).here ?_)
    simp only [Bool.false_eq_true, if_false]
    refine wpAny_bind (wpAny_mono one (fun r s' z => ?_) fun _ _ e => e)
    obtain ⟨v, rfl, hq⟩ := z
    exact wpAny_pure hq
  · refine wpAny_bind (wpAny_pure ?_)
    simp only [Bool.false_eq_true, if_false]
    refine wpAny_bind (wpAny_mono one (fun r s' z => ?_) fun _ _ e => e)
    obtain ⟨v, rfl, hq⟩ := z
    exact wpAny_pure hq
end

section
variable {X : Cx} {CX : CXT} {k : Nat} {C f : Addr} {fd : FuncData} {ps : List Str} {sp : Sp}
/-- a def called somewhere below the running body -/
theorem run_fnA {A : Around} {pins : List (Addr × Obj)} {σ : L2.St} {H : Hp} {s : Shared} {Q : VK} {us : List Value} {vs : List V} {E : XK} (F : FnOk X.prog X.w X.K X.mg X.base CX k f fd ps sp) (sb : Sub X k A) (hb : Binds X.K fd ps []) (hx : Passes CX X E)
    (I : Inv X pins σ H s) (r : Vals vs us) (h : sp vs H Q E) : wpAny (model X.prog X.w) A (call (.ref f) us) (EP X pins σ Q) X.xe s := by
  have e0 : Env0 X.prog X.w X.K X.mg X.base A X.stack s H := by
    have e := I.env0
    exact ⟨by rw [sb.fr]; exact e.frames, e.mod, e.bs, e.bsz, e.funs, e.frf, e.hok, e.bare⟩
  have hl : us.length = ps.length := by rw [← r.length]; exact F.len _ _ _ _ h
  refine wpAny_call (codeAny_mono (F.run A X.stack s H ⟨us, []⟩ us vs Q E sb.room e0 (by
    have := hb s us I.kIn (by simpa using hl)
    simpa using this) r h) fun r s' hq => ?_)
  cases r with
  | error e => exact hx pins σ H s e s' I hq
  | ok fl =>
    cases fl with
    | ret w => exact I.after hq
    | next => exact False.elim hq
    | brk => exact False.elim hq
    | cont => exact False.elim hq
/-- x != y, x of the class at C, which has an __eq__ of its own -/
def rNeO (K : PySem.W.Frag) (C : Addr) (sp : Sp) (E : XK) : R2 := fun x y H Q => ∃ a dx fs t, x = .ref a ∧ H a = some (.ins C dx fs) ∧ TyX K H y t ∧ PySem.W.notFirst K C t = true ∧ sp [x, y] H (fun z H' => ∃ b, z = .bl b ∧ Q (.bl (!b)) H') E
theorem op_neO {E : XK} (hne : PySem.W.findIn X.K (.ref C) "__ne__" = some (some (.builtin "object.__ne__"))) (hm : PySem.W.mroIn X.K C (.type "object") = some true) (hs : PySem.W.findIn X.K (.ref C) "__eq__" = some (some (.ref f))) (hf : PySem.W.isFn X.K (.ref f) = true)
    (F : FnOk X.prog X.w X.K X.mg X.base CX k f fd ps sp) (hr : Room (k + 1) X.A) (hb : Binds X.K fd ps []) (hx : Passes CX X E) : OpR X (compareOp .NotEq) (rNeO X.K C sp E) := by
  intro pins s σ H x y v u Q I rx ry h
  obtain ⟨a, dx, fs, t, rfl, ha, hy, hn, q⟩ := h
  cases (show v = Value.ref a from rx)
  obtain ⟨od, J⟩ := inst_at I ha
  obtain ⟨mm, hF⟩ := I.fr
  obtain ⟨Pk, kx, hP, _⟩ := kit_of I ry hy
  show wpAny _ _ (richCompare .NotEq (.ref a) u) _ _ _
  refine ne_K (by have := hr.un; omega) hF I.ok.mod.kin J (kx.ty _ _ I.kIn hP) hn hne hm hs hf ?_
  refine wpAny_mono (run_fnA (A := X.A.in1) (us := [.ref a, u]) (vs := [.ref a, y]) F ⟨hr.in1, rfl⟩ hb hx I (.cons rfl (.cons ry .nil)) q) (fun w s' z => ?_) fun _ _ z => z
  obtain ⟨z', H', I', rz, r, ez, qz⟩ := z
  subst ez
  cases (show w = Value.bool r from rz)
  exact ⟨r, rfl, .bl (!r), H', I', rfl, qz⟩
end

/-! ### dicts, the values compared by own defs -/
section
variable {X : Cx}
/-- every key of the first is one of the second, and the values are equal -/
def dictB (e : L2.Key → Bool) (ks ls : List (L2.Key × V)) : Bool := ks.all fun p => (valV ls p.1).isSome && e p.1
theorem samePairsI {A : Around} {E : Value → Shared → Prop} {nm : String} {a b : Addr} {oa ob : Obj} {ks ls : List (L2.Key × V)} {pins : List (Addr × Obj)} {σ : L2.St} {H : Hp} {s : Shared} {e : L2.Key → Bool} {Q : Bool → Shared → Prop}
    (I : Inv X pins σ H s) (hA : H a = some (.frz oa (.dK ks))) (hB : H b = some (.frz ob (.dK ls)))
    (turn : ∀ (k : L2.Key) (v y : V) (u w : Value) (s' : Shared), (k, v) ∈ ks → valV ls k = some y → RelV v u → RelV y w → Inv X pins σ H s' → wpAny (model X.prog X.w) A (eqBool u w) (fun r s2 => r = e k ∧ Inv X pins σ H s2) E s')
    (h : ∀ s', Inv X pins σ H s' → Q (ks.length == ls.length && dictB e ks ls) s') : wpAny (model X.prog X.w) A (Builtin.Dict.samePairs nm a b) Q E s := by
  obtain ⟨hga, _, ya, va, ra, da⟩ := (show ObjOk X.prog X.w H s.heap a (.frz oa (.dK ks)) from I.hok a _ hA)
  obtain ⟨hgb, _, yb, vb, rb, db⟩ := (show ObjOk X.prog X.w H s.heap b (.frz ob (.dK ls)) from I.hok b _ hB)
  have getA : ∀ s', Inv X pins σ H s' → s'.heap.get? a = some oa := fun s' I' => (show ObjOk X.prog X.w H s'.heap a (.frz oa (.dK ks)) from I'.hok a _ hA).1
  have getB : ∀ s', Inv X pins σ H s' → s'.heap.get? b = some ob := fun s' I' => (show ObjOk X.prog X.w H s'.heap b (.frz ob (.dK ls)) from I'.hok b _ hB).1
  obtain ⟨oa', es, ep, hoa, _, hda, hka, hpa, _⟩ := da
  rw [hga] at hoa
  cases hoa
  obtain ⟨ob', es', ep', hob, _, hdb, hkb, hpb, _⟩ := db
  rw [hgb] at hob
  cases hob
  have hla : va.length = es.size := by rw [← hpa.length]; exact Array.length_toList
  have hlb : vb.length = es'.size := by rw [← hpb.length]; exact Array.length_toList
  have hfind : ∀ k, findBy (mixKind X.prog X.w).is es' k = valueAt vb k := fun k => by
    rw [← hpb.find k]
    clear hlb hpb hkb hdb
    obtain ⟨l⟩ := es'
    simp [findBy]
  have h : ∀ s', Inv X pins σ H s' → Q (es.size == es'.size && dictB e ks ls) s' := fun s' I' => by
    have := h s' I'
    rw [ra.length, rb.length, hla, hlb] at this
    exact this
  unfold Builtin.Dict.samePairs Builtin.Dict.showsAll
  rw [if_neg (show ¬ (a == sysModules) = true by rw [ya]; exact Bool.false_ne_true), if_neg (show ¬ (b == sysModules) = true by rw [yb]; exact Bool.false_ne_true)]
  refine wpAny_bind (wpAny_pure (wpAny_bind (wpAny_pure ?_)))
  refine wpAny_bind (wpAny_dictEntries hga hda ?_)
  dsimp only
  refine wpAny_bind (wpAny_dictEntries hgb hdb ?_)
  by_cases hsz : es.size = es'.size
  case neg =>
    rw [if_pos (by simpa using hsz)]
    have hbf : (es.size == es'.size) = false := by simpa using hsz
    have h := h s I
    rw [hbf, Bool.false_and] at h
    exact wpAny_bind (wpAny_rule (wpAny_pure h))
  case pos =>
    have h' : ∀ s', Inv X pins σ H s' → Q (dictB e ks ls) s' := fun s' I' => by simpa [hsz] using h s' I'
    rw [if_neg (by rw [hsz]; simp)]
    refine wpAny_bind (wpAny_dictEpoch hga hda ?_)
    refine wpAny_bind ?_
    rw [Std.Legacy.Range.forIn_eq_forIn_range']
    simp only [Std.Legacy.Range.size, Nat.sub_zero, Nat.add_sub_cancel, Nat.div_one]
    refine wpAny_forIn_list _
      (fun rest q s' => Inv X pins σ H s' ∧ q = (none, ()) ∧ ∃ i, rest = List.range' i (es.size - i) ∧ i ≤ es.size ∧ dictB e ks ls = dictB e (ks.drop i) ls)
      _ ?_ ?_ _ _ ⟨I, rfl, 0, by simp, Nat.zero_le _, rfl⟩
    · rintro x rest q s' ⟨I', rfl, i, hr, hi, hpre⟩
      have hga' := getA s' I'
      have hgb' := getB s' I'
      have hlt : i < es.size := by
        rcases Nat.lt_or_ge i es.size with h | h
        · exact h
        · rw [Nat.sub_eq_zero_of_le h] at hr; simp at hr
      obtain ⟨rfl, hrest⟩ : x = i ∧ rest = List.range' (i + 1) (es.size - (i + 1)) := by
        have e : es.size - i = (es.size - (i + 1)) + 1 := by omega
        rw [e, List.range'_succ] at hr
        injection hr with h1 h2
        exact ⟨h1, h2⟩
      refine wpAny_bind (wpAny_dictEntries hga' hda ?_)
      rw [Array.getElem?_eq_getElem hlt]
      have hlt' : x < va.length := by rw [hla]; exact hlt
      obtain ⟨k, v, hkv⟩ : ∃ k v, va[x] = (k, v) := ⟨_, _, rfl⟩
      obtain ⟨vx, hvx, rvx⟩ := ra.at' (by rw [List.getElem?_eq_getElem hlt', hkv] : va[x]? = some (k, v))
      have hltk : x < ks.length := by rw [ra.length]; exact hlt'
      have hdrop : ks.drop x = (k, vx) :: ks.drop (x + 1) := by
        rw [List.drop_eq_getElem_cons hltk]
        rw [List.getElem?_eq_getElem hltk] at hvx
        rw [Option.some.inj hvx]
      obtain ⟨hkey, hval⟩ := hpa.get? (i := x) (e := es[x]) (k := k) (v := v) (by rw [Array.getElem?_toList]; exact Array.getElem?_eq_getElem hlt) (by rw [List.getElem?_eq_getElem hlt', hkv])
      obtain ⟨k', hk', hh⟩ := hka es[x] (Array.getElem_mem hlt)
      have ekk : k' = k := (mixKind X.prog X.w).inj _ _ _ hk' hkey
      rw [ekk] at hh
      rw [hdrop] at hpre
      show wpAny _ _ (holding [es[x].key, es[x].val] _ >>= _) _ _ _
      rw [hh]
      refine wpAny_bind (wpAny_holding (wpAny_bind (wpAny_dictFind_of hkey hgb' hdb hkb ?_)))
      have hro : RelO (valV ls k) (valueAt vb k) := rb.val k
      cases hj : es'.findIdx? fun e => (mixKind X.prog X.w).is k e.key with
      | none =>
        have hn : valueAt vb k = none := by rw [← hfind k, findBy_of_findIdx?, hj]
        have hn2 : valV ls k = none := by
          cases hz : valV ls k with
          | none => rfl
          | some z =>
            rw [hz, hn] at hro
            exact hro.elim
        have er : dictB e ks ls = false := by
          rw [hpre]
          unfold dictB
          rw [List.all_cons, hn2]
          rfl
        have h2 := h' s' I'
        rw [er] at h2
        refine wpAny_pure ?_
        show wpAny _ _ (if (!false) = true then _ else _) _ _ _
        rw [if_pos (by decide)]
        exact wpAny_pure (wpAny_pure h2)
      | some j =>
        obtain ⟨hjlt, _, _⟩ := Array.findIdx?_eq_some_iff_getElem.mp hj
        have hv' : valueAt vb k = some es'[j].val := by
          rw [← hfind k, findBy_of_findIdx?, hj]
          simp [Array.getElem?_eq_getElem hjlt]
        refine wpAny_bind (wpAny_dictEntries hgb' hdb ?_)
        rw [Array.getElem?_eq_getElem hjlt]
        rw [hv'] at hro
        obtain ⟨y, hy, ry⟩ : ∃ y, valV ls k = some y ∧ RelV y es'[j].val := by
          cases hz : valV ls k with
          | none =>
            rw [hz] at hro
            exact hro.elim
          | some z =>
            rw [hz] at hro
            exact ⟨z, rfl, hro⟩
        rw [← hval] at rvx
        refine wpAny_holding (wpAny_mono (turn k vx y _ _ s' (List.mem_of_getElem? hvx) hy rvx ry I') (fun r s2 hq => ?_) fun _ _ x => x)
        obtain ⟨er, I2⟩ := hq
        subst er
        have ecs : dictB e ((k, vx) :: ks.drop (x + 1)) ls = (e k && dictB e (ks.drop (x + 1)) ls) := by
          unfold dictB
          rw [List.all_cons, hy]
          rfl
        rw [ecs] at hpre
        cases hek : e k with
        | false =>
          rw [hek, Bool.false_and] at hpre
          have h2 := h' s2 I2
          rw [hpre] at h2
          show wpAny _ _ (if (!false) = true then _ else _) _ _ _
          rw [if_pos (by decide)]
          exact wpAny_pure (wpAny_pure h2)
        | true =>
          rw [hek, Bool.true_and] at hpre
          show wpAny _ _ (if (!true) = true then _ else _) _ _ _
          rw [if_neg (by decide)]
          refine wpAny_bind (wpAny_dictEpoch (getA s2 I2) hda ?_)
          rw [if_neg (by simp)]
          exact wpAny_pure ⟨I2, rfl, x + 1, hrest, hlt, hpre⟩
    · rintro q s' ⟨I', rfl, i, hr, hi, hpre⟩
      have hin : i = es.size := by
        rcases Nat.lt_or_ge i es.size with h | h
        · have e : es.size - i = (es.size - (i + 1)) + 1 := by omega
          rw [e, List.range'_succ] at hr; exact nomatch hr
        · exact Nat.le_antisymm hi h
      refine wpAny_pure ?_
      rw [hin, ← hla, ← ra.length, List.drop_length] at hpre
      have h2 := h' s' I'
      rw [hpre] at h2
      exact h2
end
section
variable {X : Cx}
/-- == of two values, told by D: its answer, all else as it was -/
def ValEq (X : Cx) (n : Nat) (D : V → V → Bool → Hp → Prop) : Prop :=
  ∀ (A : Around) (pins : List (Addr × Obj)) (σ : L2.St) (H : Hp) (s : Shared) (x y : V) (b : Bool) (u w : Value), Sub X n A → Inv X pins σ H s → RelV x u → RelV y w → D x y b H →
    wpAny (model X.prog X.w) A (eqBool u w) (fun r s2 => r = b ∧ Inv X pins σ H s2) X.xe s
theorem OCal.valEq {C : Addr} {k : Nat} {ps : List Str} {sp : Sp} {D : V → V → Bool → Hp → Prop} (M : OCal X.prog X.w X.K X.mg X.base C "__eq__" k ps sp)
    (hD : ∀ x y b H, D x y b H → ∃ p q dx dy fs gs, x = .ref p ∧ y = .ref q ∧ H p = some (.ins C dx fs) ∧ H q = some (.ins C dy gs) ∧ (p = q → b = true) ∧ sp [x, y] H (fun z H' => z = .bl b ∧ H' = H) E0) : ValEq X k D := by
  obtain ⟨f, fd, G, hs, hf, hf2, bb⟩ := M.ex
  intro A pins σ H s x y b u w sb I rx ry d
  obtain ⟨p, q, dx, dy, fs, gs, rfl, rfl, hp, hq, hpq, q1⟩ := hD x y b H d
  cases (show u = Value.ref p from rx)
  cases (show w = Value.ref q from ry)
  by_cases e : p = q
  · subst e
    exact SeqAt.EqAt.same (A := A) (s := s) (.ref p) X.prog X.w X.xe _ ⟨(hpq rfl).symm, I⟩
  · refine GQ.eqBool_refG e ?_
    obtain ⟨od, J⟩ := inst_at I hp
    obtain ⟨od', J'⟩ := inst_at I hq
    obtain ⟨mm, hF⟩ := I.fr
    refine PySem.W.cmp_K (op := .Eq) (tb := .ref C) sb.room.units0 hF I.ok.mod.kin J J'.type (by simp [PySem.W.notFirst]) hs hf ?_
    refine wpAny_mono (run_fnA (A := A) (us := [.ref p, .ref q]) (vs := [.ref p, .ref q]) G sb bb pass0 I (.cons rfl (.cons rfl .nil)) q1) (fun w s' z => ?_) fun _ _ z => z
    obtain ⟨z', H', I', rz, ez, eH⟩ := z
    subst ez
    subst eH
    cases (show w = Value.bool b from rz)
    exact ⟨b, rfl, rfl, I'⟩
/-- two dicts, the values by D -/
def rDictO (neg : Bool) (D : V → V → Bool → Hp → Prop) : R2 := fun x y H Q => ∃ a b ks ls, ∃ e : L2.Key → Bool, x = .ref a ∧ y = .ref b ∧ H a = some (.dK ks) ∧ H b = some (.dK ls) ∧
  (∀ k v w, (k, v) ∈ ks → valV ls k = some w → ∀ H' : Hp, (∀ p o, p ≠ a → p ≠ b → H p = some o → H' p = some o) → D v w (e k) H') ∧ Q (.bl (xor neg (ks.length == ls.length && dictB e ks ls))) H
theorem lock2 {pins : List (Addr × Obj)} {σ : L2.St} {H : Hp} {s : Shared} {a b : Addr} {ks ls : List (L2.Key × V)} (I : Inv X pins σ H s) (ha : H a = some (.dK ks)) (hb : H b = some (.dK ls)) :
    ∃ (oa ob : Obj) (H2 : Hp), Inv X pins σ H2 s ∧ H2 a = some (.frz oa (.dK ks)) ∧ H2 b = some (.frz ob (.dK ls)) ∧ (∀ p o, p ≠ a → p ≠ b → H p = some o → H2 p = some o) ∧ ∀ s2, Inv X pins σ H2 s2 → Inv X pins σ H s2 := by
  obtain ⟨oa, I1⟩ := I.lock ha trivial
  have nfa := I.nofrz ha trivial
  have back : ∀ {c : Addr} {oc : Obj} {kc : List (L2.Key × V)} {G : Hp}, G c = some (.dK kc) → upd (upd G c (.frz oc (.dK kc))) c (.dK kc) = G := fun {c} {oc} {kc} {G} e => by
    rw [upd_upd]
    funext q
    by_cases z : q = c
    · rw [z, upd_same, e]
    · rw [upd_ne z]
  by_cases e : b = a
  · subst e
    rw [ha] at hb
    cases hb
    refine ⟨oa, oa, _, I1, upd_same, upd_same, fun p o h1 _ h => by rw [upd_ne h1]; exact h, fun s2 I2 => ?_⟩
    have := I2.unlock upd_same nfa
    rw [back ha] at this
    exact this
  · have hb1 : upd H a (.frz oa (.dK ks)) b = some (.dK ls) := (upd_ne e).trans hb
    obtain ⟨ob, I2⟩ := I1.lock hb1 trivial
    have nfb := I1.nofrz hb1 trivial
    have ha2 : upd (upd H a (.frz oa (.dK ks))) b (.frz ob (.dK ls)) a = some (.frz oa (.dK ks)) := (upd_ne (Ne.symm e)).trans upd_same
    refine ⟨oa, ob, _, I2, ha2, upd_same, fun p o h1 h2 h => by rw [upd_ne h2, upd_ne h1]; exact h, fun s2 I3 => ?_⟩
    have I4 := I3.unlock upd_same nfb
    rw [back hb1] at I4
    have I5 := I4.unlock upd_same nfa
    rw [back ha] at I5
    exact I5
theorem dict_types {H : Hp} {s : Shared} {a : Addr} {o : Obj} {ks : List (L2.Key × V)} {pins : List (Addr × Obj)} {σ : L2.St} (I : Inv X pins σ H s) (ha : H a = some (.frz o (.dK ks))) : s.TypeIs (.ref a) "dict" := by
  obtain ⟨_, _, _, va, _, da⟩ := (show ObjOk X.prog X.w H s.heap a (.frz o (.dK ks)) from I.hok a _ ha)
  exact da.typeIs
theorem op_eqDictO {n : Nat} {D : V → V → Bool → Hp → Prop} (hD : ValEq X n D) (hr : Room (n + 1) X.A) : OpR X (compareOp .Eq) (rDictO false D) := by
  intro pins s σ H x y v u Q I rx ry h
  obtain ⟨a, b, ks, ls, e, rfl, rfl, ha, hb, hv, q⟩ := h
  cases (show v = Value.ref a from rx)
  cases (show u = Value.ref b from ry)
  obtain ⟨oa, ob, H2, I2, ha2, hb2, k2, back⟩ := lock2 I ha hb
  have da := dict_types I2 ha2
  have db := dict_types I2 hb2
  refine wpAny_richCompare_same_room (op := .Eq) da db PySem.F.slot_dict_eq (wpAny_call_entry PySem.F.slot_dict_eq da PySem.F.entry_dict_eq ?_ (PySem.F.args_dict_eq_2 _ _)) (by have := hr.un; omega)
  show wpAny _ _ (Builtin.Dict.dictSlotArgs "__eq__" ⟨[.ref a, .ref b], []⟩ >>= _) _ _ s
  refine wpAny_bind ?_
  unfold Builtin.Dict.dictSlotArgs
  refine wpAny_bind (wpAny_notOrdered_dict da ?_)
  show wpAny _ _ (pure (Value.ref a, Value.ref b)) _ _ s
  refine wpAny_pure ?_
  refine wpAny_bind (wpAny_isInstance (T := "dict") db PySem.F.sub_dict_dict ?_)
  simp only [Bool.not_true, Bool.false_eq_true, if_false]
  refine wpAny_bind (wpAny_pure (wpAny_bind (wpAny_pure ?_)))
  refine wpAny_bind (samePairsI (e := e) I2 ha2 hb2 (fun k v y u w s' h1 h2 r1 r2 I' => hD _ pins σ H2 s' v y (e k) u w ⟨hr.in1, rfl⟩ I' r1 r2 (hv k v y h1 h2 H2 k2)) fun s' I' => ?_)
  refine wpAny_pure ⟨_, rfl, ?_, ?_⟩
  · exact fun x => nomatch x
  · exact ⟨.bl (xor false (ks.length == ls.length && dictB e ks ls)), H, back s' I', by show Value.bool _ = Value.bool _; simp, q⟩
theorem op_neDictO {n : Nat} {D : V → V → Bool → Hp → Prop} (hD : ValEq X n D) (hr : Room (n + 1) X.A) : OpR X (compareOp .NotEq) (rDictO true D) := by
  intro pins s σ H x y v u Q I rx ry h
  obtain ⟨a, b, ks, ls, e, rfl, rfl, ha, hb, hv, q⟩ := h
  cases (show v = Value.ref a from rx)
  cases (show u = Value.ref b from ry)
  obtain ⟨oa, ob, H2, I2, ha2, hb2, k2, back⟩ := lock2 I ha hb
  have da := dict_types I2 ha2
  have db := dict_types I2 hb2
  refine wpAny_richCompare_same_room (op := .NotEq) da db PySem.F.slot_dict_ne (wpAny_call_entry PySem.F.slot_dict_ne da PySem.F.entry_dict_ne ?_ (PySem.F.args_dict_ne_2 _ _)) (by have := hr.un; omega)
  show wpAny _ _ (Builtin.Dict.dictSlotArgs "__ne__" ⟨[.ref a, .ref b], []⟩ >>= _) _ _ s
  refine wpAny_bind ?_
  unfold Builtin.Dict.dictSlotArgs
  refine wpAny_bind (wpAny_notOrdered_dict da ?_)
  show wpAny _ _ (pure (Value.ref a, Value.ref b)) _ _ s
  refine wpAny_pure ?_
  refine wpAny_bind (wpAny_isInstance (T := "dict") db PySem.F.sub_dict_dict ?_)
  simp only [Bool.not_true, Bool.false_eq_true, if_false]
  refine wpAny_bind (wpAny_pure (wpAny_bind (wpAny_pure ?_)))
  refine wpAny_bind (samePairsI (e := e) I2 ha2 hb2 (fun k v y u w s' h1 h2 r1 r2 I' => hD _ pins σ H2 s' v y (e k) u w ⟨hr.in1, rfl⟩ I' r1 r2 (hv k v y h1 h2 H2 k2)) fun s' I' => ?_)
  refine wpAny_pure ⟨_, rfl, ?_, ?_⟩
  · exact fun x => nomatch x
  · exact ⟨.bl (xor true (ks.length == ls.length && dictB e ks ls)), H, back s' I', by show Value.bool _ = Value.bool _; simp, q⟩
end
end L9

/-! sorted(pairs, key=f), f a def of the program that makes (birth, death is None, death) of a pair: the third places may be None and numbers, since the second tells them apart -/
namespace L9
open PySem PySem.Spec PySem.W PySem.Calls PyProof.Rows L2
def optD : Option Int → PyData
  | none => .none
  | some d => .int d
def pkey (p : Int × Option Int) : PyData := .tuple [.int p.1, .bool p.2.isNone, optD p.2]
theorem optD_uniq {h : Heap} {v : Value} {o u : Option Int} {as bs : List Addr} (r : Reads h v (optD o) as) (r' : Reads h v (optD u) bs) : o = u := by
  cases o with
  | none =>
    cases u with
    | none => rfl
    | some d =>
      cases r
      cases r'
  | some c =>
    cases u with
    | none =>
      cases r'
      cases r
    | some d =>
      cases r
      cases r'
      rfl
theorem pkey_uniq {h : Heap} {v : Value} {p q : Int × Option Int} {as bs : List Addr} (r : Reads h v (pkey p) as) (r' : Reads h v (pkey q) bs) : p = q := by
  obtain ⟨b, o⟩ := p
  obtain ⟨c, u⟩ := q
  unfold pkey at r r'
  generalize hx : optD o = dx at r
  generalize hy : optD u = dy at r'
  cases r with
  | @tuple l ob xs n _ _ h1 h2 h3 h4 =>
    cases r' with
    | @tuple l' ob' xs' n' _ _ k1 k2 k3 k4 =>
      rw [h1] at k1
      cases k1
      rw [h3] at k3
      cases k3
      generalize xs.toList = ys at h4 k4
      cases h4 with
      | cons a1 t1 =>
        cases k4 with
        | cons b1 s1 =>
          cases t1 with
          | cons a2 t2 =>
            cases s1 with
            | cons b2 s2 =>
              cases t2 with
              | cons a3 t3 =>
                cases s2 with
                | cons b3 s3 =>
                  subst hx
                  subst hy
                  have e3 := optD_uniq a3 b3
                  cases a1
                  cases b1
                  rw [e3]
theorem pk_some {h : Heap} {ps : List (Int × Option Int)} {v : Value} {p : Int × Option Int} {as : List Addr} (hp : p ∈ ps) (r : Reads h v (pkey p) as) : (dataKind h (ps.map pkey)).keyOf v = some (keyToks (pkey p)) := by
  have q : ∃ d, d ∈ ps.map pkey ∧ ∃ as, Reads h v d as := ⟨_, List.mem_map.mpr ⟨p, hp, rfl⟩, as, r⟩
  have e : (dataKind h (ps.map pkey)).keyOf v = some (keyToks q.choose) := by
    show (open Classical in if q : ∃ d, d ∈ ps.map pkey ∧ ∃ as, Reads h v d as then some (keyToks q.choose) else none) = _
    rw [dif_pos q]
  obtain ⟨h1, as', h2⟩ := q.choose_spec
  rw [e]
  obtain ⟨p', _, ep⟩ := List.mem_map.mp h1
  rw [← ep] at h2 ⊢
  rw [pkey_uniq h2 r]
/-- place by place alike, up to the first that differs -/
def alikeLex : List PyData → List PyData → Prop
  | x :: xs, y :: ys => alike x y = true ∧ (PyData.eqv x y = true → alikeLex xs ys)
  | _, _ => True
theorem pkey_lex (p q : Int × Option Int) : alikeLex [.int p.1, .bool p.2.isNone, optD p.2] [.int q.1, .bool q.2.isNone, optD q.2] := by
  refine ⟨rfl, fun _ => ⟨rfl, fun e => ⟨?_, fun _ => trivial⟩⟩⟩
  obtain ⟨b, o⟩ := p
  obtain ⟨c, u⟩ := q
  cases o <;> cases u <;> first | rfl | (exact absurd e (by simp [PyData.eqv]))
section
variable {prog : Program} {w : World} {A : Around} {s : Shared}
theorem katLex_lex {b fin : Bool} {Q : Bool → Shared → Prop} : ∀ (xs ys : List PyData) (i : Nat) (vs ws : List Value) (as bs : List Addr), ReadsAll s.heap vs xs as → ReadsAll s.heap ws ys bs → alikeLex xs ys →
    A.units + min (PyData.depthAll xs) (PyData.depthAll ys) < cLine → (b = true → i = 0 → ∀ x r t, xs = x :: r → x ≠ .tuple t) → fin = decide (xs.length < ys.length) → Q (PyProof.Rows.lexLt itemOrd (keyToksAll xs) (keyToksAll ys)) s → KatLex prog w A b fin Q (vs.zip ws) i s
  | [], [], i, _, _, _, _, ra, rb, _, _, _, hf, hq => by
    cases ra
    cases rb
    have e : fin = false := by rw [hf]; rfl
    subst e
    rw [lex_irrefl] at hq
    exact kat_nil hq
  | [], y :: ys, i, _, _, _, _, ra, rb, _, _, _, hf, hq => by
    cases ra
    have e : fin = true := by rw [hf]; exact decide_eq_true (Nat.succ_pos _)
    subst e
    rw [toks_all_cons] at hq
    simp only [keyToksAll] at hq
    rw [lex_diff (O := itemOrd) (by simp)] at hq
    rw [List.zip_nil_left]
    exact kat_nil (by simpa [itemLt] using hq)
  | x :: xs, [], i, _, _, _, _, ra, rb, _, _, _, hf, hq => by
    cases rb
    have e : fin = false := by rw [hf]; exact decide_eq_false (Nat.not_lt_zero _)
    subst e
    rw [toks_all_cons] at hq
    simp only [keyToksAll] at hq
    rw [lex_diff (O := itemOrd) (by simp)] at hq
    rw [List.zip_nil_right]
    exact kat_nil (by simpa [itemLt] using hq)
  | x :: xs, y :: ys, i, _, _, _, _, ra, rb, h, hu, hb, hf, hq => by
    obtain ⟨h1, h2⟩ := h
    have hf' : fin = decide (xs.length < ys.length) := by
      rw [hf]
      simp only [List.length_cons, Nat.add_lt_add_iff_right]
    cases ra with
    | cons r rs =>
      cases rb with
      | cons r' rs' =>
        rw [List.zip_cons_cons]
        refine kat_cons (PySem.W.eqAt_alike x y A s _ _ _ _ r r' h1 (SeqAt.room_head hu) prog w _ _ ?_)
        cases hx : PyData.eqv x y with
        | true =>
          rw [dataLt_all_yes h1 hx] at hq
          exact kat_yes (katLex_lex xs ys (i + 1) _ _ _ _ rs rs' (h2 hx) (SeqAt.room_tail hu) (fun _ hi => absurd hi (Nat.succ_ne_zero i)) hf' hq)
        | false =>
          rw [dataLt_all_no h1 hx] at hq
          refine kat_no (oneLt_alike (fun hbi t => ?_) r r' h1 (ne_none_of h1 hx) (SeqAt.room_head hu) hq)
          rw [Bool.and_eq_true] at hbi
          exact hb hbi.1 (by simpa using hbi.2) x xs t rfl
theorem optD_depth (o : Option Int) : (optD o).depth = 0 := by
  cases o <;> rfl
theorem pkey_depth (p : Int × Option Int) : PyData.depthAll [.int p.1, .bool p.2.isNone, optD p.2] = 0 := by
  simp [PyData.depthAll, PyData.depth, optD_depth]
/-- such keys can be sorted -/
theorem sorts_pkeys {vs : List Value} {ps : List (Int × Option Int)} (e : EachIs (fun v p => ∃ as, Reads s.heap v (pkey p) as) vs ps) (hu : A.units + 2 < cLine) : SortsAt prog w A s (dataKind s.heap (ps.map pkey)) vs := by
  refine ⟨fun v hv => ?_, ?_⟩
  · obtain ⟨p, hp, as, r⟩ := e.left v hv
    exact ⟨_, pk_some hp r⟩
  · cases ps with
    | nil =>
      cases e
      exact ⟨general', fun E x y a b Q ha _ _ => (by
        obtain ⟨d, _, hd, _⟩ := dataKind_inv ha
        exact absurd hd (by simp)), fun h2 => absurd h2 (by simp)⟩
    | cons p₀ ps₀ =>
      refine ⟨tuples' (Value.type "int" != Value.type "tuple"), ?_, fun h2 E Q hq => ?_⟩
      · intro E x y a b Q ha hb hq
        obtain ⟨d, as, hd, ra, rfl⟩ := dataKind_inv ha
        obtain ⟨d', as', hd', rb, rfl⟩ := dataKind_inv hb
        obtain ⟨p, hp, rfl⟩ := List.mem_map.mp hd
        obtain ⟨q, hq2, rfl⟩ := List.mem_map.mp hd'
        have hq' : Q (dataLt (pkey p) (pkey q)) s := hq
        unfold pkey at hq' ra rb
        rw [dataLt_tuple] at hq'
        have lx := pkey_lex p q
        have dp := pkey_depth p
        generalize hX : ([.int p.1, .bool p.2.isNone, optD p.2] : List PyData) = X at ra hq' lx dp
        generalize hY : ([.int q.1, .bool q.2.isNone, optD q.2] : List PyData) = Y at rb hq' lx
        cases ra with
        | @tuple l o xs n _ _ h1 h2 h3 h4 =>
          cases rb with
          | @tuple l' o' xs' n' _ _ k1 k2 k3 k4 =>
            have n1 : xs.size = X.length := by simpa using SeqAt.ReadsAll.length _ _ _ h4
            have n2 : xs'.size = Y.length := by simpa using SeqAt.ReadsAll.length _ _ _ k4
            refine kat_lt h1 h3 k1 k3 (katLex_lex X Y 0 _ _ _ _ h4 k4 lx (by rw [dp]; omega) (fun hb _ x r t ex => ?_) (by rw [n1, n2]) hq')
            rw [← hX] at ex
            obtain ⟨rfl, rfl⟩ := List.cons.inj ex
            exact fun z => nomatch z
      · obtain ⟨fs, t1, t2, t3⟩ := each_katTups (ds := (p₀ :: ps₀).map pkey) (by
          have up : ∀ {vs : List Value} {ps : List (Int × Option Int)}, EachIs (fun v p => ∃ as, Reads s.heap v (pkey p) as) vs ps → EachIs (fun v d => ∃ as, Reads s.heap v d as) vs (ps.map pkey) := fun h => by
            induction h with
            | nil => exact .nil
            | cons a _ ih => exact .cons a ih
          exact up e) fun d hd => by
            obtain ⟨p, _, rfl⟩ := List.mem_map.mp hd
            exact ⟨_, _, rfl⟩
        refine kat_kind (T := Value.type "int") t1 (by omega) (fun f hf => ?_) (beq_self_eq_true _) hq
        obtain ⟨x, r, as, m1, m2⟩ := t3 f hf
        obtain ⟨p, _, ep⟩ := List.mem_map.mp m1
        unfold pkey at ep
        obtain ⟨rfl, _⟩ := List.cons.inj (PyData.tuple.inj ep)
        exact looks_reads m2
end
/-- the list that the sort leaves -/
def sortPk (ps : List (Int × Option Int)) : List (Int × Option Int) := ps.mergeSort (dataLe false pkey)
theorem each_sortPk {R : Value → Int × Option Int → Prop} {h : Heap} {ps : List (Int × Option Int)} {vs ks : List Value} (hk : EachIs (fun v p => ∃ as, Reads h v (pkey p) as) ks ps) (hR : EachIs R vs ps) :
    EachIs R (sortVals (dataKind h (ps.map pkey)) false ks vs) (sortPk ps) :=
  sortVals_each (κ := dataKind h (ps.map pkey)) (fun b => keyToks (pkey b)) hR ((each_mem hk).mono fun _ _ ⟨⟨_, r⟩, hd⟩ => pk_some hd r)
theorem optD_toks {o u : Option Int} (h : keyToks (optD o) = keyToks (optD u)) (hn : o.isNone = u.isNone) : o = u := by
  cases o <;> cases u
  · rfl
  · cases hn
  · cases hn
  · simp only [optD, keyToks] at h
    have := List.cons.inj h
    have := Sum.inl.inj this.1
    rw [this]
theorem pkey_toks {p q : Int × Option Int} (h : keyToks (pkey p) = keyToks (pkey q)) : p = q := by
  obtain ⟨b, o⟩ := p
  obtain ⟨c, u⟩ := q
  unfold pkey at h
  simp only [keyToks, keyToksAll] at h
  have h1 := List.cons.inj h
  have h2 := List.cons.inj h1.2
  have e1 : b = c := Sum.inl.inj h2.1
  have h3 := List.cons.inj h2.2
  have h4 := List.cons.inj h3.2
  have e2 : o.isNone = u.isNone := by
    have := Sum.inl.inj h4.1
    cases h5 : o.isNone <;> cases h6 : u.isNone <;> simp_all
  have h5 := List.cons.inj h4.2
  have h6 := List.append_cancel_right h5.2
  rw [e1, optD_toks h6 e2]
/-- the same pairs in any order are sorted alike -/
theorem sortPk_perm {ps qs : List (Int × Option Int)} (hp : ps.Perm qs) : sortPk ps = sortPk qs := by
  have T := sortLe_total (listOrd itemOrd) false fun b : Int × Option Int => keyToks (pkey b)
  have hs : ∀ l : List (Int × Option Int), (sortPk l).Pairwise fun a b => dataLe false pkey a b = true := fun l => List.pairwise_mergeSort (fun a b c h1 h2 => T.trans a b c h1 h2) (fun a b => by have := T.total a b; simpa using this) l
  refine List.Perm.eq_of_pairwise (le := fun a b => dataLe false pkey a b = true) (fun a b _ _ h1 h2 => ?_) (hs ps) (hs qs) ((List.mergeSort_perm ps _).trans (hp.trans (List.mergeSort_perm qs _).symm))
  have h1' : (!PyProof.Rows.lexLt itemOrd (keyToks (pkey b)) (keyToks (pkey a))) = true := h1
  have h2' : (!PyProof.Rows.lexLt itemOrd (keyToks (pkey a)) (keyToks (pkey b))) = true := h2
  rw [Bool.not_eq_true'] at h1' h2'
  exact pkey_toks (lex_total _ _ h2' h1')
theorem sortPk_of (ps : List (Int × Option Int)) : (sortPk ps).Perm ps := List.mergeSort_perm ps _
section
variable {X : Cx} {k : Nat} {f : Addr} {fd : FuncData} {ps : List Str} {sp : Sp}
/-- a def that raises nothing, called somewhere below -/
theorem run_fn0 {A : Around} {pins : List (Addr × Obj)} {σ : L2.St} {H : Hp} {s : Shared} {Q : VK} {us : List Value} {vs : List V} {E' : Value → Shared → Prop} (F : FnOk X.prog X.w X.K X.mg X.base CX0 k f fd ps sp) (sb : Sub X k A) (hb : Binds X.K fd ps [])
    (I : Inv X pins σ H s) (r : Vals vs us) (h : sp vs H Q E0) : wpAny (model X.prog X.w) A (call (.ref f) us) (EP X pins σ Q) E' s := by
  have e0 : Env0 X.prog X.w X.K X.mg X.base A X.stack s H := by
    have e := I.env0
    exact ⟨by rw [sb.fr]; exact e.frames, e.mod, e.bs, e.bsz, e.funs, e.frf, e.hok, e.bare⟩
  have hl : us.length = ps.length := by rw [← r.length]; exact F.len _ _ _ _ h
  refine wpAny_call (codeAny_mono (F.run A X.stack s H ⟨us, []⟩ us vs Q E0 sb.room e0 (by
    have := hb s us I.kIn (by simpa using hl)
    simpa using this) r h) fun r s' hq => ?_)
  cases r with
  | error e => exact False.elim hq
  | ok fl =>
    cases fl with
    | ret w => exact I.after hq
    | next => exact False.elim hq
    | brk => exact False.elim hq
    | cont => exact False.elim hq
/-- an address that is new is apart from all that the context names -/
theorem new_apart {pins : List (Addr × Obj)} {σ : L2.St} {H : Hp} {s : Shared} {n : Addr} (I : Inv X pins σ H s) (h : s.heap.objs.size ≤ n) :
    (n ∈ X.ex ∨ X.s_0.heap.objs.size ≤ n) ∧ n ≠ X.env.locals ∧ (∀ x c, X.env.cells.lookup x = some c → c ≠ n) ∧ (∀ p ∈ X.pn ++ pins, p.1 ≠ n) ∧ n ∉ X.fs := by
  have no : ∀ {m : Addr}, m < s.heap.objs.size → m ≠ n := fun h1 z => Nat.lt_irrefl _ (Nat.lt_of_lt_of_le (z ▸ h1) h)
  refine ⟨.inr (Nat.le_trans I.sz h), fun e => no I.lt e.symm, fun x c e => ?_, fun p hp => no (Heap.lt_size (I.pin p hp).1), I.nofs h⟩
  obtain ⟨v, o, ho, _⟩ := I.cell x c e
  exact no (Heap.lt_size ho)
def pairV (p : Int × Option Int) : HO := .tup [.int p.1, .bl p.2.isNone, optV p.2]
theorem reads_pairV {H : Hp} {h : Heap} {P : Program} {w : World} {t : Addr} {p : Int × Option Int} (x : ObjOk P w H h t (pairV p)) : Reads h (.ref t) (pkey p) [] := by
  obtain ⟨_, its, rv, o, e1, e2, e3⟩ := x
  cases rv with
  | cons a1 r1 =>
    cases r1 with
    | cons a2 r2 =>
      cases r2 with
      | cons a3 r3 =>
        cases r3
        obtain ⟨t1, rfl⟩ := a1
        cases a2
        obtain ⟨n3, e3⟩ := e3
        obtain ⟨b, o⟩ := p
        have h3 : ∀ u, RelV (optV o) u → Reads h u (optD o) [] := fun u a3 => by
          cases o with
          | none =>
            cases a3
            exact .none
          | some d =>
            obtain ⟨t3, rfl⟩ := a3
            exact .int _ _
        exact .tuple e1 e2 e3 (.cons (.int _ _) (.cons (.bool _) (.cons (h3 _ a3) .nil)))
end
section
variable {X : Cx} {k : Nat} {f : Addr} {fd : FuncData} {nm : Str} {sp : Sp}
/-- sorted(pairs, key=f): f told by its promise -/
theorem sortedKeyI {pins : List (Addr × Obj)} {σ : L2.St} {H : Hp} {s : Shared} {Q : VK} {p0 : Addr} {ps : List (Int × Option Int)} {vs : List V} {S : V → Int × Option Int → Prop} {v0 : Value} (I : Inv X pins σ H s)
    (hl : SqL X.K H p0 vs) (hlen : vs.length = ps.length) (hS : ∀ (i : Nat) v p, vs[i]? = some v → ps[i]? = some p → S v p)
    (F : FnOk X.prog X.w X.K X.mg X.base CX0 k f fd [nm] sp) (hr : Room (k + 2) X.A) (hb : Binds X.K fd [nm] [])
    (hsp : ∀ v p H' Q', S v p → Same H H' → (∀ t H2, Same H' H2 → H' t = none → H2 t = some (pairV p) → Q' (.ref t) H2) → sp [v] H' Q' E0)
    (q : ∀ H' (r : Addr) (us : List V), Same H H' → H r = none → H' r = some (.lst us) → us.length = ps.length → (∀ (i : Nat) v p, us[i]? = some v → (sortPk ps)[i]? = some p → S v p) → Q (.ref r) H') :
    wpAny (model X.prog X.w) X.A (call (.builtin "sorted") [.ref p0] [(Str.ofString "key", .ref f)]) (EP X pins σ Q) X.xe s := by
  obtain ⟨its, rv, pl, hz⟩ := I.list hl
  have hil : its.length = ps.length := rv.length.symm.trans hlen
  have hz2 : its.length ≤ sizeLine := by rw [← rv.length]; exact hz
  refine sorted_of_sort pl.isList hz2 (ksk_s1 _ _) (fun _ => ksk_l1 _ _) fun E' => ?_
  rw [ksk_t1]
  have ho := copyHeap_at s.heap its
  generalize hg : copyHeap s.heap its = g at ho
  have kg : ∀ b o, s.heap.get? b = some o → g.get? b = some o := fun b o e => by rw [← hg]; exact copyHeap_old e
  generalize ha : s.heap.objs.size + 1 = a at ho ⊢
  have haS : s.heap.objs.size ≤ a := by rw [← ha]; exact Nat.le_succ _
  have hag : a < g.objs.size := Heap.lt_size ho
  obtain ⟨e1, ho1⟩ : ∃ e1, (g.update a (Obj.mapSeq fun _ => (#[] : Array Value))).get? a = some (seqObj "list" #[] e1) := ⟨_, get?_update_seq ho fun _ => #[]⟩
  have hkS : ((g.update a (Obj.mapSeq fun _ => (#[] : Array Value))).push (seqObj "tuple" its.toArray 0)).objs.size = g.objs.size + 1 := by rw [size_push', Heap.size_update]
  unfold ksk_tree
  refine wpAny_bind (listItems_at ho rfl ?_)
  refine wpAny_bind (listUpdate_at ho rfl ?_ (by rw [List.size_toArray]; exact hz2) (Nat.zero_le _))
  refine wpAny_bind (seqEpoch_at ho1 rfl ?_)
  refine wpAny_bind (wpAny_newTuple ?_ (by show its.length ≤ _; exact hz2))
  refine wpAny_bind (wpAny_newList ?_ (Nat.zero_le _))
  refine wpAny_holding ?_
  have neA : ∀ {b : Addr} {o : Obj}, s.heap.get? b = some o → b ≠ a := fun e z => Nat.lt_irrefl _ (Nat.lt_of_lt_of_le (z ▸ Heap.lt_size e) haS)
  have kG : ∀ b o, s.heap.get? b = some o → (sortingHeap g a its).get? b = some o := fun b o e => sortingHeap_old (neA e) (kg b o e)
  have gS : (sortingHeap g a its).get? ((g.update a (Obj.mapSeq fun _ => (#[] : Array Value))).push (seqObj "tuple" its.toArray 0)).objs.size = some (seqObj "list" #[] 0) := Heap.get?_push_size _ rfl
  have gA : (sortingHeap g a its).get? a = some (seqObj "list" #[] e1) := Heap.get?_push_of_some _ (Heap.get?_push_of_some _ ho1)
  show wpAny _ _ (ksk_rest a (.ref f) false its.toArray _ (.ref _)) _ _ { s with heap := sortingHeap g a its }
  generalize hkk : ((g.update a (Obj.mapSeq fun _ => (#[] : Array Value))).push (seqObj "tuple" its.toArray 0)).objs.size = kS at gS
  have hka : kS ≠ a := by rw [← hkk, hkS]; omega
  have hSS : s.heap.objs.size ≤ kS := by
    rw [← hkk, hkS]
    omega
  generalize hG : sortingHeap g a its = G at kG gS gA
  have I1 : Inv X pins σ H { s with heap := G } := I.un (t' := s.toks) (Un.kept kG) (I.hok.kept kG)
  have na : H a = none := I.hok.fresh haS
  have nS : H kS = none := I.hok.fresh hSS
  have apA := new_apart I haS
  have apS := new_apart I hSS
  unfold ksk_rest
  refine wpAny_bind (wpAny_rule ?_)
  first
    | rw [List.forIn_toArray]
    | (rw [← Array.forIn_toList]; simp only [List.toList_toArray])
    | rw [← Array.forIn_toList]
  refine wpAny_bind (ksk_fold (fun i s' => ∃ H' kA e, Inv X pins σ H' s' ∧ Same H H' ∧ H' a = none ∧ H' kS = none ∧ s'.heap.get? kS = some (seqObj "list" kA e) ∧ s'.heap.get? a = some (seqObj "list" #[] e1) ∧
      ∃ ts : List Addr, kA.toList = ts.map Value.ref ∧ ts.length = i ∧ ∀ (j : Nat) t p, ts[j]? = some t → ps[j]? = some p → H' t = some (pairV p)) its 0 _
    ⟨H, #[], 0, I1, Same.refl _, na, nS, gS, gA, [], rfl, rfl, fun j t p h => by simp at h⟩ ?step ?done)
  case step =>
    rintro j x s' hx ⟨H', kA, e, I', sH, na', nS', gS', gA', ts, hts, htl, htp⟩
    simp only [Nat.zero_add] at htl ⊢
    have hj : j < its.length := (List.getElem?_eq_some_iff.mp hx).1
    obtain ⟨p, hp⟩ : ∃ p, ps[j]? = some p := ⟨_, List.getElem?_eq_getElem (by omega)⟩
    obtain ⟨v, hv, rvx⟩ : ∃ v, vs[j]? = some v ∧ RelV v x := by
      have hjv : j < vs.length := by rw [rv.length]; exact hj
      obtain ⟨u, hu, ru⟩ := rv.get (List.getElem?_eq_getElem hjv)
      rw [hx] at hu
      exact ⟨_, List.getElem?_eq_getElem hjv, Option.some.inj hu ▸ ru⟩
    have hkl : kA.size = j := by
      have h1 := congrArg List.length hts
      rw [Array.length_toList, List.length_map] at h1
      omega
    have I2 : Inv X ((kS, seqObj "list" kA e) :: (a, seqObj "list" #[] e1) :: pins) σ H' s' := I'.pins_of fun y hy => by
      rcases List.mem_cons.mp hy with rfl | hy
      · exact ⟨gS', nS', apS.2.1, apS.2.2.2.2, fun v z => by cases z⟩
      · rcases List.mem_cons.mp hy with rfl | hy
        · exact ⟨gA', na', apA.2.1, apA.2.2.2.2, fun v z => by cases z⟩
        · exact I'.pin y (List.mem_append_right _ hy)
    have sb : Sub X k X.A.in1.in1 := (Sub.in1 (Sub.in1 (n := k + 1) ⟨hr, rfl⟩))
    refine wpAny_bind (wpAny_attempt (wpAny_mono (run_fn0 (E' := fun _ _ => False) F sb hb I2 (.cons rvx .nil) (hsp v p H' (fun z H2 => ∃ t, z = .ref t ∧ Same H' H2 ∧ H' t = none ∧ H2 t = some (pairV p)) (hS j v p hv hp) sH fun t H2 a1 a2 a3 => ⟨t, rfl, a1, a2, a3⟩)) (fun u s'' he => ?_) fun _ _ hF => hF.elim))
    obtain ⟨z, H2, I3, rz, t, rfl, s2, nt, et⟩ := he
    cases (show u = Value.ref t from rz)
    try dsimp only
    obtain ⟨gS2, nS2, _⟩ := I3.pin (kS, seqObj "list" kA e) (List.mem_append_right _ List.mem_cons_self)
    obtain ⟨gA2, na2, _⟩ := I3.pin (a, seqObj "list" #[] e1) (List.mem_append_right _ (List.mem_cons_of_mem _ List.mem_cons_self))
    have I4 : Inv X pins σ H2 s'' := I3.pins_of fun y hy => I3.pin y (List.mem_append_right _ (List.mem_cons_of_mem _ (List.mem_cons_of_mem _ hy)))
    have s1 := Heap.SameBut.update s''.heap kS (Obj.mapSeq (·.push (Value.ref t)))
    obtain ⟨c2, hc2⟩ : ∃ c2, (s''.heap.update kS (Obj.mapSeq (·.push (Value.ref t)))).get? kS = some (seqObj "list" (kA.push (Value.ref t)) c2) := ⟨_, get?_update_seq gS2 (·.push (Value.ref t))⟩
    have hzk : kA.size ≤ sizeLine := by omega
    refine wpAny_bind (listUpdate_at gS2 rfl ?_ hzk (Nat.le_trans (Nat.le_of_eq (Array.size_push ..)) (Nat.succ_le_succ hzk)))
    have I5 : Inv X pins σ H2 { s'' with heap := s''.heap.update kS (Obj.mapSeq (·.push (Value.ref t))) } := I4.turned (t' := s''.toks) (it := kS) (fun b o hb e => (s1.2 b hb).trans e) nS2 apS.2.1 apS.1 apS.2.2.1 apS.2.2.2.1
    refine wpAny_pure ⟨rfl, H2, kA.push (Value.ref t), c2, I5, sH.trans s2, na2, nS2, hc2, (s1.2 a hka.symm).trans gA2, ts ++ [t], by rw [Array.toList_push, hts, List.map_append]; rfl, by rw [List.length_append, htl]; rfl, fun i t' p' h1 h2 => ?_⟩
    rcases Nat.lt_or_ge i ts.length with hi | hi
    · rw [List.getElem?_append_left hi] at h1
      exact s2 _ _ (htp i t' p' h1 h2)
    · rw [List.getElem?_append_right hi] at h1
      cases hk0 : i - ts.length with
      | zero =>
        rw [hk0] at h1
        have hij : i = j := by omega
        rw [hij, hp] at h2
        cases h1
        cases h2
        exact et
      | succ n =>
        rw [hk0] at h1
        simp at h1
  case done =>
    rintro s' ⟨H', kA, e, I', sH, na', nS', gS', gA', ts, hts, htl, htp⟩
    have htl2 : ts.length = ps.length := by omega
    have hkl : kA.size = its.length := by
      have h1 := congrArg List.length hts
      rw [Array.length_toList, List.length_map] at h1
      omega
    try dsimp only
    refine wpAny_bind (listItems_at gS' rfl ?_)
    have hks : EachIs (fun u p => ∃ as, Reads s'.heap u (pkey p) as) kA.toList ps := by
      rw [hts]
      have go : ∀ (ts : List Addr) (ps : List (Int × Option Int)), ts.length = ps.length → (∀ (j : Nat) t p, ts[j]? = some t → ps[j]? = some p → H' t = some (pairV p)) → EachIs (fun u p => ∃ as, Reads s'.heap u (pkey p) as) (ts.map Value.ref) ps := by
        intro ts
        induction ts with
        | nil =>
          intro ps hl _
          cases ps with
          | nil => exact .nil
          | cons _ _ => cases hl
        | cons t ts ih =>
          intro ps hl h
          cases ps with
          | nil => cases hl
          | cons p ps => exact .cons ⟨[], reads_pairV (I'.hok t _ (h 0 t p rfl rfl))⟩ (ih ps (Nat.succ.inj hl) fun j t' p' h1 h2 => h (j + 1) t' p' h1 h2)
      exact go ts ps htl2 htp
    have hR : EachIs (fun (u : Value) (p : Int × Option Int) => ∃ v, RelV v u ∧ S v p) its ps := each_in2 (S := S) (fun v u p r h => ⟨v, r, h⟩) rv hlen hS
    have hu2 : X.A.in1.in1.units + 2 < cLine := by
      have := hr.in1.in1.un
      omega
    refine keyH_end (κ := dataKind s'.heap (ps.map pkey)) (h₁ := hideAll s'.heap [kS]) (fun b o _ e => of_hideAll _ e) (hideAll_none _ (List.mem_singleton.mpr rfl)) gS' gA' hka (sorts_pkeys hks hu2) (by rw [hkl]) hz2 fun h3 tk3 c k3 n3 => ?_
    have out := each_sortPk hks hR
    obtain ⟨us, ru, hul, hus⟩ := each_out (S := fun v _ p => S v p) (fun u p h => by
      obtain ⟨v, h1, h2⟩ := h
      exact ⟨v, h2, h1⟩) out
    have hln : (sortPk ps).length = ps.length := (sortPk_of ps).length_eq
    have hz3 : us.length ≤ sizeLine := by rw [hul, hln]; omega
    have k4 : ∀ b o, b ≠ kS → b ≠ a → s'.heap.get? b = some o → h3.get? b = some o := fun b o h1 h2 e => k3 b o h2 (hideAll_get _ e fun z => h1 (List.mem_singleton.mp z))
    have neT : ∀ {b : Addr} {o : HO}, H' b = some o → b ≠ kS ∧ b ≠ a := fun {b} {o} e => by
      constructor
      · intro z
        rw [z, nS'] at e
        cases e
      · intro z
        rw [z, na'] at e
        cases e
    have I6 : Inv X pins σ (upd H' a (.lst us)) { s' with heap := h3, toks := tk3 } := by
      refine I'.step (g' := s'.gens) (d' := s'.drawn) (ch := [kS, a]) (fun b hb => ?_) (fun b o _ _ hc e _ => k4 b o (fun z => hc (by simp [z])) (fun z => hc (by simp [z])) e) (fun b o _ _ hc e _ => ⟨o.slots, k4 b o (fun z => hc (by simp [z])) (fun z => hc (by simp [z])) e⟩)
        (fun b o hc _ n => by rw [upd_ne (fun z => hc (by simp [z]))]; exact n) (fun b o hc e => ⟨o, k4 b o (fun z => hc (by simp [z])) (fun z => hc (by simp [z])) e⟩)
        (fun b xs e => by rw [upd_ne (neT e).2]; exact e) (fun b o u e => by rw [upd_ne (neT e).2]; exact e) (fun b qs e => ⟨#[], by rw [upd_ne (neT e).2, e]; simp⟩) (fun m hm => ?_) (fun b o e => ?_) I'.bare
      · rcases List.mem_cons.mp hb with rfl | hb
        · exact ⟨apS.1, apS.2.1, apS.2.2.1, apS.2.2.2.1⟩
        · rw [List.mem_singleton.mp hb]
          exact ⟨apA.1, apA.2.1, apA.2.2.1, apA.2.2.2.1⟩
      · obtain ⟨o, es, ep, ho, r⟩ := hm
        exact ⟨o, es, ep, k4 _ o (Ne.symm apS.2.1) (Ne.symm apA.2.1) ho, r⟩
      · by_cases hb : b = a
        · subst hb
          rw [upd_same] at e
          cases e
          exact ⟨hz3, _, c, ru, n3⟩
        · rw [upd_ne hb] at e
          refine (I'.hok b o e).stay (fun d v hd r => ?_) (fun d r => by rw [upd_ne (neT r).2]; exact r) fun d xs r => by rw [upd_ne (neT r).2]; exact r
          have hd2 : d ≠ kS ∧ d ≠ a := by
            rcases hd with rfl | hd
            · exact neT e
            · exact neT hd
          exact k4 d v hd2.1 hd2.2 r
    refine ⟨rfl, .ref a, _, I6, rfl, q _ a us (fun b o e => ?_) na upd_same (by rw [hul, hln]) fun i v p h1 h2 => ?_⟩
    · rw [upd_ne (fun z => by rw [z, na] at e; cases e)]
      exact sH _ _ e
    · obtain ⟨u, hu, _⟩ := ru.get h1
      exact hus i v u p h1 hu h2
/-- sorted(e, key=g), g a def of the program, told by its promise sp -/
def tSortKey (K : PySem.W.Frag) (sp : Sp) (t : TA) : TE := fun σ H Q => t σ H fun xs H1 => ∃ (p0 : Addr) (vs : List V) (ps : List (Int × Option Int)) (S : V → Int × Option Int → Prop), xs = [.ref p0] ∧ SqL K H1 p0 vs ∧ vs.length = ps.length ∧
  (∀ (i : Nat) v p, vs[i]? = some v → ps[i]? = some p → S v p) ∧
  (∀ v p H' Q', S v p → Same H1 H' → (∀ t H2, Same H' H2 → H' t = none → H2 t = some (pairV p) → Q' (.ref t) H2) → sp [v] H' Q' E0) ∧
  ∀ H' (r : Addr) (us : List V), Same H1 H' → H1 r = none → H' r = some (.lst us) → us.length = ps.length → (∀ (i : Nat) v p, us[i]? = some v → (sortPk ps)[i]? = some p → S v p) → Q (.ref r) H'
theorem pe_sortKey {x g : Str} {e : Expr} {t : TA} {p gp kp pos : Pos} (M : Cal X.prog X.w X.K X.mg X.base g k [nm] sp) (hr : Room (k + 2) X.A) (hgg : Gl X g) (hg : Gl X x) (hm : X.mg x = none) (hv : bootBuiltins x = some (.builtin "sorted")) (ha : PA X [e] t)
    (hgd : (g == ("__debug__" : Str)) = false := by decide) (hn : x ≠ "__name__" := by decide) (hdb : (x == ("__debug__" : Str)) = false := by decide)
    (he : backTo pos (starEach [e] X.env) = (false, eval e X.env) :: backTo pos (starEach [] X.env) := by rfl) (hpl : (backTo pos (starEach [e] X.env)).any (·.1) = false := by rfl) :
    PE X (.Call (.Name x p) [e] [⟨some "key", .Name g gp, kp⟩] pos) (tSortKey X.K sp t) := by
  obtain ⟨f, fd, F, hmg, hk, b⟩ := M.ex
  refine ⟨fun pins s σ H Q I h => ?_⟩
  refine wpAny_Call_Name_kw (ld_blt I hg hm hv ?_ hn hdb)
  refine PyProof.Rows.callWith_kw (thn (ha.run pos pins s σ H _ I h) fun us s1 ⟨xs, H1, I1, r1, q1⟩ => ?_) he hpl (by rfl) (by rfl)
  have hkw : PK X [⟨some "key", .Name g gp, kp⟩] (tCons (tC (.ref f)) tNil) := pk_cons (pe_glob (v := .ref f) hgg hmg (by rfl) hgd) pk_nil
  refine thn (hkw.run pos pins s1 σ H1 (fun zs H2 => zs = [.ref f] ∧ H2 = H1) I1 ⟨rfl, rfl⟩) fun ws s2 ⟨zs, H2, I2, r2, ez, eH⟩ => ?_
  subst ez
  subst eH
  obtain ⟨p0, vs, ps, S, rfl, h1, h2, h3, h4, h5⟩ := q1
  rw [Vals.ref1 r1, Vals.ref1 r2]
  exact sortedKeyI (v0 := .none) I2 h1 h2 h3 F hr b h4 h5
end
end L9

/-! pairs of births and deaths; the first surplus -/
namespace L9
open PySem PySem.Spec PyProof.Rows L2
/-- tuples (birth, death), item by item -/
structure PairAll (H : Hp) (us : List V) (ps : List (Int × Option Int)) : Prop where
  len : us.length = ps.length
  at_ : ∀ (i : Nat) v p, us[i]? = some v → ps[i]? = some p → ∃ t, v = .ref t ∧ H t = some (.tup [.int p.1, optV p.2])
theorem PairAll.nil {H : Hp} : PairAll H [] [] := ⟨rfl, fun i v z h => by simp at h⟩
theorem PairAll.same {H H' : Hp} {us : List V} {ps : List (Int × Option Int)} (s : Same H H') (h : PairAll H us ps) : PairAll H' us ps := ⟨h.len, fun i v z e1 e2 => by
  obtain ⟨p, a, b⟩ := h.at_ i v z e1 e2
  exact ⟨p, a, s _ _ b⟩⟩
theorem PairAll.upd {H : Hp} {D : Addr} {ys : List V} {ob : HO} {us : List V} {ps : List (Int × Option Int)} (eD : H D = some (.lst ys)) (h : PairAll H us ps) : PairAll (L2.upd H D ob) us ps := ⟨h.len, fun i v z e1 e2 => by
  obtain ⟨p, a, b⟩ := h.at_ i v z e1 e2
  refine ⟨p, a, (upd_ne fun e => ?_).trans b⟩
  rw [e, eD] at b
  cases b⟩
theorem PairAll.app {H : Hp} {us : List V} {ps : List (Int × Option Int)} {v : V} {z : Int × Option Int} (h : PairAll H us ps) (hv : ∃ p, v = .ref p ∧ H p = some (.tup [.int z.1, optV z.2])) : PairAll H (us ++ [v]) (ps ++ [z]) := by
  refine ⟨by simp [h.len], fun i v' z' e1 e2 => ?_⟩
  rcases Nat.lt_or_ge i us.length with hi | hi
  · rw [List.getElem?_append_left hi] at e1
    rw [List.getElem?_append_left (by rw [← h.len]; exact hi)] at e2
    exact h.at_ i v' z' e1 e2
  · rw [List.getElem?_append_right hi] at e1
    rw [List.getElem?_append_right (by rw [← h.len]; exact hi), ← h.len] at e2
    cases hk : i - us.length with
    | zero =>
      rw [hk] at e1 e2
      cases e1
      cases e2
      exact hv
    | succ k => rw [hk] at e1; simp at e1
theorem PairAll.get {H : Hp} {us : List V} {ps : List (Int × Option Int)} {i : Nat} {v : V} (h : PairAll H us ps) (e : us[i]? = some v) : ∃ p t, ps[i]? = some p ∧ v = .ref t ∧ H t = some (.tup [.int p.1, optV p.2]) := by
  have hi : i < ps.length := by
    rw [← h.len]
    exact (List.getElem?_eq_some_iff.mp e).1
  obtain ⟨t, h1, h2⟩ := h.at_ i v _ e (List.getElem?_eq_getElem hi)
  exact ⟨_, t, List.getElem?_eq_getElem hi, h1, h2⟩
/-! ### ints in order -/
def sortI (xs : List Int) : List Int := xs.mergeSort fun a b => decide (a ≤ b)
theorem sortI_uniq {xs ys : List Int} (hp : ys.Perm xs) (hs : ys.Pairwise (· ≤ ·)) : ys = sortI xs := by
  refine List.Perm.eq_of_pairwise (le := (· ≤ ·)) (fun a b _ _ h1 h2 => Int.le_antisymm h1 h2) hs ?_ (hp.trans (List.mergeSort_perm xs _).symm)
  have := List.pairwise_mergeSort (le := fun a b : Int => decide (a ≤ b)) (fun a b c h1 h2 => decide_eq_true (Int.le_trans (of_decide_eq_true h1) (of_decide_eq_true h2))) (fun a b => by have := Int.le_total a b; simpa using this) xs
  exact this.imp fun h => of_decide_eq_true h
theorem sortI_len (xs : List Int) : (sortI xs).length = xs.length := List.length_mergeSort _
def birthsL (ps : List (Int × Option Int)) (l : Int) : List Int := (ps.filter (livP l l)).map (·.1)
def turnL (ps : List (Int × Option Int)) : List Int := ps.map (·.1) ++ ps.filterMap (·.2)
def firstS : List Int → List Int → Option Int
  | x :: xs, y :: ys => if x < y then some x else firstS xs ys
  | x :: _, [] => some x
  | [], _ => none
def surpL (ps qs : List (Int × Option Int)) : Option (Int × Int) := (sortI (turnL ps ++ turnL qs)).findSome? fun h => (firstS (sortI (birthsL ps h)) (sortI (birthsL qs h))).map fun l => (l, h)
theorem firstS_self : ∀ xs : List Int, firstS xs xs = none
  | [] => rfl
  | x :: xs => by
    unfold firstS
    rw [if_neg (by omega)]
    exact firstS_self xs
theorem surpL_self (ps : List (Int × Option Int)) : surpL ps ps = none := by
  unfold surpL
  rw [List.findSome?_eq_none_iff]
  intro h _
  rw [firstS_self]
  rfl
theorem firstS_take (xs ys : List Int) : ∀ (i : Nat), (∀ j, j < i → ∀ x, xs[j]? = some x → ∃ y, ys[j]? = some y ∧ ¬ x < y) → firstS xs ys = firstS (xs.drop i) (ys.drop i)
  | 0, _ => rfl
  | i + 1, h => by
    cases xs with
    | nil => simp [firstS]
    | cons x xs =>
      obtain ⟨y, hy, hxy⟩ := h 0 (Nat.succ_pos _) x rfl
      cases ys with
      | nil => cases hy
      | cons y' ys =>
        cases hy
        rw [List.drop_succ_cons, List.drop_succ_cons]
        rw [← firstS_take xs ys i fun j hj x hx => h (j + 1) (Nat.succ_lt_succ hj) x hx]
        show (if x < y then some x else firstS xs ys) = _
        rw [if_neg hxy]
theorem findSome_at {α β : Type} {f : α → Option β} {b : β} : ∀ {xs : List α} {i : Nat} {x : α}, xs[i]? = some x → f x = some b → (∀ j, j < i → ∀ y, xs[j]? = some y → f y = none) → xs.findSome? f = some b
  | [], _, _, h, _, _ => nomatch h
  | y :: xs, 0, x, h, hf, _ => by
    cases h
    rw [List.findSome?_cons, hf]
  | y :: xs, i + 1, x, h, hf, hn => by
    rw [List.findSome?_cons, hn 0 (Nat.succ_pos _) y rfl]
    exact findSome_at (xs := xs) (i := i) h hf fun j hj z hz => hn (j + 1) (Nat.succ_lt_succ hj) z hz
/-! ### the promises -/
def spPairO : Sp := fun vs H Q _ => ∃ (t : Addr) (p : Int × Option Int), vs = [.ref t] ∧ H t = some (.tup [.int p.1, optV p.2]) ∧ ∀ t2 H2, Same H H2 → H t2 = none → H2 t2 = some (pairV p) → Q (.ref t2) H2
def spSortedP : Sp := fun vs H Q _ => ∃ (r : Addr) (us : List V) (ps : List (Int × Option Int)), vs = [.ref r] ∧ H r = some (.lst us) ∧ PairAll H us ps ∧
  ∀ (p : Addr) (H' : Hp) (ws : List V), Same H H' → H p = none → H' p = some (.lst ws) → PairAll H' ws (sortPk ps) → Q (.ref p) H'
def spPairsOf : Sp := fun vs H Q _ => ∃ (r : Addr) (us : List V) (hs : List (Str × Int × Option Int)), vs = [.ref r] ∧ H r = some (.lst us) ∧ HolAll H us hs ∧ hs.length ≤ 60 ∧
  ∀ (p : Addr) (H' : Hp) (ws : List V), Same H H' → H p = none → H' p = some (.lst ws) → PairAll H' ws (sortPk (hs.map keyD)) → Q (.ref p) H'
def spBirths : Sp := fun vs H Q _ => ∃ (r : Addr) (l : Int) (us : List V) (ps : List (Int × Option Int)), vs = [.ref r, .int l] ∧ H r = some (.lst us) ∧ PairAll H us ps ∧ ps.length ≤ 1000 ∧
  ∀ (p : Addr) (H' : Hp), Same H H' → H p = none → H' p = some (.lst ((sortI (birthsL ps l)).map V.int)) → Q (.ref p) H'
def spTurn : Sp := fun vs H Q _ => ∃ (r : Addr) (us : List V) (ps : List (Int × Option Int)), vs = [.ref r] ∧ H r = some (.lst us) ∧ PairAll H us ps ∧ ps.length ≤ 1000 ∧
  ∀ (p : Addr) (H' : Hp), Same H H' → H p = none → H' p = some (.lst ((turnL ps).map V.int)) → Q (.ref p) H'
def spFirstS : Sp := fun vs H Q _ => ∃ (a b : Addr) (xs ys : List Int), vs = [.ref a, .ref b] ∧ H a = some (.lst (xs.map V.int)) ∧ H b = some (.lst (ys.map V.int)) ∧ ∀ H', Same H H' → Q (optV (firstS xs ys)) H'
def spSurpL : Sp := fun vs H Q _ => ∃ (a b : Addr) (us ws : List V) (ps qs : List (Int × Option Int)), vs = [.ref a, .ref b] ∧ H a = some (.lst us) ∧ H b = some (.lst ws) ∧ PairAll H us ps ∧ PairAll H ws qs ∧ ps.length ≤ 1000 ∧ qs.length ≤ 1000 ∧
  (surpL ps qs = none → ∀ H', Same H H' → Q .non H') ∧ ∀ l h, surpL ps qs = some (l, h) → ∀ t H', Same H H' → H t = none → H' t = some (.tup [.int l, .int h]) → Q (.ref t) H'
end L9

/-! charts compared; the hollows of a land; calm lands told -/
namespace L9
open PySem PySem.Spec PyProof.Rows L2
def spBEq (CB : Addr) : Sp := fun vs H Q _ => ∃ (p q : Addr) (l h l2 h2 : Int), vs = [.ref p, .ref q] ∧ BndAt CB H p l h ∧ BndAt CB H q l2 h2 ∧ Q (.bl (decide (l = l2) && decide (h = h2))) H
/-- two Bounds, equal or not -/
def DBnd (CB : Addr) : V → V → Bool → Hp → Prop := fun x y b H => ∃ (p q : Addr) (l h l2 h2 : Int), x = .ref p ∧ y = .ref q ∧ BndAt CB H p l h ∧ BndAt CB H q l2 h2 ∧ b = (decide (l = l2) && decide (h = h2))
theorem bnd_valEq {X : Cx} {CB : Addr} {k : Nat} (M : OCal X.prog X.w X.K X.mg X.base CB "__eq__" k ["self", "other"] (spBEq CB)) : ValEq X k (DBnd CB) := by
  refine M.valEq fun x y b H d => ?_
  obtain ⟨p, q, l, h, l2, h2, rfl, rfl, hp, hq, rfl⟩ := d
  obtain ⟨dx, e1⟩ := id hp
  obtain ⟨dy, e2⟩ := id hq
  refine ⟨p, q, dx, dy, _, _, rfl, rfl, e1, e2, fun e => ?_, p, q, l, h, l2, h2, rfl, hp, hq, rfl, rfl⟩
  subst e
  rw [e1] at e2
  have e3 := (HO.ins.inj (Option.some.inj e2)).2.2
  unfold bf at e3
  injection e3 with a1 a2
  injection a1 with _ a1
  injection a2 with a3 _
  injection a3 with _ a3
  injection a1 with a1
  injection a3 with a3
  subst a1
  subst a3
  simp
/-- charts that are told alike are equal -/
def spChEqq (C CB : Addr) : Sp := fun vs H Q _ => ∃ (p r : Addr) (c : Ch), vs = [.ref p, .ref r] ∧ ChAt C CB H p c ∧ ChAt C CB H r c ∧ c.Ok ∧ Q (.bl true) H
theorem OCal.neq {X : Cx} {C : Addr} {k : Nat} {ps : List Str} {sp : Sp} (M : OCal X.prog X.w X.K X.mg X.base C "__eq__" k ps sp) (hne : PySem.W.findIn X.K (.ref C) "__ne__" = some (some (.builtin "object.__ne__"))) (hm : PySem.W.mroIn X.K C (.type "object") = some true)
    (hr : Room (k + 1) X.A) : OpR X (compareOp .NotEq) (rNeO X.K C sp E0) := by
  obtain ⟨f, fd, G, hs, hf, hf2, b⟩ := M.ex
  exact op_neO (E := E0) hne hm hs hf G hr b pass0
theorem OCal.eqq {X : Cx} {C : Addr} {k : Nat} {ps : List Str} {sp : Sp} (M : OCal X.prog X.w X.K X.mg X.base C "__eq__" k ps sp) (hr : Room k X.A) : OpR X (compareOp .Eq) (rEqO X.K C sp E0) := by
  obtain ⟨f, fd, G, hs, hf, hf2, b⟩ := M.ex
  exact op_eqO (E := E0) hs hf G hr b pass0
theorem dictB_byN {l : List Str} {a b : Str → Addr} : dictB (fun _ => true) (byN l a) (byN l b) = true := by
  unfold dictB
  rw [List.all_eq_true]
  intro p hp
  obtain ⟨x, hx, rfl⟩ := List.mem_map.mp hp
  rw [valV_byN hx]
  rfl
def spCheckL (CL C CB : Addr) : Sp := fun vs H Q _ => ∃ (q : Addr) (c : Ch) (h : Str → Int), vs = [.ref q] ∧ LdAt CL C CB H q c h ∧ Q .non H
def spHolL (CL C CB : Addr) : Sp := fun vs H Q _ => ∃ (q : Addr) (c : Ch) (h : Str → Int), vs = [.ref q] ∧ LdAt CL C CB H q c h ∧ c.Ok ∧
  ∀ (r : Addr) (H' : Hp) (us : List V) (hs : List (Str × Int × Option Int)), Same H H' → H r = none → H' r = some (.lst us) → HolAll H' us hs → Hollows c h h hs → Q (.ref r) H'
def spSurp (CL C CB : Addr) : Sp := fun vs H Q _ => ∃ (p q cp : Addr) (c : Ch) (h : Str → Int), vs = [.ref p, .ref q] ∧ ChAt C CB H p c ∧ LdAtC CL C CB H q cp c h ∧ c.Ok ∧
  (∀ hs hl, Hollows c c.lo c.hi hs → Hollows c h h hl → (hl.map keyD).Perm (hs.map keyD)) ∧ ∀ H', Same H H' → Q .non H'
def spIsCalm (CL C CB : Addr) : Sp := fun vs H Q _ => ∃ (p q cp : Addr) (c : Ch) (h : Str → Int), vs = [.ref p, .ref q] ∧ ChAt C CB H p c ∧ LdAtC CL C CB H q cp c h ∧ c.Ok ∧
  (∀ hs hl, Hollows c c.lo c.hi hs → Hollows c h h hl → (hl.map keyD).Perm (hs.map keyD)) ∧ ∀ H', Same H H' → Q (.bl true) H'
theorem ldf_no {c h : Addr} {m : Str} (h1 : (m == ("chart" : Str)) = false) (h2 : (m == ("height_by_name" : Str)) = false) : (ldf c h).lookup m = none := by
  unfold ldf
  rw [List.lookup_cons, h1]
  show List.lookup _ [(("height_by_name" : Str), V.ref h)] = _
  rw [List.lookup_cons, h2]
  rfl
theorem hol_len {c : Ch} {f g : Str → Int} {hs : List (Str × Int × Option Int)} (ok : c.Ok) (h : Hollows c f g hs) : hs.length ≤ 60 := by
  have h1 := lists_sub (l := c.names) h.nd fun x hx => by
    obtain ⟨z, hz, rfl⟩ := List.mem_map.mp hx
    exact ((h.all z.1).mp ⟨z, hz, rfl⟩).1
  rw [List.length_map] at h1
  exact Nat.le_trans h1 ok.len
end L9

/-! class methods by name; the chart that is pinned to a land, the lowest land -/
namespace L9
open PySem PySem.Spec PyProof.Rows L2
/-- C.m, a class method, with all that a call of it wants -/
structure CCal (P : Program) (w : World) (K : PySem.W.Frag) (mg : Str → Option Value) (base : Heap) (x : Str) (C : Addr) (m : Str) (k : Nat) (ps : List Str) (sp : Sp) : Prop where
  ex : ∃ (f p : Addr) (fd : FuncData) (mc : Value), FnOk P w K mg base CX0 k f fd ps sp ∧ ClX.CRead K C mc ∧ ClX.CMet K C mc m p f ∧ Binds K fd ps [] ∧ mg x = some (.ref C)
section
variable {X : Cx} {C : Addr} {m x y : Str} {k i : Nat} {ps : List Str} {sp : Sp} {e : Expr} {es : List Expr} {t : TA} {p1 p2 pos : Pos}
theorem CCal.pe {pl : Sem Bool} (M : CCal X.prog X.w X.K X.mg X.base x C m k ps sp) (hr : Room k X.A) (hg : Gl X x) (ha : PA X (e :: es) t) (hd : (x == ("__debug__" : Str)) = false := by decide)
    (hst : starEach (e :: es) X.env = (false, eval e X.env) :: starEach es X.env := by rfl) (hpl : (backTo pos (starEach es X.env)).any (·.1) = false := by rfl)
    (ht : eval (.Call (.Attribute (.Name x p1) m p2) (e :: es) [] pos) X.env = (do
      let ov ← eval (.Name x p1) X.env
      standAt p2.atName
      let (f, first) ← holding [ov] (getMethod ov m pl)
      callWith pos f first (backTo pos (starEach (e :: es) X.env)) (backToKw pos (keywordEach [] X.env))) := by rfl) :
    PE X (.Call (.Attribute (.Name x p1) m p2) (e :: es) [] pos) (tCm C sp (fun _ => E0) (tC (.ref C)) t) := by
  obtain ⟨f, p, fd, mc, F, r, c, b, hm⟩ := M.ex
  exact pe_cmS (pe_glob (v := .ref C) hg hm rfl hd) r c F b hr pass0A ha hst hpl ht
theorem ICal.peL (M : ICal X.prog X.w X.K X.mg X.base x C k ps sp) (hr : Room (k + 1) X.A) (hN : X.N[i]? = some y) (hv : Vis X.env.scope y) (ha : PA X (e :: es) t) (hdb : (y == ("__debug__" : Str)) = false := by decide) (hcd : (y == ("__classdict__" : Str)) = false := by decide)
    (hst : starEach (e :: es) X.env = (false, eval e X.env) :: starEach es X.env := by rfl) (hpl : (backTo pos (starEach es X.env)).any (·.1) = false := by rfl) :
    PE X (.Call (.Name y p1) (e :: es) [] pos) (tMakeL i C sp (fun _ => E0) t) := by
  obtain ⟨f, fd, G, M, b, hm⟩ := M.ex
  exact pe_makeL M G hr b pass0A hN hv ha hdb hcd hst hpl
end
theorem w_cm {C : Addr} {sp : Sp} {E : L2.St → XK} {ta : TE} {t : TA} {σ : L2.St} {H : Hp} {Q : VK} (q : ta σ H fun x H1 => x = .ref C ∧ t σ H1 fun vs H2 => sp (.ref C :: vs) H2 Q (E σ)) : tCm C sp E ta t σ H Q := q
theorem w_makeL {i : Nat} {C : Addr} {sp : Sp} {E : L2.St → XK} {t : TA} {σ : L2.St} {H : Hp} {Q : VK} (h : σ[i]? = some (some (.ref C))) (q : t σ H fun vs H1 => ∀ y dy, H1 y = none → H1 dy = none → dy ≠ y → sp (.ref y :: vs) (upd (upd H1 dy (.own y)) y (.ins C dy [])) (fun v H2 => v = .non ∧ Q (.ref y) H2) (E σ)) : tMakeL i C sp E t σ H Q := ⟨h, q⟩
def spExactN (CB : Addr) : Sp := fun vs H Q _ => ∃ x : Int, vs = [.ref CB, .int x] ∧ heightB x = true ∧ ∀ (y : Addr) (H' : Hp), Same H H' → H y = none → BndAt CB H' y x x → Q (.ref y) H'
def spLowest (CL C CB : Addr) : Sp := fun vs H Q _ => ∃ (p : Addr) (c : Ch), vs = [.ref CL, .ref p] ∧ ChAt C CB H p c ∧ c.Ok ∧ ∀ (r : Addr) (H' : Hp), Same H H' → H r = none → LdAtC CL C CB H' r p c c.lo → Q (.ref r) H'
open Classical in
/-- the names in order -/
noncomputable def sortStr (xs : List Str) : List Str := if h : ∃ ys : List Str, ys.Perm xs ∧ sortedS ys = true then h.choose else xs
theorem sortStr_uniq {xs ys : List Str} (hp : ys.Perm xs) (hs : sortedS ys = true) : ys = sortStr xs := by
  have h : ∃ ys : List Str, ys.Perm xs ∧ sortedS ys = true := ⟨ys, hp, hs⟩
  unfold sortStr
  rw [dif_pos h]
  exact sortedS_uniq hs h.choose_spec.2 (hp.trans h.choose_spec.1.symm)
/-- the chart with these heights alone -/
noncomputable def pinC (c : Ch) (h : Str → Int) : Ch := ⟨sortStr c.names, h, h, fun x => sortStr (c.nbr x), (sortStr c.names).filter fun x => decide (x ∈ c.outs)⟩
def spPinnedC (CL C CB : Addr) : Sp := fun vs H Q _ => ∃ (q : Addr) (c : Ch) (h : Str → Int), vs = [.ref q] ∧ LdAt CL C CB H q c h ∧ c.Ok ∧ (∀ x ∈ c.names, x ∉ c.nbr x) ∧ (∀ x ∈ c.names, nameB x = true ∧ x.length ≤ 8) ∧ (∀ x ∈ c.names, heightB (h x) = true) ∧
  ∀ (r : Addr) (H' : Hp), Same H H' → H r = none → ChAt C CB H' r (pinC c h) → (pinC c h).Ok → (pinC c h).names.Perm c.names → Q (.ref r) H'
theorem ChAt.nbrs {C CB : Addr} {H : Hp} {p : Addr} {c c2 : Ch} (h : ChAt C CB H p c) (hn : c2.names = c.names) (hl : c2.lo = c.lo) (hh : c2.hi = c.hi) (hb : ∀ x ∈ c.names, c2.nbr x = c.nbr x) (ho : c2.outs = c.outs) : ChAt C CB H p c2 := by
  obtain ⟨dx, b, t, o, h0, h1, ⟨ta, h2, h3⟩, h4⟩ := h
  refine ⟨dx, b, t, o, h0, by rw [hn, hl, hh]; exact h1, ⟨ta, by rw [hn]; exact h2, fun x hx => ?_⟩, by rw [ho]; exact h4⟩
  rw [hn] at hx
  rw [hb x hx]
  exact h3 x hx
/-- the pinned chart, from what Chart(..) tells -/
theorem pin_of {c c2 : Ch} {h : Str → Int} (ok : c.Ok) (hh : ∀ x ∈ c.names, heightB (h x) = true) (hp : c2.names.Perm c.names) (hs : sortedS c2.names = true) (hlo : c2.lo = h) (hhi : c2.hi = h) (hnb : ∀ x ∈ c.names, (c2.nbr x).Nodup ∧ ∀ z, z ∈ c2.nbr x ↔ z ∈ c.nbr x)
    (hns : ∀ x ∈ c.names, sortedS (c2.nbr x) = true) (ho : c2.outs = c2.names.filter fun x => decide (x ∈ c.outs)) {C CB : Addr} {H : Hp} {p : Addr} (hc : ChAt C CB H p c2) :
    ChAt C CB H p (pinC c h) ∧ (pinC c h).Ok ∧ (pinC c h).names.Perm c.names := by
  have e1 : c2.names = sortStr c.names := sortStr_uniq hp hs
  have pn : ∀ x ∈ c.names, (c2.nbr x).Perm (c.nbr x) := fun x hx => (List.perm_ext_iff_of_nodup (hnb x hx).1 (ok.nnd x hx)).mpr (hnb x hx).2
  have e2 : ∀ x ∈ c.names, c2.nbr x = sortStr (c.nbr x) := fun x hx => sortStr_uniq (pn x hx) (hns x hx)
  have hm : ∀ x, x ∈ sortStr c.names ↔ x ∈ c.names := fun x => by rw [← e1]; exact hp.mem_iff
  have nm : ∀ x ∈ c.names, ∀ y, y ∈ sortStr (c.nbr x) ↔ y ∈ c.nbr x := fun x hx y => by rw [← e2 x hx]; exact (hnb x hx).2 y
  refine ⟨hc.nbrs e1.symm hlo.symm hhi.symm (fun x hx => (e2 x (hp.mem_iff.mp hx)).symm) (by rw [ho, e1]; rfl), ⟨?_, ?_, fun x hx => ?_, fun x hx y hy => ?_, fun x hx => ?_, fun x hx y hy => ?_, fun x hx => ?_, ?_⟩, by rw [e1] at hp; exact hp⟩
  · show (sortStr c.names).Nodup
    rw [← e1]
    exact hp.nodup_iff.mpr ok.nd
  · show (sortStr c.names).length ≤ 60
    rw [← e1, hp.length_eq]
    exact ok.len
  · have hx := (hm x).mp hx
    have h1 := hh x hx
    unfold heightB at h1
    rw [Bool.and_eq_true, decide_eq_true_eq, decide_eq_true_eq] at h1
    exact ⟨h1.1, Int.le_refl _, h1.2⟩
  · have hx := (hm x).mp hx
    exact (hm y).mpr (ok.nin x hx y ((nm x hx y).mp hy))
  · have hx := (hm x).mp hx
    show (sortStr (c.nbr x)).Nodup
    rw [← e2 x hx]
    exact (hnb x hx).1
  · have hx := (hm x).mp hx
    have h1 := (nm x hx y).mp hy
    have hy2 := ok.nin x hx y h1
    exact (nm y hy2 x).mpr (ok.sy x hx y h1)
  · have h1 := (List.mem_filter.mp hx).1
    exact h1
  · show ((sortStr c.names).filter _).Nodup
    rw [← e1]
    exact List.Nodup.sublist List.filter_sublist (hp.nodup_iff.mpr ok.nd)
end L9

/-! methods called by keywords alone; charts told apart -/
namespace L9
open PySem PySem.Spec PyProof.Rows L2
/-- the method m of the class at C, called with the keywords ks alone -/
structure MCalK (P : Program) (w : World) (K : PySem.W.Frag) (mg : Str → Option Value) (base : Heap) (C : Addr) (m : Str) (k : Nat) (ps ks : List Str) (gV : List V → List V → List V) (sp : Sp) : Prop where
  ex : ∃ (f : Addr) (fd : FuncData) (g : List Value → List Value → List Value), FnOk P w K mg base CX0 k f fd ps sp ∧ Meth K C m f ∧ KBn K fd ps 1 ks g gV
def tMethK (C : Addr) (m : Str) (n : Nat) (sp : Sp) (gV : List V → List V → List V) (E : XK) (ta : TE) (tk : TA) : TE := fun σ H Q => ta σ H fun x H1 => ∃ a dx fs, x = .ref a ∧ H1 a = some (.ins C dx fs) ∧ fs.lookup m = none ∧
  tk σ H1 fun zs H2 => zs.length = n ∧ sp (gV [x] zs) H2 Q E
section
variable {X : Cx} {C : Addr} {m : Str} {k : Nat} {ps ks : List Str} {sp : Sp} {o : Expr} {kws : List Keyword} {ta : TE} {tk : TA} {pos apos : Pos} {gV : List V → List V → List V}
theorem MCalK.pe {pl : Sem Bool} (M : MCalK X.prog X.w X.K X.mg X.base C m k ps ks gV sp) (c : Cls X.K C) (hr : Room k X.A) (he : PE X o ta) (hkw : PK X kws tk)
    (hall : (backToKw pos (keywordEach kws X.env)).all (·.1.isSome) = true := by rfl) (hks : (backToKw pos (keywordEach kws X.env)).filterMap (·.1) = ks := by rfl)
    (hpl : ((backTo pos (starEach [] X.env)).any (·.1) || (backToKw pos (keywordEach kws X.env)).any (·.1.isNone)) = false := by rfl)
    (ht : eval (.Call (.Attribute o m apos) [] kws pos) X.env = (do
      let ov ← eval o X.env
      standAt apos.atName
      let (f, first) ← holding [ov] (getMethod ov m pl)
      callWith pos f first (backTo pos (starEach [] X.env)) (backToKw pos (keywordEach kws X.env))) := by rfl) :
    PE X (.Call (.Attribute o m apos) [] kws pos) (tMethK C m ks.length sp gV E0 ta tk) := by
  obtain ⟨f, fd, g, F, hm, hb⟩ := M.ex
  refine ⟨fun pins s σ H Q I h => ?_⟩
  refine PySem.W.methodCall_KW (pl := pl) (thn (he.run pins s σ H _ I h) fun u s1 ⟨x, H1, I1, rx, a, dx, fs, ex, ea, l, q⟩ => ?_) ht
  subst ex
  obtain rfl : u = Value.ref a := rx
  refine getmeth_ok I1 ea c hm l ?_
  refine PySem.W.callWith_KW0 (first := [.ref a]) (h₀ := X.base) I.ok.mod.kin hm.kp hall (thn (hkw.run pos pins s1 σ H1 _ I1 q) fun ws s2 ⟨zs, H2, I2, rz, l2', q2⟩ => ⟨I2.kIn, ?_⟩) hpl
  rw [hks]
  exact run_fnN (us := [.ref a]) (vs := [.ref a]) F hr hb pass0 I2 (.cons rfl .nil) rz rfl l2' q2
end
theorem w_methK {C : Addr} {m : Str} {n : Nat} {sp : Sp} {gV : List V → List V → List V} {E : XK} {ta : TE} {tk : TA} {σ : L2.St} {H : Hp} {Q : VK} (q : ta σ H fun x H1 => ∃ a dx fs, x = .ref a ∧ H1 a = some (.ins C dx fs) ∧ fs.lookup m = none ∧
  tk σ H1 fun zs H2 => zs.length = n ∧ sp (gV [x] zs) H2 Q E) : tMethK C m n sp gV E ta tk σ H Q := q
/-- two lists of texts, equal or not -/
def DStrs : V → V → Bool → Hp → Prop := fun x y b H => ∃ (p q : Addr) (xs ys : List Str), x = .ref p ∧ y = .ref q ∧ H p = some (.lst (xs.map V.str)) ∧ H q = some (.lst (ys.map V.str)) ∧ b = decide (xs = ys)
theorem strs_inj : ∀ {xs ys : List Str}, xs.map V.str = ys.map V.str → xs = ys
  | [], [], _ => rfl
  | _ :: _, _ :: _, h => by
    rw [List.map_cons, List.map_cons] at h
    injection h with h1 h2
    injection h1 with h1
    rw [h1, strs_inj h2]
  | [], _ :: _, h => nomatch h
  | _ :: _, [], h => nomatch h
theorem strs_valEq {X : Cx} {k : Nat} : ValEq X k DStrs := by
  intro A pins σ H s x y b u w sb I rx ry d
  obtain ⟨p, q, xs, ys, rfl, rfl, hp, hq, rfl⟩ := d
  cases (show u = Value.ref p from rx)
  cases (show w = Value.ref q from ry)
  by_cases e : p = q
  · subst e
    rw [hp] at hq
    have := strs_inj (HO.lst.inj (Option.some.inj hq))
    exact SeqAt.EqAt.same (A := A) (s := s) (.ref p) X.prog X.w X.xe _ ⟨(decide_eq_true this).symm, I⟩
  · refine GQ.eqBool_refG e ?_
    exact PySem.W.eq_datum (Dp.reads I _ _ _ (hd_list (α := Str) (SqL.of hp) (hd_strs xs)) rfl) (Dp.reads I _ _ _ (hd_list (α := Str) (SqL.of hq) (hd_strs ys)) rfl) (Nat.lt_of_le_of_lt (Nat.add_le_add_left (by decide) _) (hu64 sb.room)) ⟨_, rfl, rfl, I⟩
/-- charts of the same places, equal or not -/
def sameCh (c c2 : Ch) : Bool := (c.names.all fun x => decide (c.lo x = c2.lo x) && decide (c.hi x = c2.hi x)) && (c.names.all fun x => decide (c.nbr x = c2.nbr x)) && decide (c.outs = c2.outs)
def spChEqD (C CB : Addr) : Sp := fun vs H Q _ => ∃ (p r : Addr) (c c2 : Ch), vs = [.ref p, .ref r] ∧ ChAt C CB H p c ∧ ChAt C CB H r c2 ∧ c.Ok ∧ c2.names = c.names ∧ Q (.bl (sameCh c c2)) H
theorem dictB_by {f : L2.Key → Bool} {l : List Str} {a b : Str → Addr} (g : Str → Bool) (h : ∀ x ∈ l, f (Sum.inr x) = g x) : dictB f (byN l a) (byN l b) = l.all g := by
  unfold dictB byN
  rw [List.all_map]
  have : ∀ l2 : List Str, (∀ x ∈ l2, x ∈ l) → l2.all ((fun p : L2.Key × V => (valV (byN l b) p.1).isSome && f p.1) ∘ fun x => (Sum.inr x, V.ref (a x))) = l2.all g := fun l2 => by
    induction l2 with
    | nil => intro _; rfl
    | cons x l2 ih =>
      intro hs
      rw [List.all_cons, List.all_cons, ih fun y hy => hs y (List.mem_cons_of_mem _ hy)]
      have hx := hs x List.mem_cons_self
      show ((valV (byN l b) (Sum.inr x)).isSome && f (Sum.inr x) && _) = _
      rw [valV_byN hx, h x hx]
      rfl
  exact this l fun x hx => hx
end L9
namespace L9
open PySem PySem.Spec PyProof.Rows L2
theorem OCal.neg {X : Cx} {C : Addr} {k : Nat} {ps : List Str} {sp : Sp} (M : OCal X.prog X.w X.K X.mg X.base C "__neg__" k ps sp) (hr : Room k X.A) : UnR X (unaryOp .USub) (rNegO C sp E0) := by
  obtain ⟨f, fd, G, hs, hf, hf2, b⟩ := M.ex
  exact un_negO (E := E0) hs hf G hr b pass0
end L9
namespace L9
open PySem PySem.Spec PyProof.Rows L2
/-- a def without defaults behind its positional parameters, called with keywords -/
theorem kbindsN {K : PySem.W.Frag} {x qual : Str} {st : Stmt} {f : Addr} {fd : FuncData} {ps : List Str} (F : Fun K x qual st f fd) (n : Nat) (ks : List Str) (g : {α : Type} → List α → List α → List α)
    (hrel : ∀ {vs zs : List V} {us ws : List Value}, Vals vs us → Vals zs ws → Vals (g vs zs) (g us ws))
    (h : ∀ (kV doc pm : Value) (an : Option Addr) (cdv ct : Value) (us ws : List Value), us.length = n → ws.length = ks.length → bindArgs (PySem.W.fnOf x qual (defArgs st) (defBody st) (defScope st) .none kV doc pm an cdv ct) ⟨us, ks.zip ws⟩ = pure (ps.zip (g us ws))) :
    KBn K fd ps n ks (fun us ws => g us ws) (fun vs zs => g vs zs) := by
  obtain ⟨oc, od, kV, doc, pm, an, cdv, ct, osl, rfl, lk, hcd⟩ := F.ex
  exact ⟨fun s us ws _ l1 l2 => .of_eq (h kV doc pm an cdv ct us ws l1 l2), fun r1 r2 => hrel r1 r2⟩
end L9

/-! the calm land as the rule tells it -/
namespace L9
open PySem PySem.Spec PyProof.Rows L2
/-- the ways' ends: outlets by the passes, roots by passes and high bounds -/
def calmL (W : Wb) (hs : List (Str × Int × Option Int)) (G : Nat → Option Int) : List Int :=
  W.dr.filterMap (fun a => G a.toNat) ++ (hs.map fun z => W.ix z.1).filterMap fun a => (G a.toNat).map fun e => if W.hi.getD a.toNat 0 > e then W.hi.getD a.toNat 0 else e
section
variable {W : Wb} {m : Nat} {c : Ch} {N : List (List Int)} {hs : List (Str × Int × Option Int)} {G : Nat → Option Int} {k : Nat} {x : Str}
theorem ix_at (hW : W.Ok m) (hk : W.lab[k]? = some x) : W.ix x = (k : Int) := by
  unfold Wb.ix
  rw [idx_of hW.labs.nd hk]
theorem calm_list (hW : W.Ok m) (hc : OfWeb W c) (hN : NearOf W.lab.length W.prs N) (hS : Hollows c c.lo c.hi hs) (hk : W.lab[k]? = some x) (hG : ∀ j, j < W.lab.length → PassOf N W.lo k j (G j)) (t : Int) :
    ((∃ y ∈ calmL W hs G, y ≤ t) ∧ c.lo x ≤ t) ↔ ∃ s, Src c t s ∧ M9.Rch (Adj c) (Lv c c.lo t) s x := by
  have hF : ByF W W.lo c.lo := by rw [hc.lo]; exact ByF.lo hW
  have hxl := List.mem_of_getElem? hk
  have hx := (hc.nm x).mpr hxl
  have ok := hc.ok
  have sy := Adj.sy ok
  have ek := ix_at hW hk
  -- a pass that is low enough is a way
  have way : ∀ s, s ∈ W.lab → ((∃ d, G (W.ix s).toNat = some d ∧ d ≤ t) ↔ M9.Rch (Adj c) (Lv c c.lo t) s x) := fun s hs => by
    have hi : W.lab.idxOf s < W.lab.length := get_lt (idx_get hs)
    have e : (W.ix s).toNat = W.lab.idxOf s := rfl
    rw [e, hG _ hi t]
    constructor
    · intro h
      have h2 : M9.Rch (AdjI N) (LowI W.lo t) (W.ix x) (W.ix s) := by rw [ek]; exact h
      exact ((rch_ix hW hc hN hF hxl).mp ⟨h2, hs⟩).symm sy
    · intro h
      have h2 := ((rch_ix hW hc hN hF hxl).mpr (h.symm sy)).1
      rw [ek] at h2
      exact h2
  have top : ∀ s, s ∈ W.lab → W.hi.getD (W.ix s).toNat 0 = c.hi s := fun s _ => by
    rw [hc.hi]
    rfl
  constructor
  · rintro ⟨⟨y, hy, hyt⟩, hlo⟩
    rcases List.mem_append.mp hy with h | h
    · obtain ⟨a, ha, hga⟩ := List.mem_filterMap.mp h
      obtain ⟨h0, h1⟩ := hW.dr a ha
      have g := Wb.at_get (W := W) h0 h1
      have hs2 := List.mem_of_getElem? g
      have ea : W.ix (W.at a) = a := by
        rw [ix_at hW g]
        exact Int.toNat_of_nonneg h0
      refine ⟨W.at a, .inl ((dr_out hW hc hs2).mp (by rw [ea]; exact ha)), (way _ hs2).mp ⟨y, by rw [ea]; exact hga, hyt⟩⟩
    · obtain ⟨a, ha, hga⟩ := List.mem_filterMap.mp h
      obtain ⟨z, hz, rfl⟩ := List.mem_map.mp ha
      have hr := (hS.all z.1).mp ⟨z, hz, rfl⟩
      have hzl := (hc.nm _).mp hr.1
      cases hg : G (W.ix z.1).toNat with
      | none => rw [hg] at hga; cases hga
      | some e =>
        rw [hg, Option.map_some, top _ hzl] at hga
        have hga := Option.some.inj hga
        have he : e ≤ t ∧ c.hi z.1 ≤ t := by
          by_cases q : c.hi z.1 > e
          · rw [if_pos q] at hga; omega
          · rw [if_neg q] at hga; omega
        exact ⟨z.1, .inr ⟨hr, he.2⟩, (way _ hzl).mp ⟨e, hg, he.1⟩⟩
  · rintro ⟨s, hs2, hr⟩
    have hsl := (hc.nm s).mp hr.head.1
    obtain ⟨d, hd, hdt⟩ := (way s hsl).mpr hr
    refine ⟨?_, hr.last.2⟩
    rcases hs2 with h | ⟨h, h2⟩
    · exact ⟨d, List.mem_append.mpr (.inl (List.mem_filterMap.mpr ⟨W.ix s, (dr_out hW hc hsl).mpr h, hd⟩)), hdt⟩
    · obtain ⟨z, hz, rfl⟩ := (hS.all s).mpr h
      refine ⟨if c.hi z.1 > d then c.hi z.1 else d, List.mem_append.mpr (.inr (List.mem_filterMap.mpr ⟨W.ix z.1, List.mem_map_of_mem (f := fun z => W.ix z.1) hz, ?_⟩)), ?_⟩
      · rw [hd, Option.map_some, top _ hsl]
      · by_cases q : c.hi z.1 > d
        · rw [if_pos q]; exact h2
        · rw [if_neg q]; exact hdt
theorem calm_some (hW : W.Ok m) (hc : OfWeb W c) (hN : NearOf W.lab.length W.prs N) (hS : Hollows c c.lo c.hi hs) (hk : W.lab[k]? = some x) (hG : ∀ j, j < W.lab.length → PassOf N W.lo k j (G j)) : 0 < (calmL W hs G).length := by
  obtain ⟨⟨y, hy, _⟩, _⟩ := (calm_list hW hc hN hS hk hG (c.hi x)).mpr (src_hi hc.ok ((hc.nm x).mpr (List.mem_of_getElem? hk)))
  exact List.length_pos_of_mem hy
theorem calm_value {h : Str → Int} {v : Int} (hW : W.Ok m) (hc : OfWeb W c) (hN : NearOf W.lab.length W.prs N) (hS : Hollows c c.lo c.hi hs) (hk : W.lab[k]? = some x) (hG : ∀ j, j < W.lab.length → PassOf N W.lo k j (G j)) (hC : CalmOf c h) (hm : v ∈ calmL W hs G) (hle : ∀ y ∈ calmL W hs G, v ≤ y) : h x = if v > c.lo x then v else c.lo x := by
  have hx := (hc.nm x).mpr (List.mem_of_getElem? hk)
  have all : ∀ t, h x ≤ t ↔ v ≤ t ∧ c.lo x ≤ t := fun t => by
    rw [calm_src hc.ok hC hx t, ← calm_list hW hc hN hS hk hG t]
    constructor
    · rintro ⟨⟨y, hy, hyt⟩, h2⟩
      exact ⟨Int.le_trans (hle y hy) hyt, h2⟩
    · rintro ⟨h1, h2⟩
      exact ⟨⟨v, hm, h1⟩, h2⟩
  have a := (all (h x)).mp (Int.le_refl _)
  by_cases q : v > c.lo x
  · rw [if_pos q]
    have b := (all v).mpr ⟨Int.le_refl _, by omega⟩
    omega
  · rw [if_neg q]
    have b := (all (c.lo x)).mpr ⟨by omega, Int.le_refl _⟩
    omega
end
theorem hol_len60 {c : Ch} {f g : Str → Int} {hs : List (Str × Int × Option Int)} (ok : c.Ok) (h : Hollows c f g hs) : hs.length ≤ 60 := by
  have h1 := lists_sub h.nd (l := c.names) fun x hx => by
    obtain ⟨z, h1, h2⟩ := List.mem_map.mp hx
    exact ((h.all x).mp ⟨z, h1, h2⟩).1
  rw [List.length_map] at h1
  exact Nat.le_trans h1 ok.len
theorem calm_bounds {c : Ch} {h : Str → Int} (ok : c.Ok) (hC : CalmOf c h) : ∀ x ∈ c.names, c.lo x ≤ h x ∧ h x ≤ c.hi x := by
  obtain ⟨sl, sv, S, hh⟩ := hC
  exact calm_in ok S hh
end L9

/-! charts that are alike but for their names, all heights raised by a number: the same hollows, the same calm land -/
namespace L9
open PySem PySem.Spec PyProof.Rows L2
/-- c2 is c under other names, raised by d -/
structure Twin (c c2 : Ch) (d : Int) (f : Str → Str) : Prop where
  mem : ∀ x ∈ c.names, f x ∈ c2.names
  sur : ∀ y ∈ c2.names, ∃ x ∈ c.names, f x = y
  inj : ∀ x ∈ c.names, ∀ y ∈ c.names, f x = f y → x = y
  adj : ∀ x ∈ c.names, ∀ y ∈ c.names, Adj c x y ↔ Adj c2 (f x) (f y)
  outs : ∀ x ∈ c.names, x ∈ c.outs ↔ f x ∈ c2.outs
  lo : ∀ x ∈ c.names, c2.lo (f x) = c.lo x + d
  hi : ∀ x ∈ c.names, c2.hi (f x) = c.hi x + d
section
variable {c c2 : Ch} {d : Int} {f : Str → Str} {s t : Int} {x y z a b : Str}
theorem Twin.rch (w : Twin c c2 d f) (h : M9.Rch (Adj c) (Lv c c.lo t) x y) : M9.Rch (Adj c2) (Lv c2 c2.lo (t + d)) (f x) (f y) :=
  h.map f (fun a ha => ⟨w.mem a ha.1, by have := w.lo a ha.1; have := ha.2; omega⟩) fun a b ha hb hab => (w.adj a ha.1 b hb.1).mp hab
theorem Twin.back (w : Twin c c2 d f) (hx : x ∈ c.names) (h : M9.Rch (Adj c2) (Lv c2 c2.lo (t + d)) (f x) z) : ∃ y ∈ c.names, f y = z ∧ M9.Rch (Adj c) (Lv c c.lo t) x y := by
  induction h with
  | refl hs => exact ⟨x, hx, rfl, .refl ⟨hx, by have := w.lo x hx; have := hs.2; omega⟩⟩
  | step _ hab hs ih =>
    obtain ⟨u, hu, rfl, hr⟩ := ih
    obtain ⟨v, hv, rfl⟩ := w.sur _ hs.1
    exact ⟨v, hv, rfl, .step hr ((w.adj u hu v hv).mpr hab) ⟨hv, by have := w.lo v hv; have := hs.2; omega⟩⟩
/-- the alive ones are as many -/
theorem Twin.alive_le (w : Twin c c2 d f) (ok : c.Ok) (ok2 : c2.Ok) {hs hl : List (Str × Int × Option Int)} (hst : s ≤ t) (hS : Hollows c c.lo c.hi hs) (hL : Hollows c2 c2.lo c2.hi hl) : (hs.map keyD).countP (livP s t) ≤ (hl.map keyD).countP (livP (s + d) (t + d)) := by
  have sy := Adj.sy ok
  have sy2 := Adj.sy ok2
  rw [List.countP_eq_length_filter, List.countP_eq_length_filter, List.filter_map, List.filter_map, List.length_map, List.length_map]
  have h1 : ((hs.filter (livP s t ∘ keyD)).map (·.1)).length ≤ ((hl.filter (livP (s + d) (t + d) ∘ keyD)).map (·.1)).length := by
    refine M9.count_le (D := fun a b => a ≠ b) (R := fun a b => Aliv c c.lo c.hi s t a ∧ M9.Rch (Adj c2) (Lv c2 c2.lo (t + d)) (f a) b) ?_ _ _ (hS.nd.sublist (List.filter_sublist.map _)) fun a ha => ?_
    · rintro a a' b ⟨h1, h2⟩ ⟨h3, h4⟩ hn
      obtain ⟨u, hu, e, hr⟩ := w.back h1.1 (h2.trans (h4.symm sy2))
      have e2 := w.inj u hu a' h3.1 e
      rw [e2] at hr
      exact hn (aliv_apart ok h1 h3 hr (.refl hr.last))
    · obtain ⟨p, hp, rfl⟩ := List.mem_map.mp ha
      obtain ⟨hp, hpd⟩ := List.mem_filter.mp hp
      have hA := (livP_iff ok hS hp).mp hpd
      have hlo := lo_hi ok p.1 hA.1
      have h0 : Lv c c.lo t p.1 := ⟨hA.1, by have := hA.2.1; omega⟩
      have dry : ∀ y, M9.Rch (Adj c2) (Lv c2 c2.lo (t + d)) (f p.1) y → y ∉ c2.outs := fun y hy ho => by
        obtain ⟨u, hu, rfl, hr⟩ := w.back hA.1 hy
        exact (hA.2.2 u hr).1 ((w.outs u hu).mpr ho)
      obtain ⟨b, hb, hR⟩ := aliv_has (g := c2.hi) ok2 (show s + d ≤ t + d by omega) (w.rch (.refl h0)) (by have := w.hi p.1 hA.1; have := hA.2.1; omega) dry
      obtain ⟨q, hq, rfl⟩ := (hL.all b).mpr (aliv_root ok2 (show s + d ≤ t + d by omega) hb)
      exact ⟨q.1, List.mem_map.mpr ⟨q, List.mem_filter.mpr ⟨hq, (livP_iff ok2 hL hq).mpr hb⟩, rfl⟩, hA, hR⟩
  rwa [List.length_map, List.length_map] at h1
/-- a pair raised -/
def upP (d : Int) (p : Int × Option Int) : Int × Option Int := (p.1 + d, p.2.map (· + d))
theorem liv_up (p : Int × Option Int) : livP (s + d) (t + d) (upP d p) = livP s t p := by
  obtain ⟨b, o⟩ := p
  unfold livP upP
  cases o with
  | none =>
    show (decide (b + d ≤ s + d) && true) = (decide (b ≤ s) && true)
    rw [decide_eq_decide.mpr (show b + d ≤ s + d ↔ b ≤ s by omega)]
  | some e =>
    show (decide (b + d ≤ s + d) && decide (t + d < e + d)) = (decide (b ≤ s) && decide (t < e))
    rw [decide_eq_decide.mpr (show b + d ≤ s + d ↔ b ≤ s by omega), decide_eq_decide.mpr (show t + d < e + d ↔ t < e by omega)]
theorem hol_key {c : Ch} {g h : Str → Int} {l : List (Str × Int × Option Int)} (ok : c.Ok) (hl : Hollows c g h l) : ∀ p ∈ l.map keyD, ∀ e, p.2 = some e → p.1 < e := fun p hp e he => by
  obtain ⟨z, hz, rfl⟩ := List.mem_map.mp hp
  obtain ⟨x, b, o⟩ := z
  have he : o = some e := he
  have hr := (hl.all x).mp ⟨_, hz, rfl⟩
  have hb : b = h x := hl.birth _ hz
  have hE : EndOf c g h x o := hl.death _ hz
  show b < e
  rw [hb]
  have h1 : Deep c g h 0 x := ⟨hr.1, fun y hy => hr.2 y ((fl_rch ok hr.1).mpr (by rw [Int.add_zero] at hy; exact hy))⟩
  have := (deep_end ok hr.1 hE).mp h1 e he
  omega
/-- births and deaths, raised, each as often -/
theorem Twin.perm {g : Str → Str} (w : Twin c c2 d f) (v : Twin c2 c (-d) g) (ok : c.Ok) (ok2 : c2.Ok) {hs hl : List (Str × Int × Option Int)} (hS : Hollows c c.lo c.hi hs) (hL : Hollows c2 c2.lo c2.hi hl) : (hl.map keyD).Perm ((hs.map keyD).map (upP d)) := by
  refine perm_counts (hol_key ok2 hL) (fun p hp e he => ?_) fun s t hst => ?_
  · obtain ⟨q, hq, rfl⟩ := List.mem_map.mp hp
    obtain ⟨b, o⟩ := q
    cases o with
    | none => exact nomatch he
    | some u =>
      have he : some (u + d) = some e := he
      have := Option.some.inj he
      have := hol_key ok hS _ hq u rfl
      show b + d < e
      have h3 : b < u := this
      omega
  · have e1 : s - d + d = s := by omega
    have e2 : t - d + d = t := by omega
    have a := w.alive_le ok ok2 (show s - d ≤ t - d by omega) hS hL
    have b := v.alive_le ok2 ok hst hL hS
    rw [e1, e2] at a
    have k : ((hs.map keyD).map (upP d)).countP (livP s t) = (hs.map keyD).countP (livP (s - d) (t - d)) := by
      rw [List.countP_map]
      congr 1
      funext p
      show livP s t (upP d p) = _
      have := liv_up (s := s - d) (t := t - d) (d := d) p
      rw [e1, e2] at this
      exact this
    rw [k]
    exact Nat.le_antisymm b a
/-- the calm land without names -/
theorem calm_free (ok : c.Ok) {h : Str → Int} (hC : CalmOf c h) (hx : x ∈ c.names) (t : Int) : h x ≤ t ↔ ∃ u, M9.Rch (Adj c) (Lv c c.lo t) x u ∧ (u ∈ c.outs ∨ c.hi u ≤ t) := by
  have sy := Adj.sy ok
  rw [calm_src ok hC hx t]
  constructor
  · rintro ⟨u, h1 | h1, h2⟩
    · exact ⟨u, h2.symm sy, .inl h1⟩
    · exact ⟨u, h2.symm sy, .inr h1.2⟩
  · rintro ⟨u, h1, h2⟩
    by_cases ho : ∃ o, M9.Rch (Adj c) (Lv c c.lo t) x o ∧ o ∈ c.outs
    · obtain ⟨o, k1, k2⟩ := ho
      exact ⟨o, .inl k2, k1.symm sy⟩
    · rcases h2 with h2 | h2
      · exact absurd ⟨u, h1, h2⟩ ho
      · obtain ⟨r, k1, k2, k3⟩ := root_of (g := c.hi) ok (lo_hi ok) (Int.le_refl t) h1 h2 fun y hy hyo => ho ⟨y, hy, hyo⟩
        exact ⟨r, .inr ⟨k3, k2⟩, k1.symm sy⟩
/-- .. is the same under other names, raised as all is -/
theorem Twin.calm (w : Twin c c2 d f) (ok : c.Ok) (ok2 : c2.Ok) {h h2 : Str → Int} (hC : CalmOf c h) (hC2 : CalmOf c2 h2) (hx : x ∈ c.names) : h2 (f x) = h x + d := by
  have all : ∀ t, h x ≤ t ↔ h2 (f x) ≤ t + d := fun t => by
    rw [calm_free ok hC hx t, calm_free ok2 hC2 (w.mem x hx) (t + d)]
    constructor
    · rintro ⟨u, h1, k⟩
      have hu := h1.last.1
      exact ⟨f u, w.rch h1, k.imp (w.outs u hu).mp fun k => by have := w.hi u hu; omega⟩
    · rintro ⟨z, h1, k⟩
      obtain ⟨u, hu, rfl, hr⟩ := w.back hx h1
      exact ⟨u, hr, k.imp (w.outs u hu).mpr fun k => by have := w.hi u hu; omega⟩
  have a := (all (h x)).mp (Int.le_refl _)
  have b := (all (h2 (f x) - d)).mpr (by omega)
  omega
end
/-- two webs but for the names, raised -/
theorem web_twin {W W2 : Wb} {m m2 : Nat} {c c2 : Ch} {d : Int} (hW : W.Ok m) (hW2 : W2.Ok m2) (hc : OfWeb W c) (hc2 : OfWeb W2 c2) (hl : W2.lab.length = W.lab.length) (hp : W2.prs = W.prs) (hd : W2.dr = W.dr) (hlo : W2.lo = W.lo.map (· + d)) (hhi : W2.hi = W.hi.map (· + d)) :
    Twin c c2 d fun x => W2.lab.getD (W.lab.idxOf x) Str.empty := by
  have ix : ∀ x ∈ W.lab, W.lab.idxOf x < W.lab.length := fun x hx => get_lt (idx_get hx)
  have im : ∀ x ∈ W.lab, W2.lab[W.lab.idxOf x]? = some (W2.lab.getD (W.lab.idxOf x) Str.empty) := fun x hx => by
    have := ix x hx
    rw [List.getD_eq_getElem?_getD, List.getElem?_eq_getElem (by omega)]
    rfl
  have nm : ∀ x, x ∈ c.names → x ∈ W.lab := fun x => (hc.nm x).mp
  have fl : ∀ x ∈ W.lab, (∀ l : List Int, l.length = W.lab.length → (l.map (· + d)).getD (W2.lab.idxOf (W2.lab.getD (W.lab.idxOf x) Str.empty)) 0 = l.getD (W.lab.idxOf x) 0 + d) := fun x hx l hll => by
    rw [idx_of hW2.labs.nd (im x hx)]
    have := ix x hx
    rw [List.getD_eq_getElem?_getD, List.getD_eq_getElem?_getD, List.getElem?_map, List.getElem?_eq_getElem (by omega)]
    rfl
  refine ⟨fun x hx => (hc2.nm _).mpr (List.mem_of_getElem? (im x (nm x hx))), fun y hy => ?_, fun x hx y hy e => ?_, fun x hx y hy => ?_, fun x hx => ?_, fun x hx => ?_, fun x hx => ?_⟩
  · have hy2 := (hc2.nm y).mp hy
    have gy := idx_get hy2
    have li := get_lt gy
    obtain ⟨x, hx⟩ : ∃ x, W.lab[W2.lab.idxOf y]? = some x := ⟨_, List.getElem?_eq_getElem (by omega)⟩
    refine ⟨x, (hc.nm x).mpr (List.mem_of_getElem? hx), ?_⟩
    show W2.lab.getD (W.lab.idxOf x) Str.empty = y
    rw [idx_of hW.labs.nd hx, List.getD_eq_getElem?_getD, gy]
    rfl
  · have hx := nm x hx
    have hy := nm y hy
    have e1 := im x hx
    have e2 := im y hy
    have e : W2.lab.getD (W.lab.idxOf x) Str.empty = W2.lab.getD (W.lab.idxOf y) Str.empty := e
    rw [e] at e1
    have k := (idx_of hW2.labs.nd e1).symm.trans (idx_of hW2.labs.nd e2)
    have g1 := idx_get hx
    have g2 := idx_get hy
    rw [k, g2] at g1
    exact (Option.some.inj g1).symm
  · have hxl := nm x hx
    have hyl := nm y hy
    have gx := idx_get hxl
    have gy := idx_get hyl
    have key : ∀ {V V2 : Wb} {u v u2 v2 : Str}, V.lab.Nodup → V.prs = V2.prs → V.lab[W.lab.idxOf x]? = some u → V2.lab[W.lab.idxOf x]? = some u2 → V.lab[W.lab.idxOf y]? = some v → V2.lab[W.lab.idxOf y]? = some v2 →
        (∃ i j : Nat, (((i : Int), (j : Int)) ∈ V.prs ∧ ((V.lab[i]? = some u ∧ V.lab[j]? = some v) ∨ (V.lab[i]? = some v ∧ V.lab[j]? = some u)))) → ∃ i j : Nat, (((i : Int), (j : Int)) ∈ V2.prs ∧ ((V2.lab[i]? = some u2 ∧ V2.lab[j]? = some v2) ∨ (V2.lab[i]? = some v2 ∧ V2.lab[j]? = some u2))) := by
      intro V V2 u v u2 v2 nd ep h1 h2 h3 h4 h
      obtain ⟨i, j, hp, h⟩ := h
      have at_ : ∀ {k k2 : Nat} {z : Str}, V.lab[k]? = some z → V.lab[k2]? = some z → k = k2 := fun a b => by rw [← idx_of nd a, ← idx_of nd b]
      refine ⟨i, j, ep ▸ hp, ?_⟩
      rcases h with ⟨a, b⟩ | ⟨a, b⟩
      · rw [at_ a h1, at_ b h3]; exact .inl ⟨h2, h4⟩
      · rw [at_ a h3, at_ b h1]; exact .inr ⟨h4, h2⟩
    constructor
    · intro h
      exact ⟨(hc2.nm _).mpr (List.mem_of_getElem? (im x hxl)), (hc2.nbr _ (List.mem_of_getElem? (im x hxl)) _).mpr (key hW.labs.nd hp.symm gx (im x hxl) gy (im y hyl) ((hc.nbr x hxl y).mp h.2))⟩
    · intro h
      exact ⟨hx, (hc.nbr x hxl y).mpr (key hW2.labs.nd hp (im x hxl) gx (im y hyl) gy ((hc2.nbr _ (List.mem_of_getElem? (im x hxl)) _).mp h.2))⟩
  · have hxl := nm x hx
    rw [hc.outs x, hc2.outs]
    have gx := idx_get hxl
    constructor
    · rintro ⟨k, h1, h2⟩
      have e : k = W.lab.idxOf x := (idx_of hW.labs.nd h2).symm
      exact ⟨k, by rw [hd]; exact h1, by rw [e]; exact im x hxl⟩
    · rintro ⟨k, h1, h2⟩
      have e : k = W.lab.idxOf x := (idx_of hW2.labs.nd h2).symm.trans (idx_of hW2.labs.nd (im x hxl))
      exact ⟨k, by rw [← hd]; exact h1, by rw [e]; exact gx⟩
  · rw [hc.lo, hc2.lo]
    show W2.lo.getD (W2.lab.idxOf _) 0 = W.lo.getD (W.lab.idxOf x) 0 + d
    rw [hlo]
    exact fl x (nm x hx) W.lo hW.llo
  · rw [hc.hi, hc2.hi]
    show W2.hi.getD (W2.lab.idxOf _) 0 = W.hi.getD (W.lab.idxOf x) 0 + d
    rw [hhi]
    exact fl x (nm x hx) W.hi hW.lhi
end L9

/-! charts whose names, neighbours and outlets stand in order -/
namespace L9
open PySem PySem.Spec PyProof.Rows L2
structure Sor (c : Ch) : Prop where
  nm : sortedS c.names = true
  nb : ∀ x ∈ c.names, sortedS (c.nbr x) = true
  ou : ∃ os : List Str, c.outs = c.names.filter fun x => decide (x ∈ os)
theorem Sor.outs {c : Ch} (s : Sor c) (ok : c.Ok) : c.outs = c.names.filter fun x => decide (x ∈ c.outs) := by
  obtain ⟨os, h⟩ := s.ou
  have : ∀ x ∈ c.names, (decide (x ∈ os)) = decide (x ∈ c.outs) := fun x hx => by
    by_cases ho : x ∈ os
    · rw [decide_eq_true ho, decide_eq_true]
      rw [h]
      exact List.mem_filter.mpr ⟨hx, decide_eq_true ho⟩
    · rw [decide_eq_false ho, decide_eq_false]
      rw [h]
      intro z
      exact ho (of_decide_eq_true (List.mem_filter.mp z).2)
  conv => lhs; rw [h]
  exact List.filter_congr this
section
variable {c c2 : Ch}
theorem Sor.names_eq (s : Sor c) (s2 : Sor c2) (ok : c.Ok) (ok2 : c2.Ok) (h : ∀ x, x ∈ c.names ↔ x ∈ c2.names) : c.names = c2.names := sortedS_uniq s.nm s2.nm ((List.perm_ext_iff_of_nodup ok.nd ok2.nd).mpr h)
theorem Sor.nbr_eq (s : Sor c) (s2 : Sor c2) (ok : c.Ok) (ok2 : c2.Ok) {x : Str} (hx : x ∈ c.names) (hx2 : x ∈ c2.names) (h : ∀ y, y ∈ c.nbr x ↔ y ∈ c2.nbr x) : c.nbr x = c2.nbr x :=
  sortedS_uniq (s.nb x hx) (s2.nb x hx2) ((List.perm_ext_iff_of_nodup (ok.nnd x hx) (ok2.nnd x hx2)).mpr h)
theorem Sor.outs_eq (s : Sor c) (s2 : Sor c2) (ok : c.Ok) (ok2 : c2.Ok) (hn : c.names = c2.names) (h : ∀ x, x ∈ c.outs ↔ x ∈ c2.outs) : c.outs = c2.outs := by
  rw [s.outs ok, s2.outs ok2, hn]
  exact List.filter_congr fun x _ => by rw [decide_eq_decide]; exact h x
open Classical in
/-- == of two charts in order, of the same places -/
theorem Sor.same (s : Sor c) (s2 : Sor c2) (ok : c.Ok) (ok2 : c2.Ok) (hn : c.names = c2.names) : sameCh c c2 = decide ((∀ x ∈ c.names, c.lo x = c2.lo x ∧ c.hi x = c2.hi x) ∧ (∀ x ∈ c.names, ∀ y, y ∈ c.nbr x ↔ y ∈ c2.nbr x) ∧ ∀ x, x ∈ c.outs ↔ x ∈ c2.outs) := by
  unfold sameCh
  have e1 : (c.names.all fun x => decide (c.lo x = c2.lo x) && decide (c.hi x = c2.hi x)) = decide (∀ x ∈ c.names, c.lo x = c2.lo x ∧ c.hi x = c2.hi x) := by
    rw [Bool.eq_iff_iff, List.all_eq_true, decide_eq_true_eq]
    exact ⟨fun h x hx => by have := h x hx; rw [Bool.and_eq_true, decide_eq_true_eq, decide_eq_true_eq] at this; exact this, fun h x hx => by rw [Bool.and_eq_true, decide_eq_true_eq, decide_eq_true_eq]; exact h x hx⟩
  have e2 : (c.names.all fun x => decide (c.nbr x = c2.nbr x)) = decide (∀ x ∈ c.names, ∀ y, y ∈ c.nbr x ↔ y ∈ c2.nbr x) := by
    rw [Bool.eq_iff_iff, List.all_eq_true, decide_eq_true_eq]
    exact ⟨fun h x hx y => by rw [of_decide_eq_true (h x hx)], fun h x hx => decide_eq_true (s.nbr_eq s2 ok ok2 hx (by rw [← hn]; exact hx) (h x hx))⟩
  have e3 : decide (c.outs = c2.outs) = decide (∀ x, x ∈ c.outs ↔ x ∈ c2.outs) := by
    rw [decide_eq_decide]
    exact ⟨fun h x => by rw [h], fun h => s.outs_eq s2 ok ok2 hn h⟩
  rw [e1, e2, e3, Bool.eq_iff_iff, Bool.and_eq_true, Bool.and_eq_true, decide_eq_true_eq, decide_eq_true_eq, decide_eq_true_eq, decide_eq_true_eq, and_assoc]
end
/-! ### promises -/
def spTiedS : Sp := fun vs H Q _ => ∃ (a t : Addr) (l : List Str) (ts : List V) (ps : List (Str × Str)), vs = [.ref a, .ref t] ∧ H a = some (.lst (l.map V.str)) ∧ l.Nodup ∧ l.length ≤ 60 ∧ H t = some (.lst ts) ∧ LstAll H ts ps ∧ (∀ p ∈ ps, p.1 ∈ l ∧ p.2 ∈ l ∧ p.1 ≠ p.2) ∧
  ∀ (r : Addr) (H' : Hp) (nbr : Str → List Str), Same H H' → H r = none → TdAt H' r l nbr → (∀ x ∈ l, (nbr x).Nodup ∧ ∀ y, y ∈ nbr x ↔ Tied ps x y) → (∀ x ∈ l, sortedS (nbr x) = true) → Q (.ref r) H'
def spChInitS (C CB : Addr) : Sp := fun vs H Q _ => ∃ (y dx d t o : Addr) (l os : List Str) (ba : Str → Addr) (lo hi : Str → Int) (ts : List V) (ps : List (Str × Str)), vs = [.ref y, .ref d, .ref t, .ref o] ∧ H y = some (.ins C dx []) ∧ H d = some (.dK (byN l ba)) ∧ l.Nodup ∧ l.length ≤ 60 ∧
  (∀ x ∈ l, nameB x = true ∧ x.length ≤ 8 ∧ BndAt CB H (ba x) (lo x) (hi x)) ∧ H t = some (.lst ts) ∧ LstAll H ts ps ∧ (∀ p ∈ ps, p.1 ∈ l ∧ p.2 ∈ l ∧ p.1 ≠ p.2) ∧ H o = some (.lst (os.map V.str)) ∧ (∀ x ∈ os, x ∈ l) ∧
  ∀ (H' : Hp) (c : Ch), But y H H' → ChAt C CB H' y c → c.names.Perm l → sortedS c.names = true → c.lo = lo → c.hi = hi → (∀ x ∈ l, (c.nbr x).Nodup ∧ ∀ z, z ∈ c.nbr x ↔ Tied ps x z) → (∀ x, x ∈ c.outs ↔ x ∈ os) → c.outs.Nodup → (∀ x ∈ l, sortedS (c.nbr x) = true) → c.outs = c.names.filter (fun x => decide (x ∈ os)) → Q .non H'
theorem Sor.of {c : Ch} {l os : List Str} (hp : c.names.Perm l) (h1 : sortedS c.names = true) (h2 : ∀ x ∈ l, sortedS (c.nbr x) = true) (h3 : c.outs = c.names.filter fun x => decide (x ∈ os)) : Sor c := ⟨h1, fun x hx => h2 x (hp.mem_iff.mp hx), os, h3⟩
def spLaidR (C CB : Addr) : Sp := fun vs H Q _ => ∃ (b w : Addr) (W : Wb) (n m : Nat), vs = [.ref b, .ref w] ∧ BoxAt H b n ∧ WbAt H w W b ∧ W.Ok m ∧ m ≤ 9 ∧ n ≤ 800000 ∧
  ∀ (p : Addr) (H' : Hp) (c : Ch), Drw H H' b (n + 40) → H p = none → ChAt C CB H' p c → OfWeb W c → Sor c → Q (.ref p) H'
/-- the chart with other bounds of one place -/
def withB (c c2 : Ch) (x : Str) (l h : Int) : Prop := c2.lo = (fun y => if y = x then l else c.lo y) ∧ c2.hi = (fun y => if y = x then h else c.hi y) ∧ c2.names = c.names ∧ (∀ y ∈ c.names, c2.nbr y = c.nbr y) ∧ c2.outs = c.outs
def spWithBR (C CB : Addr) : Sp := fun vs H Q _ => ∃ (p b : Addr) (x : Str) (c : Ch) (l h : Int), vs = [.ref p, .str x, .ref b] ∧ ChAt C CB H p c ∧ c.Ok ∧ Sor c ∧ (∀ x ∈ c.names, x ∉ c.nbr x) ∧ (∀ x ∈ c.names, nameB x = true ∧ x.length ≤ 8) ∧ x ∈ c.names ∧ BndAt CB H b l h ∧ -MH ≤ l ∧ l ≤ h ∧ h ≤ MH ∧
  ∀ (r : Addr) (H' : Hp) (c2 : Ch), Same H H' → H r = none → ChAt C CB H' r c2 → c2.Ok → Sor c2 → withB c c2 x l h → Q (.ref r) H'
end L9

/-! webs under other names, raised; lands across draws -/
namespace L9
open PySem PySem.Spec PyProof.Rows L2
theorem LdAtC.drw {CL C CB : Addr} {H H' : Hp} {p cp b : Addr} {c : Ch} {h : Str → Int} {n m : Nat} (d : Drw H H' b n) (hb : BoxAt H b m) (k : LdAtC CL C CB H p cp c h) : LdAtC CL C CB H' p cp c h := by
  have hb2 := hb
  obtain ⟨xs, eb, hx⟩ := hb
  obtain ⟨dx, hp, h0, h1, h2⟩ := k
  exact ⟨dx, hp, d.keep _ _ (fun z => by rw [z, eb] at h0; cases h0) h0, h1.drw d hb2, d.keep _ _ (fun z => by rw [z, eb] at h2; cases h2) h2⟩
theorem Labs.perm {l l2 : List Str} (h : Labs l) (p : l2.Perm l) : Labs l2 := ⟨p.nodup_iff.mpr h.nd, fun x hx => h.nm x (p.mem_iff.mp hx)⟩
/-- the web, but for the names and all heights raised -/
def Wb.as (W : Wb) (lab : List Str) (d : Int) : Wb := ⟨lab, W.lo.map (· + d), W.hi.map (· + d), W.prs, W.dr⟩
theorem map_add0 (l : List Int) : l.map (· + 0) = l := by
  have : (fun x : Int => x + 0) = id := funext fun x => Int.add_zero x
  rw [this, List.map_id]
theorem Wb.as0 (W : Wb) (lab : List Str) : W.as lab 0 = ⟨lab, W.lo, W.hi, W.prs, W.dr⟩ := by
  unfold Wb.as
  rw [map_add0, map_add0]
theorem Wb.Ok.as {W : Wb} {m : Nat} {lab : List Str} {d : Int} (hW : W.Ok m) (hl : lab.length = W.lab.length) (L : Labs lab) (hlo : ∀ x ∈ W.lo, -MH ≤ x + d) (hhi : ∀ x ∈ W.hi, x + d ≤ MH) : (W.as lab d).Ok m := by
  refine ⟨by show 1 ≤ lab.length; rw [hl]; exact hW.len1, by show lab.length ≤ m; rw [hl]; exact hW.len, L, ?_, ?_, fun i a b ha hb => ?_, fun p hp => ?_, hW.pnd, hW.pl, fun z hz => ?_, hW.dnd⟩
  · show (W.lo.map _).length = lab.length
    rw [List.length_map, hl, hW.llo]
  · show (W.hi.map _).length = lab.length
    rw [List.length_map, hl, hW.lhi]
  · have ha : (W.lo.map (· + d))[i]? = some a := ha
    have hb : (W.hi.map (· + d))[i]? = some b := hb
    rw [List.getElem?_map] at ha hb
    obtain ⟨u, hu, rfl⟩ : ∃ u, W.lo[i]? = some u ∧ u + d = a := by
      cases h : W.lo[i]? with
      | none => rw [h] at ha; cases ha
      | some u => rw [h] at ha; exact ⟨u, rfl, Option.some.inj ha⟩
    obtain ⟨v, hv, rfl⟩ : ∃ v, W.hi[i]? = some v ∧ v + d = b := by
      cases h : W.hi[i]? with
      | none => rw [h] at hb; cases hb
      | some v => rw [h] at hb; exact ⟨v, rfl, Option.some.inj hb⟩
    have h1 := hlo u (List.mem_of_getElem? hu)
    have h2 := hhi v (List.mem_of_getElem? hv)
    have h3 := (hW.bnd i u v hu hv).2.1
    exact ⟨h1, by omega, h2⟩
  · show 0 ≤ p.1 ∧ p.1 < p.2 ∧ p.2 < (lab.length : Int)
    rw [hl]
    exact hW.prs p hp
  · show 0 ≤ z ∧ z < (lab.length : Int)
    rw [hl]
    exact hW.dr z hz
/-- .. at its place -/
theorem WbAt.as {H : Hp} {w2 l2 f t pq d b : Addr} {ps : List V} {W : Wb} {lab : List Str} {k : Int} (h0 : H w2 = some (.lst [.ref l2, .ref f, .ref t, .ref pq, .ref d])) (h1 : H l2 = some (.lst (lab.map V.str))) (h2 : H f = some (.lst ((W.lo.map (· + k)).map V.int))) (h3 : H t = some (.lst ((W.hi.map (· + k)).map V.int)))
    (h4 : H pq = some (.lst ps)) (h5 : TupAll H ps W.prs) (h6 : H d = some (.lst (W.dr.map V.int))) (n0 : w2 ≠ b) (n1 : l2 ≠ b) (n2 : f ≠ b) (n3 : t ≠ b) (n4 : pq ≠ b) (n5 : d ≠ b) : WbAt H w2 (W.as lab k) b :=
  ⟨l2, f, t, pq, d, ps, h0, h1, h2, h3, h4, h5, h6, n0, n1, n2, n3, n4, n5⟩
/-- both ways -/
theorem Wb.twins {W : Wb} {m : Nat} {lab : List Str} {d : Int} {c c2 : Ch} (hW : W.Ok m) (hW2 : (W.as lab d).Ok m) (hl : lab.length = W.lab.length) (hc : OfWeb W c) (hc2 : OfWeb (W.as lab d) c2) :
    Twin c c2 d (fun x => lab.getD (W.lab.idxOf x) Str.empty) ∧ ∃ g, Twin c2 c (-d) g := by
  refine ⟨web_twin hW hW2 hc hc2 hl rfl rfl rfl rfl, _, web_twin hW2 hW hc2 hc hl.symm rfl rfl ?_ ?_⟩
  · show W.lo = (W.lo.map (· + d)).map (· + -d)
    rw [List.map_map, show ((fun x : Int => x + -d) ∘ fun x => x + d) = id from funext fun x => (by show x + d + -d = x; omega), List.map_id]
  · show W.hi = (W.hi.map (· + d)).map (· + -d)
    rw [List.map_map, show ((fun x : Int => x + -d) ∘ fun x => x + d) = id from funext fun x => (by show x + d + -d = x; omega), List.map_id]
/-- the calm heights, place by place -/
theorem Wb.calms {W : Wb} {m : Nat} {lab : List Str} {d : Int} {c c2 : Ch} {h h2 : Str → Int} (hW : W.Ok m) (hW2 : (W.as lab d).Ok m) (hl : lab.length = W.lab.length) (hc : OfWeb W c) (hc2 : OfWeb (W.as lab d) c2) (hC : CalmOf c h) (hC2 : CalmOf c2 h2) :
    lab.map (fun x => h2 x - d) = W.lab.map h := by
  refine List.ext_getElem? fun i => ?_
  rw [List.getElem?_map, List.getElem?_map]
  cases e : W.lab[i]? with
  | none =>
    rw [List.getElem?_eq_none_iff] at e
    rw [List.getElem?_eq_none_iff.mpr (show lab.length ≤ i by omega)]
    rfl
  | some x =>
    have hi := get_lt e
    have t := (Wb.twins hW hW2 hl hc hc2).1.calm hc.ok hc2.ok hC hC2 ((hc.nm x).mpr (List.mem_of_getElem? e))
    have t : h2 (lab.getD (W.lab.idxOf x) Str.empty) = h x + d := t
    rw [idx_of hW.labs.nd e, List.getD_eq_getElem?_getD, List.getElem?_eq_getElem (show i < lab.length by omega)] at t
    have t : h2 lab[i] = h x + d := t
    rw [List.getElem?_eq_getElem (show i < lab.length by omega)]
    show some (h2 lab[i] - d) = some (h x)
    rw [t, Int.add_sub_cancel]
theorem web_loop {W : Wb} {m : Nat} {c : Ch} (hW : W.Ok m) (hc : OfWeb W c) : ∀ x ∈ c.names, x ∉ c.nbr x := fun x hx h => by
  obtain ⟨i, j, hp, h2⟩ := (hc.nbr x ((hc.nm x).mp hx) x).mp h
  have hlt := (hW.prs _ hp).2.1
  have e : ∀ a b : Nat, W.lab[a]? = some x → W.lab[b]? = some x → a = b := fun a b ha hb => by rw [← idx_of hW.labs.nd ha, ← idx_of hW.labs.nd hb]
  rcases h2 with ⟨ha, hb⟩ | ⟨ha, hb⟩
  · have := e i j ha hb
    dsimp only at hlt
    omega
  · have := e i j ha hb
    dsimp only at hlt
    omega
theorem web_nm {W : Wb} {m : Nat} {c : Ch} (hW : W.Ok m) (hc : OfWeb W c) : ∀ x ∈ c.names, nameB x = true ∧ x.length ≤ 8 := fun x hx =>
  have h := hW.labs.nm x ((hc.nm x).mp hx)
  ⟨h.1, h.2.1⟩
/-- a name set, the slots told anew -/
theorem w_gN {i : Nat} {v : V} {σ σ' : L2.St} {H : Hp} {Q : L2.St → Hp → Prop} (h : σ.set i (some v) = σ') (q : Q σ' H) : gName i v σ H Q := w_gName (by rw [h]; exact q)
end L9

/-! drawn models (a dict of names, bounds, ties, outlets), and charts all of whose lists stand in order -/
namespace L9
open PySem PySem.Spec PyProof.Rows L2
/-- the names of a drawn model, one behind the other -/
def spNamesM : Sp := fun vs H Q _ => ∃ (b : Addr) (m n : Nat), vs = [.ref b, .int m] ∧ BoxAt H b n ∧ 1 ≤ m ∧ m ≤ 26 ∧ n ≤ 800000 ∧
  ∀ (p : Addr) (H' : Hp) (labs : List Str), Drw H H' b (n + 30) → H p = none → H' p = some (.lst (labs.map V.str)) → labs.length = m → Labs labs → Q (.ref p) H'
def sg7 (f k : Nat) : Nat := 97 + (f + 7 * k) % 26
theorem sg7_all : ((List.range 26).all fun f => decide ((List.range 26).map (sg7 f)).Nodup) = true := by decide +kernel
theorem sg7_inj {f i j : Nat} (hi : i < 26) (hj : j < 26) (hf : f < 26) (h : sg7 f i = sg7 f j) : i = j := by
  have h1 := of_decide_eq_true (List.all_eq_true.mp sg7_all f (List.mem_range.mpr hf))
  have li : ((List.range 26).map (sg7 f))[i]? = some (sg7 f i) := by rw [List.getElem?_map, List.getElem?_range hi]; rfl
  have lj : ((List.range 26).map (sg7 f))[j]? = some (sg7 f j) := by rw [List.getElem?_map, List.getElem?_range hj]; rfl
  rw [← h] at lj
  have hl : i < ((List.range 26).map (sg7 f)).length := by rw [List.length_map, List.length_range]; exact hi
  have hl2 : j < ((List.range 26).map (sg7 f)).length := by rw [List.length_map, List.length_range]; exact hj
  rw [List.getElem?_eq_getElem hl] at li
  rw [List.getElem?_eq_getElem hl2] at lj
  exact (List.getElem_inj h1).mp ((Option.some.inj li).trans (Option.some.inj lj).symm)
theorem sg7_let (f k : Nat) : NL9.Let (sg7 f k) := ⟨Nat.le_add_right _ _, by unfold sg7; have := Nat.mod_lt (f + 7 * k) (show 0 < 26 by decide); omega⟩
def nmA (bs : List Nat) (m : Nat) : List (List Nat) := (List.range m).map fun k => bs.take (k + 1)
def nmB (bs : List Nat) (f sz m : Nat) : List (List Nat) := (List.range m).map fun k => bs.take sz ++ [sg7 f k]
def nmC (bs : List Nat) (f sz m : Nat) : List (List Nat) := (List.range m).map fun k => [sg7 f k] ++ bs.take (sz * (k % 2))
theorem nm_len {l : List Nat} {k : Nat} (hl : ∀ c ∈ l, NL9.Let c) : ∀ c ∈ l.take k, NL9.Let c := fun c hc => hl c (List.mem_of_mem_take hc)
theorem nmA_ok {bs : List Nat} {m : Nat} (hb : bs.length = 8) (hm : m ≤ 8) (hl : ∀ c ∈ bs, NL9.Let c) : NL9.Ok (nmA bs m) := by
  refine ⟨NL9.nodup_on (fun a ha b hb2 e => ?_) List.nodup_range, fun x hx => ?_⟩
  · rw [List.mem_range] at ha hb2
    have := congrArg List.length e
    rw [List.length_take, List.length_take] at this
    omega
  · obtain ⟨k, hk, rfl⟩ := List.mem_map.mp hx
    rw [List.mem_range] at hk
    rw [List.length_take]
    exact ⟨by omega, by omega, nm_len hl⟩
theorem nmB_ok {bs : List Nat} {f sz m : Nat} (hf : f < 26) (hs : sz ≤ 7) (hm : m ≤ 26) (hl : ∀ c ∈ bs, NL9.Let c) : NL9.Ok (nmB bs f sz m) := by
  refine ⟨NL9.nodup_on (fun a ha b hb2 e => ?_) List.nodup_range, fun x hx => ?_⟩
  · rw [List.mem_range] at ha hb2
    have h1 := List.append_cancel_left e
    injection h1 with h1 _
    exact sg7_inj (by omega) (by omega) hf h1
  · obtain ⟨k, hk, rfl⟩ := List.mem_map.mp hx
    rw [List.length_append, List.length_take]
    refine ⟨?_, ?_, fun c hc => ?_⟩
    · show 1 ≤ _ + 1
      omega
    · show _ + 1 ≤ 8
      omega
    · rcases List.mem_append.mp hc with h | h
      · exact nm_len hl c h
      · rw [List.mem_singleton.mp h]
        exact sg7_let f k
theorem nmC_ok {bs : List Nat} {f sz m : Nat} (hf : f < 26) (hs : sz ≤ 7) (hm : m ≤ 26) (hl : ∀ c ∈ bs, NL9.Let c) : NL9.Ok (nmC bs f sz m) := by
  refine ⟨NL9.nodup_on (fun a ha b hb2 e => ?_) List.nodup_range, fun x hx => ?_⟩
  · rw [List.mem_range] at ha hb2
    injection e with h1 _
    exact sg7_inj (by omega) (by omega) hf h1
  · obtain ⟨k, hk, rfl⟩ := List.mem_map.mp hx
    have hk2 : sz * (k % 2) ≤ 7 := by
      have : k % 2 ≤ 1 := by omega
      exact Nat.le_trans (Nat.mul_le_mul_left sz this) (by omega)
    rw [List.length_append, List.length_take]
    refine ⟨?_, ?_, fun c hc => ?_⟩
    · show 1 ≤ 1 + _
      omega
    · show 1 + _ ≤ 8
      omega
    · rcases List.mem_append.mp hc with h | h
      · rw [List.mem_singleton.mp h]
        exact sg7_let f k
      · exact nm_len hl c h
theorem iteJ {c : Prop} [Decidable c] {A B : Prop} (h1 : c → A) (h2 : ¬ c → B) : if decide c = true then A else B := by
  by_cases h : c
  · rw [if_pos (decide_eq_true h)]; exact h1 h
  · rw [if_neg (by rw [decide_eq_true_eq]; exact h)]; exact h2 h
theorem perm_textsM {ys : List V} {xs : List Str} (h : ys.Perm (xs.map V.str)) : ∃ ms : List Str, ys = ms.map V.str ∧ ms.Perm xs := by
  have hg : ∀ (zs : List Str), (zs.map V.str).map (fun v => match v with | .str z => z | _ => Str.empty) = zs := fun zs => by
    rw [List.map_map]
    exact (List.map_congr_left (fun _ _ => rfl)).trans (List.map_id zs)
  refine ⟨ys.map fun v => match v with | .str z => z | _ => Str.empty, ?_, ?_⟩
  · rw [List.map_map]
    refine ((List.map_congr_left fun v hv => ?_).trans (List.map_id ys)).symm
    obtain ⟨z, _, rfl⟩ := List.mem_map.mp (h.mem_iff.mp hv)
    rfl
  · have := h.map fun v => match v with | .str z => z | _ => Str.empty
    rw [hg] at this
    exact this
/-- a drawn height -/
def spHeightM : Sp := fun vs H Q _ => ∃ (b : Addr) (wy : Int) (n : Nat), vs = [.ref b, .int wy] ∧ BoxAt H b n ∧ 0 ≤ wy ∧ wy ≤ 5 ∧ n ≤ 900000 ∧
  ∀ (z : Int) (H' : Hp), Drw H H' b (n + 2) → -MH ≤ z → z ≤ MH → Q (.int z) H'
/-- a drawn model: its names, bounds, ties, outlets -/
structure Mdl where
  nm : List Str
  lo : Str → Int
  hi : Str → Int
  ts : List (Str × Str)
  os : List Str
/-- tuples of two texts -/
def TxAll (H : Hp) : List V → List (Str × Str) → Prop
  | [], [] => True
  | v :: vs, (a, c) :: ps => (∃ p, v = .ref p ∧ H p = some (.tup [.str a, .str c])) ∧ TxAll H vs ps
  | _, _ => False
structure Mdl.Ok (M : Mdl) (m : Nat) : Prop where
  labs : Labs M.nm
  l1 : 1 ≤ M.nm.length
  l2 : M.nm.length ≤ m
  bnd : ∀ x ∈ M.nm, -MH ≤ M.lo x ∧ M.lo x ≤ M.hi x ∧ M.hi x ≤ MH
  ts : ∀ p ∈ M.ts, p.1 ∈ M.nm ∧ p.2 ∈ M.nm ∧ p.1 ≠ p.2
  tl : M.ts.length ≤ M.nm.length + 3
  os : M.os.Sublist M.nm
abbrev kS (s : Str) : L2.Key := Sum.inr s
/-- the model at mp -/
def MdAt (H : Hp) (mp : Addr) (M : Mdl) (b : Addr) : Prop := ∃ (lp hp tp op : Addr) (vs : List V), H mp = some (.dK [(kS "low", .ref lp), (kS "high", .ref hp), (kS "ties", .ref tp), (kS "outlets", .ref op)]) ∧ H lp = some (.dK (byI M.nm M.lo)) ∧ H hp = some (.dK (byI M.nm M.hi)) ∧
  H tp = some (.lst vs) ∧ TxAll H vs M.ts ∧ H op = some (.lst (M.os.map V.str)) ∧ mp ≠ b ∧ lp ≠ b ∧ hp ≠ b ∧ tp ≠ b ∧ op ≠ b ∧ lp ≠ hp
def spModel : Sp := fun vs H Q _ => ∃ (b : Addr) (m n : Nat), vs = [.ref b, .int m] ∧ BoxAt H b n ∧ 1 ≤ m ∧ m ≤ 26 ∧ n ≤ 700000 ∧
  ∀ (p : Addr) (H' : Hp) (M : Mdl), Drw H H' b (n + 400) → H p = none → MdAt H' p M b → M.Ok m → Q (.ref p) H'
/-- for k, x in enumerate(a list) -/
theorem for_enum {K : PySem.W.Frag} {a : Addr} {xs : List V} {g : TG} {tb : TS} {D : Ends} {σ : L2.St} {H : Hp} (Pv : Nat → L2.St → Hp → Prop) (h0 : Pv 0 σ H) (hl : ∀ i σ H, i ≤ xs.length → Pv i σ H → SqL K H a xs)
    (hs : ∀ i x σ H T, xs[i]? = some x → Pv i σ H → H T = none → g (.ref T) σ (upd H T (.tup [.int (i : Nat), x])) fun σ2 H2 => tb { D with nx := Pv (i + 1), ct := Pv (i + 1), bk := D.nx } σ2 H2) (hd : ∀ σ H, Pv xs.length σ H → D.nx σ H) :
    ∃ W : Nat → Nat → L2.St → Hp → Prop, (∃ m, W 0 m σ H) ∧ ∀ i m σ H, W i m σ H →
      ((Ite K a).stop i H ∧ D.nx σ H) ∨ ((Ite K a).go i H ∧ ∃ N : L2.St → Hp → Prop, (∀ σ' H', N σ' H' → ∃ m', m' < m ∧ W (i + 1) m' σ' H') ∧ ∀ x H', (Ite K a).yld i H x H' → g x σ H' fun σ2 H2 => tb { D with nx := N, ct := N, bk := D.nx } σ2 H2) := by
  refine ⟨fun i m σ H => m = xs.length - i ∧ i ≤ xs.length ∧ Pv i σ H, ⟨xs.length, by simp, Nat.zero_le _, h0⟩, ?_⟩
  rintro i m σ H ⟨rfl, hi, p⟩
  have q := hl i σ H hi p
  by_cases hlt : i < xs.length
  · refine .inr ⟨⟨xs, xs[i], q, by simp [hlt]⟩, Pv (i + 1), fun σ' H' p' => ⟨xs.length - (i + 1), by omega, rfl, hlt, p'⟩, fun x H' y => ?_⟩
    obtain ⟨T, x, rfl, hT, rfl, y⟩ := y
    exact hs i x σ _ T (y xs q) p hT
  · have e : i = xs.length := by omega
    subst e
    exact .inl ⟨⟨xs, q, Nat.le_refl _⟩, hd σ H p⟩
theorem w_enum {K : PySem.W.Frag} {ta : TA} {σ : L2.St} {H : Hp} {R : It → Hp → Prop} (h : ta σ H fun vs H1 => ∃ a xs, vs = [.ref a] ∧ SqL K H1 a xs ∧ R (Ite K a) H1) : iEnum K ta σ H R := h
/-- what stands while a model is drawn: the names before the i-th are in -/
structure Part (labs : List Str) (i : Nat) (H : Hp) (mp lp hp tp op np : Addr) (lo hi : Str → Int) (ts : List (Str × Str)) (os : List Str) (vs : List V) : Prop where
  m : H mp = some (.dK [(kS "low", .ref lp), (kS "high", .ref hp), (kS "ties", .ref tp), (kS "outlets", .ref op)])
  l : H lp = some (.dK (byI (labs.take i) lo))
  h : H hp = some (.dK (byI (labs.take i) hi))
  t : H tp = some (.lst vs)
  ta : TxAll H vs ts
  o : H op = some (.lst (os.map V.str))
  n : H np = some (.lst (labs.map V.str))
  b : ∀ x ∈ labs.take i, -MH ≤ lo x ∧ lo x ≤ hi x ∧ hi x ≤ MH
  tm : ∀ p ∈ ts, p.1 ∈ labs ∧ p.2 ∈ labs ∧ p.1 ≠ p.2
  os' : os.Sublist (labs.take i)
theorem w_seqG {t u : TS} {D : Ends} {σ : L2.St} {H : Hp} (Pv : L2.St → Hp → Prop) (h2 : ∀ σ' H', Pv σ' H' → u D σ' H') (h1 : ∀ U : L2.St → Hp → Prop, (∀ σ' H', Pv σ' H' → U σ' H') → t { D with nx := U } σ H) : tSeq t u D σ H := h1 _ h2
theorem TxAll.keep {H H' : Hp} (k : ∀ p xs, H p = some (.tup xs) → H' p = some (.tup xs)) : ∀ {vs : List V} {xs : List (Str × Str)}, TxAll H vs xs → TxAll H' vs xs
  | [], [], _ => trivial
  | _ :: _, _ :: _, ⟨⟨p, e, h⟩, t⟩ => ⟨⟨p, e, k _ _ h⟩, t.keep k⟩
theorem TxAll.snoc {H : Hp} {p : Addr} {a c : Str} (h : H p = some (.tup [.str a, .str c])) : ∀ {vs : List V} {xs : List (Str × Str)}, TxAll H vs xs → TxAll H (vs ++ [.ref p]) (xs ++ [(a, c)])
  | [], [], _ => ⟨⟨p, rfl, h⟩, trivial⟩
  | _ :: _, _ :: _, ⟨h1, t⟩ => ⟨h1, TxAll.snoc h t⟩
/-- what stood and is none of the box's stands -/
theorem Part.drw {labs : List Str} {i n m' : Nat} {H H' : Hp} {b mp lp hp tp op np : Addr} {lo hi : Str → Int} {ts : List (Str × Str)} {os : List Str} {vs : List V} (d : Drw H H' b n) (hb : BoxAt H b m') (h1 : mp ≠ b) (h2 : lp ≠ b) (h3 : hp ≠ b) (h4 : tp ≠ b) (h5 : op ≠ b) (h6 : np ≠ b) (p : Part labs i H mp lp hp tp op np lo hi ts os vs) : Part labs i H' mp lp hp tp op np lo hi ts os vs :=
  ⟨d.keep _ _ h1 p.m, d.keep _ _ h2 p.l, d.keep _ _ h3 p.h, d.keep _ _ h4 p.t, p.ta.keep fun q xs e => d.keep _ _ (fun z => by
    obtain ⟨ys, eb, _⟩ := hb
    rw [z, eb] at e
    cases e) e, d.keep _ _ h5 p.o, d.keep _ _ h6 p.n, p.b, p.tm, p.os'⟩
theorem w_gSubM {to ti : TE} {ts : TSet} {v : V} {σ : L2.St} {H : Hp} {k : L2.St → Hp → Prop} (q : to σ H fun o H1 => ti σ H1 fun i H2 => ts o i v H2 fun H3 => k σ H3) : gSub to ti ts v σ H k := q
section
variable {H : Hp} {mp lp hp tp op : Addr} (e : H mp = some (.dK [(kS "low", .ref lp), (kS "high", .ref hp), (kS "ties", .ref tp), (kS "outlets", .ref op)]))
include e
theorem md_low : DGet H mp (.str "low") (some (.ref lp)) := (show valV [(kS "low", V.ref lp), (kS "high", .ref hp), (kS "ties", .ref tp), (kS "outlets", .ref op)] (kS "low") = some (.ref lp) from by rfl) ▸ DGet.k (k := kS "low") e
theorem md_high : DGet H mp (.str "high") (some (.ref hp)) := (show valV [(kS "low", V.ref lp), (kS "high", .ref hp), (kS "ties", .ref tp), (kS "outlets", .ref op)] (kS "high") = some (.ref hp) from by rfl) ▸ DGet.k (k := kS "high") e
theorem md_ties : DGet H mp (.str "ties") (some (.ref tp)) := (show valV [(kS "low", V.ref lp), (kS "high", .ref hp), (kS "ties", .ref tp), (kS "outlets", .ref op)] (kS "ties") = some (.ref tp) from by rfl) ▸ DGet.k (k := kS "ties") e
theorem md_outs : DGet H mp (.str "outlets") (some (.ref op)) := (show valV [(kS "low", V.ref lp), (kS "high", .ref hp), (kS "ties", .ref tp), (kS "outlets", .ref op)] (kS "outlets") = some (.ref op) from by rfl) ▸ DGet.k (k := kS "outlets") e
end
theorem byI_congr {l : List Str} {f g : Str → Int} (h : ∀ x ∈ l, f x = g x) : byI l f = byI l g := List.map_congr_left fun x hx => by rw [h x hx]
theorem putK_at {l : List Str} {f : Str → Int} {z : Str} {v : Int} (h : z ∉ l) : putK (byI l f) (Sum.inr z : L2.Key) (V.int v) = byI (l ++ [z]) (fun y => if y = z then v else f y) := by
  have h1 : byI l f = byI l (fun y => if y = z then v else f y) := byI_congr fun x hx => by
    have hne : x ≠ z := fun e => by rw [e] at hx; exact h hx
    show f x = if x = z then v else f x
    rw [if_neg hne]
  have h2 := putK_byI (f := fun y => if y = z then v else f y) h
  rw [if_pos rfl] at h2
  rw [h1, h2]
/-- one more tie -/
theorem Part.tie {labs : List Str} {i : Nat} {H H' : Hp} {mp lp hp tp op np q : Addr} {lo hi : Str → Int} {ts : List (Str × Str)} {os : List Str} {vs : List V} {x z : Str} (k : ∀ p o, p ≠ tp → H p = some o → H' p = some o) (e : H' tp = some (.lst (vs ++ [.ref q]))) (eq : H' q = some (.tup [.str x, .str z])) (h1 : mp ≠ tp) (h2 : lp ≠ tp) (h3 : hp ≠ tp) (h5 : op ≠ tp) (h6 : np ≠ tp) (hx : x ∈ labs) (hz : z ∈ labs) (hne : x ≠ z) (p : Part labs i H mp lp hp tp op np lo hi ts os vs) :
    Part labs i H' mp lp hp tp op np lo hi (ts ++ [(x, z)]) os (vs ++ [.ref q]) :=
  ⟨k _ _ h1 p.m, k _ _ h2 p.l, k _ _ h3 p.h, e, TxAll.snoc eq (p.ta.keep fun a xs ea => k _ _ (fun w => by rw [w, p.t] at ea; cases ea) ea), k _ _ h5 p.o, k _ _ h6 p.n, p.b, fun y hy => (List.mem_append.mp hy).elim (p.tm y) fun w => by
    rw [List.mem_singleton.mp w]
    exact ⟨hx, hz, hne⟩, p.os'⟩
/-- one more outlet -/
theorem Part.out {labs : List Str} {i : Nat} {H H' : Hp} {mp lp hp tp op np : Addr} {lo hi : Str → Int} {ts : List (Str × Str)} {os os2 : List Str} {vs : List V} (k : ∀ p o, p ≠ op → H p = some o → H' p = some o) (e : H' op = some (.lst (os2.map V.str))) (h1 : mp ≠ op) (h2 : lp ≠ op) (h3 : hp ≠ op) (h4 : tp ≠ op) (h6 : np ≠ op) (ho : os2.Sublist (labs.take i)) (p : Part labs i H mp lp hp tp op np lo hi ts os vs) :
    Part labs i H' mp lp hp tp op np lo hi ts os2 vs :=
  ⟨k _ _ h1 p.m, k _ _ h2 p.l, k _ _ h3 p.h, k _ _ h4 p.t, p.ta.keep fun a xs ea => k _ _ (fun w => by rw [w, p.o] at ea; cases ea) ea, e, k _ _ h6 p.n, p.b, p.tm, ho⟩
theorem TxAll.length {H : Hp} : ∀ {vs : List V} {xs : List (Str × Str)}, TxAll H vs xs → vs.length = xs.length
  | [], [], _ => rfl
  | _ :: _, _ :: _, ⟨_, t⟩ => congrArg (· + 1) t.length
theorem TxAll.hd {K : PySem.W.Frag} {H : Hp} : ∀ {vs : List V} {xs : List (Str × Str)}, TxAll H vs xs → HdAll K H vs xs
  | [], [], _ => trivial
  | _ :: _, _ :: _, ⟨⟨_, e, h⟩, t⟩ => ⟨by rw [e]; exact hd_pair (SqT.of h) (hd_strs [_]).1 (hd_strs [_]).1, t.hd⟩
theorem ite_dec {c : Prop} {i : Decidable c} {A B : Prop} (h1 : c → A) (h2 : ¬ c → B) : if (@decide c i) = true then A else B := by
  by_cases h : c
  · rw [if_pos (decide_eq_true h)]; exact h1 h
  · rw [if_neg (by rw [decide_eq_true_eq]; exact h)]; exact h2 h
theorem TxAll.same {H H' : Hp} (k : Same H H') {vs : List V} {xs : List (Str × Str)} (t : TxAll H vs xs) : TxAll H' vs xs := t.keep fun p xs e => k _ _ e
theorem TxAll.get {H : Hp} : ∀ {vs : List V} {xs : List (Str × Str)} {i : Nat} {v : V}, TxAll H vs xs → vs[i]? = some v → ∃ x p, xs[i]? = some x ∧ v = .ref p ∧ H p = some (.tup [.str x.1, .str x.2])
  | _ :: _, (a, c) :: _, 0, v, ⟨⟨p, e, h⟩, t⟩, hv => ⟨(a, c), p, rfl, by cases hv; exact e, h⟩
  | _ :: _, (a, c) :: _, i + 1, v, ⟨h, t⟩, hv => TxAll.get (i := i) t hv
theorem byI_md {l : List Str} {f : Str → Int} {a b c d : Addr} : byI l f ≠ [(kS "low", .ref a), (kS "high", .ref b), (kS "ties", .ref c), (kS "outlets", .ref d)] := fun h => by
  cases l with
  | nil => cases h
  | cons x l => exact nomatch (Prod.mk.inj (List.cons.inj h).1).2
theorem MdAt.mono {H H' : Hp} {mp b : Addr} {M : Mdl} (s : Same H H') (h : MdAt H mp M b) : MdAt H' mp M b := by
  obtain ⟨lp, hp, tp, op, vs, h1, h2, h3, h4, h5, h6, h7⟩ := h
  exact ⟨lp, hp, tp, op, vs, s _ _ h1, s _ _ h2, s _ _ h3, s _ _ h4, h5.same s, s _ _ h6, h7⟩
theorem MdAt.drw {H H' : Hp} {mp b : Addr} {n m : Nat} {M : Mdl} (d : Drw H H' b n) (hb : BoxAt H b m) (h : MdAt H mp M b) : MdAt H' mp M b := by
  obtain ⟨lp, hp, tp, op, vs, h1, h2, h3, h4, h5, h6, a1, a2, a3, a4, a5, a6⟩ := h
  exact ⟨lp, hp, tp, op, vs, d.keep _ _ a1 h1, d.keep _ _ a2 h2, d.keep _ _ a3 h3, d.keep _ _ a4 h4, h5.keep fun q xs e => d.keep _ _ (fun z => by
    obtain ⟨ys, eb, _⟩ := hb
    rw [z, eb] at e
    cases e) e, d.keep _ _ a5 h6, a1, a2, a3, a4, a5, a6⟩
/-! ### charts in order -/
structure Can (c : Ch) : Prop where
  ok : c.Ok
  nm : ∀ x ∈ c.names, nameB x = true ∧ x.length ≤ 8
  sn : sortedS c.names = true
  irr : ∀ x ∈ c.names, x ∉ c.nbr x
  sb : ∀ x ∈ c.names, sortedS (c.nbr x) = true
  so : c.outs = c.names.filter fun x => decide (x ∈ c.outs)
theorem Can.sor {c : Ch} (k : Can c) : Sor c := ⟨k.sn, k.sb, _, k.so⟩
theorem Can.srt {c : Ch} (k : Can c) : sortStr c.names = c.names := (sortStr_uniq (List.Perm.refl _) k.sn).symm
/-- the chart that Chart(..) makes of these -/
noncomputable def mkC (l : List Str) (lo hi : Str → Int) (ps : List (Str × Str)) (os : List Str) : Ch := ⟨sortStr l, lo, hi, fun x => (sortStr l).filter fun z => decide ((x, z) ∈ ps ∨ (z, x) ∈ ps), (sortStr l).filter fun x => decide (x ∈ os)⟩
def turnC (c : Ch) (os : List Str) : Ch := ⟨c.names, fun x => - c.hi x, fun x => - c.lo x, c.nbr, c.names.filter fun x => decide (x ∈ os)⟩
noncomputable def chM (M : Mdl) : Ch := mkC M.nm M.lo M.hi M.ts M.os
theorem sortedS_filterM {xs : List Str} (p : Str → Bool) (h : sortedS xs = true) : sortedS (xs.filter p) = true := by
  have pw : xs.Pairwise fun a b => ¬ b.cps.toList < a.cps.toList := by
    cases xs with
    | nil => exact .nil
    | cons x r => exact rising_pw r x h
  exact sortedS_of_pairwise _ ((pw.sublist List.filter_sublist).imp fun {a b} g => by rw [ltCps_eq]; exact decide_eq_false g)
theorem mk_of {c2 : Ch} {l os : List Str} {lo hi : Str → Int} {ps : List (Str × Str)} (nd : l.Nodup) (len : l.length ≤ 60) (bnd : ∀ x ∈ l, -MH ≤ lo x ∧ lo x ≤ hi x ∧ hi x ≤ MH) (nm : ∀ x ∈ l, nameB x = true ∧ x.length ≤ 8)
    (hps : ∀ p ∈ ps, p.1 ∈ l ∧ p.2 ∈ l ∧ p.1 ≠ p.2) (hp : c2.names.Perm l) (hs : sortedS c2.names = true) (hlo : c2.lo = lo) (hhi : c2.hi = hi) (hnb : ∀ x ∈ l, (c2.nbr x).Nodup ∧ ∀ z, z ∈ c2.nbr x ↔ Tied ps x z)
    (hns : ∀ x ∈ l, sortedS (c2.nbr x) = true) (ho : c2.outs = c2.names.filter fun x => decide (x ∈ os)) {C CB : Addr} {H : Hp} {p : Addr} (hc : ChAt C CB H p c2) :
    ChAt C CB H p (mkC l lo hi ps os) ∧ Can (mkC l lo hi ps os) := by
  have e1 : c2.names = sortStr l := sortStr_uniq hp hs
  have hm : ∀ x, x ∈ sortStr l ↔ x ∈ l := fun x => by rw [← e1]; exact hp.mem_iff
  have snd : (sortStr l).Nodup := by rw [← e1]; exact hp.nodup_iff.mpr nd
  have ssr : sortedS (sortStr l) = true := by rw [← e1]; exact hs
  have tin : ∀ x z, Tied ps x z → x ∈ l ∧ z ∈ l ∧ x ≠ z := fun x z h => h.elim (fun h => hps _ h) fun h => ⟨(hps _ h).2.1, (hps _ h).1, fun e => (hps _ h).2.2 e.symm⟩
  have mem : ∀ x z, z ∈ (mkC l lo hi ps os).nbr x ↔ Tied ps x z := fun x z => by
    show z ∈ (sortStr l).filter _ ↔ _
    rw [List.mem_filter, decide_eq_true_eq]
    exact ⟨fun h => h.2, fun h => ⟨(hm z).mpr (tin x z h).2.1, h⟩⟩
  have e2 : ∀ x ∈ c2.names, (mkC l lo hi ps os).nbr x = c2.nbr x := fun x hx => by
    have hxl := hp.mem_iff.mp hx
    refine sortedS_uniq (sortedS_filterM _ ssr) (hns x hxl) ((List.perm_ext_iff_of_nodup (snd.filter _) (hnb x hxl).1).mpr fun z => ?_)
    exact (mem x z).trans ((hnb x hxl).2 z).symm
  have e3 : (mkC l lo hi ps os).outs = c2.outs := by rw [ho, e1]; rfl
  refine ⟨hc.nbrs e1.symm hlo.symm hhi.symm e2 e3, ⟨snd, ?_, fun x hx => bnd x ((hm x).mp hx), fun x _ y hy => (List.mem_filter.mp hy).1, fun x _ => snd.filter _, fun x _ y hy => (mem y x).mpr (((mem x y).mp hy).symm), fun x hx => (List.mem_filter.mp hx).1, snd.filter _⟩, fun x hx => nm x ((hm x).mp hx), ssr, fun x _ hx => (tin x x ((mem x x).mp hx)).2.2 rfl, fun x _ => sortedS_filterM _ ssr, ?_⟩
  · show (sortStr l).length ≤ 60
    rw [← e1, hp.length_eq]
    exact len
  · show (sortStr l).filter _ = (sortStr l).filter _
    refine List.filter_congr fun x hx => ?_
    rw [decide_eq_decide]
    exact ⟨fun h => List.mem_filter.mpr ⟨hx, decide_eq_true h⟩, fun h => of_decide_eq_true (List.mem_filter.mp h).2⟩
/-! ### a list, or the empty tuple of a default -/
def TupE (K : PySem.W.Frag) (t : Addr) : Prop := (∀ H : Hp, SqT K H t []) ∧ ∃ ob : Obj, K.lookup t = some ob ∧ ob.cls = .type "tuple"
theorem TupE.ty {K : PySem.W.Frag} {t : Addr} {H : Hp} (h : TupE K t) : TyX K H (.ref t) (.type "tuple") := by
  obtain ⟨_, ob, e, c⟩ := h
  exact .kTuple e c
theorem kit_tt {K : PySem.W.Frag} : PySem.W.kitAny K (.type "tuple") [.type "list", .type "tuple"] = some true := kitAny_cons (b := false) (kit_ty (by decide +kernel)) (fun _ => kitAny_cons (b := true) (kit_ty (by decide +kernel)) (fun e => nomatch e) (fun _ => rfl)) (fun e => nomatch e)
def SqV (K : PySem.W.Frag) (H : Hp) (a : Addr) (xs : List V) : Prop := H a = some (.lst xs) ∨ (TupE K a ∧ xs = [])
section
variable {K : PySem.W.Frag} {H H' : Hp} {a : Addr} {xs : List V}
theorem SqV.same (s : Same H H') (h : SqV K H a xs) : SqV K H' a xs := h.imp (fun e => s _ _ e) id
theorem SqV.but {y : Addr} (s : But y H H') (hy : H y ≠ some (.lst xs)) (h : SqV K H a xs) : SqV K H' a xs := h.imp (fun e => s _ _ (fun z => hy (z ▸ e)) e) id
theorem SqV.isi (h : SqV K H a xs) : ∃ c, TyX K H (.ref a) c ∧ PySem.W.kitAny K c [.type "list", .type "tuple"] = some true := by
  rcases h with h | ⟨h, _⟩
  · exact ⟨_, .base (.lst h), kit_lt⟩
  · exact ⟨_, h.ty, kit_tt⟩
theorem SqV.sq (h : SqV K H a xs) : SqL K H a xs ∨ SqT K H a xs := by
  rcases h with h | ⟨h, rfl⟩
  · exact .inl (SqL.of h)
  · exact .inr (h.1 H)
end
def iSeq (K : PySem.W.Frag) (tl : TE) : TI := fun σ H R => tl σ H fun x H1 => ∃ a, x = .ref a ∧ (((∃ xs, SqL K H1 a xs) ∧ R (Itl K a) H1) ∨ ((∃ xs, SqT K H1 a xs) ∧ R (Itt K a) H1))
theorem w_iSeq {K : PySem.W.Frag} {tl : TE} {σ : L2.St} {H : Hp} {R : It → Hp → Prop} (q : tl σ H fun x H1 => ∃ a, x = .ref a ∧ (((∃ xs, SqL K H1 a xs) ∧ R (Itl K a) H1) ∨ ((∃ xs, SqT K H1 a xs) ∧ R (Itt K a) H1))) : iSeq K tl σ H R := q
theorem pi_seq {X : Cx} {tg l : Expr} {tl : TE} (hl : PE X l tl) : PI X tg l (iSeq X.K tl) := by
  refine ⟨fun pins s σ H R I h => ?_⟩
  refine thn (hl.run pins s σ H _ I h) fun v s1 ⟨x, H1, I1, r1, q1⟩ => ?_
  obtain ⟨a, e, q⟩ := q1
  subst e
  cases r1
  rcases q with ⟨⟨xs, hq⟩, q⟩ | ⟨⟨xs, hq⟩, q⟩
  · obtain ⟨its, rv, p, hz⟩ := I1.list hq
    refine wpAny_pyIter_list p.isList ?_
    refine ⟨s1.heap.objs.size, [s1.heap.objs.size], _, _, H1, rfl, I1.kept (t' := s1.toks) fun b o e => Heap.get?_push_of_some _ e, turn_list a _, ⟨_, Heap.get?_push_size _ rfl, rfl, rfl⟩, fun b hb => ?_, q⟩
    have e : b = s1.heap.objs.size := by simpa using hb
    subst e
    exact I1.fpOk (Nat.le_refl _) (I1.hok.fresh (Nat.le_refl _))
  · obtain ⟨its, rv, p, hz⟩ := I1.tuple hq
    refine wpAny_pyIter_tuple (show s1.heap.IsTuple a its.toArray from p) ?_
    refine ⟨s1.heap.objs.size, [s1.heap.objs.size], _, _, H1, rfl, I1.kept (t' := s1.toks) fun b o e => Heap.get?_push_of_some _ e, turn_tuple a _, ⟨_, Heap.get?_push_size _ rfl, rfl, rfl⟩, fun b hb => ?_, q⟩
    have e : b = s1.heap.objs.size := by simpa using hb
    subst e
    exact I1.fpOk (Nat.le_refl _) (I1.hok.fresh (Nat.le_refl _))
/-- for x in a list, or in the empty tuple -/
theorem for_seq {K : PySem.W.Frag} {a : Addr} {xs : List V} {g : TG} {tb : TS} {D : Ends} {σ : L2.St} {H H0 : Hp} (hv : SqV K H0 a xs) (Pv : Nat → L2.St → Hp → Prop) (h0 : Pv 0 σ H) (hk : ∀ i σ H', i ≤ xs.length → Pv i σ H' → H0 a = some (.lst xs) → H' a = some (.lst xs))
    (hs : ∀ i x σ H, xs[i]? = some x → Pv i σ H → g x σ H fun σ2 H2 => tb { D with nx := Pv (i + 1), ct := Pv (i + 1), bk := D.nx } σ2 H2) (hd : ∀ σ H, Pv xs.length σ H → D.nx σ H) :
    ((∃ ys, SqL K H a ys) ∧ forG (Itl K a) g tb D σ H) ∨ ((∃ ys, SqT K H a ys) ∧ forG (Itt K a) g tb D σ H) := by
  rcases hv with e | ⟨e, rfl⟩
  · exact .inl ⟨⟨_, SqL.of (hk 0 σ H (Nat.zero_le _) h0 e)⟩, for_list Pv h0 (fun i σ H' hi hP => SqL.of (hk i σ H' hi hP e)) hs hd⟩
  · exact .inr ⟨⟨_, e.1 _⟩, for_tup (xs := []) Pv h0 (fun i σ H' hi hP => e.1 _) hs hd⟩
/-! ### promises -/
def spPairV : Sp := fun vs H Q _ => ∃ (t d : Addr) (x y : Str) (l : List Str) (ba : Str → Addr), vs = [.ref t, .ref d] ∧ H t = some (.tup [.str x, .str y]) ∧ H d = some (.dK (byN l ba)) ∧ x ∈ l ∧ y ∈ l ∧ x ≠ y ∧ ∀ H', Same H H' → Q (.bl true) H'
def spTiesV (K : PySem.W.Frag) : Sp := fun vs H Q _ => ∃ (t d : Addr) (ts : List V) (ps : List (Str × Str)) (l : List Str) (ba : Str → Addr), vs = [.ref t, .ref d] ∧ SqV K H t ts ∧ TxAll H ts ps ∧ H d = some (.dK (byN l ba)) ∧ (∀ p ∈ ps, p.1 ∈ l ∧ p.2 ∈ l ∧ p.1 ≠ p.2) ∧ ∀ H', Same H H' → Q .non H'
def spListV (K : PySem.W.Frag) : Sp := fun vs H Q _ => ∃ (o d : Addr) (os l : List Str) (ba : Str → Addr), vs = [.ref o, .ref d] ∧ SqV K H o (os.map V.str) ∧ H d = some (.dK (byN l ba)) ∧ (∀ x ∈ os, x ∈ l) ∧ ∀ H', Same H H' → Q .non H'
def spTiedV (K : PySem.W.Frag) : Sp := fun vs H Q _ => ∃ (a t : Addr) (l : List Str) (ts : List V) (ps : List (Str × Str)), vs = [.ref a, .ref t] ∧ H a = some (.lst (l.map V.str)) ∧ l.Nodup ∧ l.length ≤ 60 ∧ SqV K H t ts ∧ TxAll H ts ps ∧ (∀ p ∈ ps, p.1 ∈ l ∧ p.2 ∈ l ∧ p.1 ≠ p.2) ∧
  ∀ (r : Addr) (H' : Hp) (nbr : Str → List Str), Same H H' → H r = none → TdAt H' r l nbr → (∀ x ∈ l, (nbr x).Nodup ∧ ∀ y, y ∈ nbr x ↔ Tied ps x y) → (∀ x ∈ l, sortedS (nbr x) = true) → Q (.ref r) H'
def spChInitV (K : PySem.W.Frag) (C CB : Addr) : Sp := fun vs H Q _ => ∃ (y dx d t o : Addr) (l os : List Str) (ba : Str → Addr) (lo hi : Str → Int) (ts : List V) (ps : List (Str × Str)), vs = [.ref y, .ref d, .ref t, .ref o] ∧ H y = some (.ins C dx []) ∧ H d = some (.dK (byN l ba)) ∧ l.Nodup ∧ l.length ≤ 60 ∧
  (∀ x ∈ l, nameB x = true ∧ x.length ≤ 8 ∧ BndAt CB H (ba x) (lo x) (hi x) ∧ -MH ≤ lo x ∧ lo x ≤ hi x ∧ hi x ≤ MH) ∧ SqV K H t ts ∧ TxAll H ts ps ∧ (∀ p ∈ ps, p.1 ∈ l ∧ p.2 ∈ l ∧ p.1 ≠ p.2) ∧ SqV K H o (os.map V.str) ∧ (∀ x ∈ os, x ∈ l) ∧
  ∀ (H' : Hp), But y H H' → ChAt C CB H' y (mkC l lo hi ps os) → Can (mkC l lo hi ps os) → Q .non H'
theorem Can.turn {c : Ch} (k : Can c) {os : List Str} : Can (turnC c os) :=
  ⟨⟨k.ok.nd, k.ok.len, fun x hx => by have := k.ok.bnd x hx; show -MH ≤ -c.hi x ∧ -c.hi x ≤ -c.lo x ∧ -c.lo x ≤ MH; omega, k.ok.nin, k.ok.nnd, k.ok.sy, fun x hx => (List.mem_filter.mp hx).1, k.ok.nd.sublist List.filter_sublist⟩, k.nm, k.sn, k.irr, k.sb, by
    refine List.filter_congr fun x hx => ?_
    rw [decide_eq_decide]
    exact ⟨fun h => List.mem_filter.mpr ⟨hx, decide_eq_true h⟩, fun h => of_decide_eq_true (List.mem_filter.mp h).2⟩⟩
theorem turn_of {c : Ch} (k : Can c) {ps : List (Str × Str)} {os : List Str} (ht : ∀ x ∈ c.names, ∀ z, Tied ps x z ↔ z ∈ c.nbr x) {C CB : Addr} {H : Hp} {p : Addr} (hc : ChAt C CB H p (mkC c.names (fun x => -c.hi x) (fun x => -c.lo x) ps os)) : ChAt C CB H p (turnC c os) := by
  refine hc.nbrs k.srt.symm rfl rfl (fun x hx => ?_) (by show c.names.filter _ = (sortStr c.names).filter _; rw [k.srt])
  have hx : x ∈ c.names := by rw [← k.srt]; exact hx
  show c.nbr x = (sortStr c.names).filter _
  rw [k.srt]
  refine sortedS_uniq (k.sb x hx) (sortedS_filterM _ k.sn) ((List.perm_ext_iff_of_nodup (k.ok.nnd x hx) (k.ok.nd.filter _)).mpr fun z => ?_)
  rw [List.mem_filter, decide_eq_true_eq]
  exact ⟨fun h => ⟨k.ok.nin x hx z h, (ht x hx z).mpr h⟩, fun h => (ht x hx z).mp h.2⟩
/-- the chart turned about -/
def spTurnV (K : PySem.W.Frag) (C CB : Addr) : Sp := fun vs H Q _ => ∃ (p op : Addr) (c : Ch) (os : List Str), vs = [.ref p, .ref op] ∧ ChAt C CB H p c ∧ Can c ∧ SqV K H op (os.map V.str) ∧ (∀ x ∈ os, x ∈ c.names) ∧
  ∀ (r : Addr) (H' : Hp), Same H H' → H r = none → ChAt C CB H' r (turnC c os) → Q (.ref r) H'
/-- the ties of a chart, each once -/
def spTiesN (C CB : Addr) : Sp := fun vs H Q _ => ∃ (p : Addr) (c : Ch), vs = [.ref p] ∧ ChAt C CB H p c ∧ c.Ok ∧ (∀ x ∈ c.names, x ∉ c.nbr x) ∧
  ∀ (r : Addr) (H' : Hp) (ts : List V) (ps : List (Str × Str)), Same H H' → H r = none → H' r = some (.lst ts) → TxAll H' ts ps → (∀ p ∈ ps, p.1 ∈ c.names ∧ p.2 ∈ c.names ∧ p.1 ≠ p.2) → (∀ x ∈ c.names, ∀ z, Tied ps x z ↔ z ∈ c.nbr x) → Q (.ref r) H'
theorem TxAll.app {H : Hp} {v : V} {x : Str × Str} (h : ∃ p, v = .ref p ∧ H p = some (.tup [.str x.1, .str x.2])) : ∀ {vs : List V} {xs : List (Str × Str)}, TxAll H vs xs → TxAll H (vs ++ [v]) (xs ++ [x])
  | [], [], _ => ⟨h, trivial⟩
  | _ :: _, _ :: _, ⟨h0, t⟩ => ⟨h0, TxAll.app h t⟩
  | [], _ :: _, h => h.elim
  | _ :: _, [], h => h.elim
theorem TxAll.upd {H : Hp} {D : Addr} {ys : List V} {o : HO} (eD : H D = some (.lst ys)) {vs : List V} {xs : List (Str × Str)} (t : TxAll H vs xs) : TxAll (L2.upd H D o) vs xs := by
  refine t.keep fun p zs e => ?_
  by_cases z : p = D
  · rw [z, eD] at e
    cases e
  · exact (upd_ne z).trans e
def rowT (c : Ch) (x : Str) : List (Str × Str) := ((c.nbr x).filter fun y => ltR (0, x) (0, y)).map fun y => (x, y)
/-! ### objects made -/
theorem same_made {H : Hp} {x dx : Addr} {o1 o2 : HO} (nx : H x = none) (nd : H dx = none) : Same H (upd (upd H dx o1) x o2) := fun p o e => by
  rw [upd_ne (ne_of_none e nx), upd_ne (ne_of_none e nd)]
  exact e
theorem go_bnd {CB : Addr} {H : Hp} {Q : Addr → Hp → Prop} {E : XK} {l h : Int} (b : -MH ≤ l ∧ l ≤ h ∧ h ≤ MH) (q : ∀ (y : Addr) (H' : Hp), Same H H' → H y = none → BndAt CB H' y l h → Q y H') :
    ∀ x dx, H x = none → H dx = none → dx ≠ x → spBInitY CB (.ref x :: ([.int l, .int h] ++ [])) (upd (upd H dx (.own x)) x (.ins CB dx [])) (fun v H2 => v = .non ∧ Q x H2) E := by
  intro x dx nx nd hd
  have hb2 : ∀ z : Int, -MH ≤ z → z ≤ MH → heightB z = true := fun z a b => by
    unfold heightB
    rw [decide_eq_true a, decide_eq_true b]
    rfl
  exact ⟨x, dx, l, h, rfl, upd_same, hb2 _ b.1 (by omega), hb2 _ (by omega) b.2.2, b.2.1, rfl, q x _ (Same.at (same_made nx nd) nx) nx ⟨dx, upd_same⟩⟩
theorem go_chart {K : PySem.W.Frag} {C CB : Addr} {H : Hp} {Q : Addr → Hp → Prop} {E : XK} {d t o : Addr} {l os : List Str} {ba : Str → Addr} {lo hi : Str → Int} {ts : List V} {ps : List (Str × Str)} (hd : H d = some (.dK (byN l ba))) (nd : l.Nodup) (len : l.length ≤ 60)
    (hb : ∀ x ∈ l, nameB x = true ∧ x.length ≤ 8 ∧ BndAt CB H (ba x) (lo x) (hi x) ∧ -MH ≤ lo x ∧ lo x ≤ hi x ∧ hi x ≤ MH) (ht : SqV K H t ts) (hps : TxAll H ts ps) (hok : ∀ p ∈ ps, p.1 ∈ l ∧ p.2 ∈ l ∧ p.1 ≠ p.2) (ho : SqV K H o (os.map V.str)) (hos : ∀ x ∈ os, x ∈ l)
    (q : ∀ (y : Addr) (H' : Hp), Same H H' → H y = none → ChAt C CB H' y (mkC l lo hi ps os) → Can (mkC l lo hi ps os) → Q y H') :
    ∀ x dx, H x = none → H dx = none → dx ≠ x → spChInitV K C CB (.ref x :: ([.ref d, .ref t] ++ [.ref o])) (upd (upd H dx (.own x)) x (.ins C dx [])) (fun v H2 => v = .non ∧ Q x H2) E := by
  intro x dx nx nd2 hne
  have s := same_made (o1 := .own x) (o2 := .ins C dx []) nx nd2
  exact ⟨x, dx, d, t, o, l, os, ba, lo, hi, ts, ps, rfl, upd_same, s _ _ hd, nd, len, fun z hz => ⟨(hb z hz).1, (hb z hz).2.1, (hb z hz).2.2.1.mono s, (hb z hz).2.2.2⟩, ht.same s, hps.same s, hok, ho.same s, hos, fun H' hbut hch hcan => ⟨rfl, q x H' (fun a ob e => hbut _ _ (ne_of_none e nx) (s _ _ e)) nx hch hcan⟩⟩
theorem go_land {CL C CB : Addr} {H : Hp} {Q : Addr → Hp → Prop} {E : XK} {p d : Addr} {c : Ch} {l : List Str} {h : Str → Int} (hc : ChAt C CB H p c) (ok : c.Ok) (hd : H d = some (.dK (byI l h))) (nd : l.Nodup) (hm : ∀ x, x ∈ l ↔ x ∈ c.names) (hb : ∀ x ∈ c.names, c.lo x ≤ h x ∧ h x ≤ c.hi x)
    (q : ∀ (y : Addr) (H' : Hp), Same H H' → H y = none → LdAtC CL C CB H' y p c h → Q y H') :
    ∀ x dx, H x = none → H dx = none → dx ≠ x → spLdInitC CL C CB (.ref x :: ([.ref p, .ref d] ++ [])) (upd (upd H dx (.own x)) x (.ins CL dx [])) (fun v H2 => v = .non ∧ Q x H2) E := by
  intro x dx nx nd2 hne
  have s := same_made (o1 := .own x) (o2 := .ins CL dx []) nx nd2
  exact ⟨x, dx, p, d, c, l, h, rfl, upd_same, hc.mono s, ok, s _ _ hd, nd, hm, hb, fun H' hbut hl => ⟨rfl, q x H' (fun a ob e => hbut _ _ (ne_of_none e nx) (s _ _ e)) nx hl⟩⟩
def spChartM (C CB : Addr) : Sp := fun vs H Q _ => ∃ (mp b : Addr) (M : Mdl) (m : Nat), vs = [.ref mp] ∧ MdAt H mp M b ∧ M.Ok m ∧ m ≤ 26 ∧ ∀ (r : Addr) (H' : Hp), Same H H' → H r = none → ChAt C CB H' r (chM M) → Can (chM M) → Q (.ref r) H'
theorem w_items {td : TE} {σ : L2.St} {H : Hp} {R : It → Hp → Prop} (q : td σ H fun x H1 => ∃ d o kvs, x = .ref d ∧ H1 d = some (.frz o (.dK kvs)) ∧ R (Iti d o kvs) H1) : iItems td σ H R := q
theorem pairs_byN {K : PySem.W.Frag} {H : Hp} : ∀ {l : List Str} {ps : List Addr} {ba : Str → Addr}, ps.length = l.length → (∀ (j : Nat) (x : Str) (p : Addr), l[j]? = some x → ps[j]? = some p → H p = some (.tup [.str x, .ref (ba x)])) →
    Paired (fun p kv => SqT K H p [kV kv.1, kv.2]) ps (byN l ba)
  | [], [], _, _, _ => .nil
  | x :: l, p :: ps, ba, hl, h => .cons (SqT.of (h 0 x p rfl rfl)) (pairs_byN (Nat.succ.inj hl) fun j y q h1 h2 => h (j + 1) y q h1 h2)
  | [], _ :: _, _, hl, _ => nomatch hl
  | _ :: _, [], _, hl, _ => nomatch hl
theorem w_iKeys {td : TE} {σ : L2.St} {H : Hp} {R : It → Hp → Prop} (q : td σ H fun x H1 => ∃ d o, x = .ref d ∧ ((∃ kvs, H1 d = some (.frz o (.dK kvs)) ∧ R (Itk d o kvs) H1) ∨ ∃ kvs, H1 d = some (.frz o (.dT kvs)) ∧ R (Itkt d o kvs) H1)) : iKeys td σ H R := q
section
variable {K : PySem.W.Frag}
def rowS (p : Int × Option Int) : List V := [.int p.1, .bl p.2.isNone, .int (p.2.getD 0)]
/-- tuples, item by item -/
structure TupX (H : Hp) (us : List V) (ps : List (Int × Option Int)) : Prop where
  len : us.length = ps.length
  at_ : ∀ (i : Nat) v z, us[i]? = some v → ps[i]? = some z → ∃ p, v = .ref p ∧ H p = some (.tup (rowS z))
theorem TupX.nil {H : Hp} : TupX H [] [] := ⟨rfl, fun i v z h => by simp at h⟩
theorem TupX.same {H H' : Hp} {us : List V} {ps : List (Int × Option Int)} (s : Same H H') (h : TupX H us ps) : TupX H' us ps := ⟨h.len, fun i v z e1 e2 => by
  obtain ⟨p, a, b⟩ := h.at_ i v z e1 e2
  exact ⟨p, a, s _ _ b⟩⟩
theorem TupX.upd {H : Hp} {D : Addr} {ys : List V} {ob : HO} {us : List V} {ps : List (Int × Option Int)} (eD : H D = some (.lst ys)) (h : TupX H us ps) : TupX (L2.upd H D ob) us ps := ⟨h.len, fun i v z e1 e2 => by
  obtain ⟨p, a, b⟩ := h.at_ i v z e1 e2
  refine ⟨p, a, (upd_ne fun e => ?_).trans b⟩
  rw [e, eD] at b
  cases b⟩
theorem TupX.app {H : Hp} {us : List V} {ps : List (Int × Option Int)} {v : V} {z : Int × Option Int} (h : TupX H us ps) (hv : ∃ p, v = .ref p ∧ H p = some (.tup (rowS z))) : TupX H (us ++ [v]) (ps ++ [z]) := by
  refine ⟨by simp [h.len], fun i v' z' e1 e2 => ?_⟩
  rcases Nat.lt_or_ge i us.length with hi | hi
  · rw [List.getElem?_append_left hi] at e1
    rw [List.getElem?_append_left (by rw [← h.len]; exact hi)] at e2
    exact h.at_ i v' z' e1 e2
  · rw [List.getElem?_append_right hi] at e1
    rw [List.getElem?_append_right (by rw [← h.len]; exact hi), ← h.len] at e2
    cases hk : i - us.length with
    | zero =>
      rw [hk] at e1 e2
      cases e1
      cases e2
      exact hv
    | succ k => rw [hk] at e1; simp at e1
theorem TupX.hd {H : Hp} : ∀ {ps : List (Int × Option Int)} {us : List V}, TupX H us ps → HdAll K H us (ps.map spanT)
  | [], us, h => by
    have := List.length_eq_zero_iff.mp h.len
    subst this
    exact trivial
  | z :: ps, [], h => by
    have := h.len
    cases this
  | z :: ps, v :: us, h => by
    obtain ⟨p, rfl, ep⟩ := h.at_ 0 v z rfl rfl
    refine ⟨?_, TupX.hd ⟨Nat.succ.inj h.len, fun i v' z' e1 e2 => h.at_ (i + 1) v' z' e1 e2⟩⟩
    exact .tup (SqT.of ep) (.cons (.int _) (.cons (.bl _) (.cons (.int _) .nil)))
end
def spSpans (K : PySem.W.Frag) : Sp := fun vs H Q _ => ∃ (r : Addr) (us : List V) (hs : List (Str × Int × Option Int)), vs = [.ref r] ∧ H r = some (.lst us) ∧ HolAll H us hs ∧ hs.length ≤ 60 ∧
  ∀ (p : Addr) (H' : Hp) (ts : List V), Same H H' → H p = none → H' p = some (.lst ts) → HdAll K H' ts (((hs.map keyD).map spanT).mergeSort (PySem.W.dataLe false PySem.W.Datum.toD)) → Q (.ref p) H'
theorem optOr {o : Option Int} : (if o.getD 0 = 0 then 0 else o.getD 0) = o.getD 0 := by split <;> simp_all
theorem pe_orTK {X : Cx} {K' : PySem.W.Frag} (h : X.K = K') {a b : Expr} {rest : List Expr} {pos : Pos} {ta tb : TE} (ha : PE X a ta) (hb : PE X (.BoolOp .Or (b :: rest) pos) tb) : PE X (.BoolOp .Or (a :: b :: rest) pos) (tOrT K' ta tb) := by subst h; exact pe_orT ha hb
theorem w_orT {K : PySem.W.Frag} {ta tb : TE} {σ : L2.St} {H : Hp} {Q : VK} (q : ta σ H fun x H1 => ∃ k, TruV K x H1 k ∧ if k = true then Q x H1 else tb σ H1 Q) : tOrT K ta tb σ H Q := q
/-- f(e, .., k = v, ..) -/
theorem pe_calK {X : Cx} {x : Str} {k n : Nat} {ps ks : List Str} {gV : List V → List V → List V} {sp : Sp} {p pos : Pos} {e : Expr} {es : List Expr} {kws : List Keyword} {t tk : TA} (C : CalK X.prog X.w X.K X.mg X.base x k ps n ks gV sp) (hr : Room k X.A) (hg : Gl X x) (ha : PA X (e :: es) t) (hkw : PK X kws tk)
    (hall : (backToKw pos (keywordEach kws X.env)).all (·.1.isSome) = true := by rfl) (hks : (backToKw pos (keywordEach kws X.env)).filterMap (·.1) = ks := by rfl)
    (hdb : (x == ("__debug__" : Str)) = false := by decide) (he : starEach (e :: es) X.env = (false, eval e X.env) :: starEach es X.env := by rfl)
    (hpl : ((backTo pos (starEach (e :: es) X.env)).any (·.1) || (backToKw pos (keywordEach kws X.env)).any (·.1.isNone)) = false := by rfl) :
    PE X (.Call (.Name x p) (e :: es) kws pos) (tCallN n ks.length sp gV E0 t tk) := by
  obtain ⟨f, fd, g, G, m, kp, b⟩ := C.ex
  exact pe_callN G hr hg m kp b pass0 ha hkw hall hks hdb he hpl
theorem w_calN {n m : Nat} {sp : Sp} {gV : List V → List V → List V} {E : XK} {t tk : TA} {σ : L2.St} {H : Hp} {Q : VK} (q : t σ H fun vs H1 => tk σ H1 fun zs H2 => vs.length = n ∧ zs.length = m ∧ sp (gV vs zs) H2 Q E) : L2.tCallN n m sp gV E t tk σ H Q := q
theorem pairs_byI {K : PySem.W.Frag} {H : Hp} : ∀ {l : List Str} {ps : List Addr} {f : Str → Int}, ps.length = l.length → (∀ (j : Nat) (x : Str) (p : Addr), l[j]? = some x → ps[j]? = some p → H p = some (.tup [.str x, .int (f x)])) →
    Paired (fun p kv => SqT K H p [kV kv.1, kv.2]) ps (byI l f)
  | [], [], _, _, _ => .nil
  | x :: l, p :: ps, f, hl, h => .cons (SqT.of (h 0 x p rfl rfl)) (pairs_byI (Nat.succ.inj hl) fun j y q h1 h2 => h (j + 1) y q h1 h2)
  | [], _ :: _, _, hl, _ => nomatch hl
  | _ :: _, [], _, hl, _ => nomatch hl
theorem byI_keys (l : List Str) (f : Str → Int) : (byI l f).map (·.1) = l.map fun x => (Sum.inr x : L2.Key) := by
  unfold byI
  rw [List.map_map]
  rfl
theorem mergeII (l : List Str) (f : Str → Int) (h : l.Nodup) : mergeK [] (byI l f) = byI l f := by
  rw [mergeK_all _ [] (by rw [List.nil_append, byI_keys]; exact inr_nodup h)]
  rfl
theorem byI_get {l : List Str} {f : Str → Int} {i : Nat} (hi : i < l.length) : ∃ x, l[i]? = some x ∧ (byI l f)[i]? = some ((Sum.inr x : L2.Key), V.int (f x)) := by
  refine ⟨l[i], List.getElem?_eq_getElem hi, ?_⟩
  unfold byI
  rw [List.getElem?_map, List.getElem?_eq_getElem hi]
  rfl
/-- C(e, ..) where defaults fill up -/
structure ICalD (P : Program) (w : World) (K : PySem.W.Frag) (mg : Str → Option Value) (base : Heap) (x : Str) (C : Addr) (k : Nat) (ps : List Str) (dvs : List V) (sp : Sp) : Prop where
  ex : ∃ (f : Addr) (fd : FuncData) (ds : List Value), FnOk P w K mg base CX0 k f fd ps sp ∧ Mk K C f ∧ Vals dvs ds ∧ Binds K fd ps ds ∧ mg x = some (.ref C)
theorem ICalD.pe {X : Cx} {C : Addr} {x : Str} {k : Nat} {ps : List Str} {dvs : List V} {sp : Sp} {e : Expr} {es : List Expr} {t : TA} {pos p1 : Pos} (M : ICalD X.prog X.w X.K X.mg X.base x C k ps dvs sp) (hr : Room (k + 1) X.A) (hg : Gl X x) (ha : PA X (e :: es) t) (hdb : (x == ("__debug__" : Str)) = false := by decide)
    (he : starEach (e :: es) X.env = (false, eval e X.env) :: starEach es X.env := by rfl) (hpl : (backTo pos (starEach es X.env)).any (·.1) = false := by rfl) :
    PE X (.Call (.Name x p1) (e :: es) [] pos) (tMake C sp dvs E0 t) := by
  obtain ⟨f, fd, ds, G, M, hd, b, hm⟩ := M.ex
  exact pe_make M G hr hg hm b hd pass0 ha hdb he hpl
/-- a chart stands while numbers are drawn -/
theorem Drw.kp {H H' : Hp} {b q : Addr} {n m : Nat} {o : HO} (d : Drw H H' b n) (hb : BoxAt H b m) (e : H q = some o) (hk : ∀ x y z, o ≠ .lst [.int x, .int y, .int z]) : H' q = some o := d.keep _ _ (fun z => by
  obtain ⟨xs, eb, x, y, w, rfl, _⟩ := hb
  rw [z, eb] at e
  exact hk _ _ _ (Option.some.inj e).symm) e
theorem strs_no (l : List Str) : ∀ x y z, HO.lst (l.map V.str) ≠ .lst [.int x, .int y, .int z] := fun x y z h => by
  have h := HO.lst.inj h
  cases l with
  | nil => cases h
  | cons a l => exact nomatch (List.cons.inj h).1
theorem BndAt.drw {CB : Addr} {H H' : Hp} {b q : Addr} {n m : Nat} {l h : Int} (d : Drw H H' b n) (hb : BoxAt H b m) (e : BndAt CB H q l h) : BndAt CB H' q l h := by
  obtain ⟨dx, e⟩ := e
  exact ⟨dx, d.kp hb e (fun _ _ _ z => nomatch z)⟩
theorem ChAt.drwB {C CB : Addr} {H H' : Hp} {b p : Addr} {n m : Nat} {c : Ch} (d : Drw H H' b n) (hb : BoxAt H b m) (h : ChAt C CB H p c) : ChAt C CB H' p c := by
  obtain ⟨dx, bb, t, o, h0, ⟨ba, h1, h2⟩, ⟨ta, h3, h4⟩, h5⟩ := h
  exact ⟨dx, bb, t, o, d.kp hb h0 (fun _ _ _ z => nomatch z), ⟨ba, d.kp hb h1 (fun _ _ _ z => nomatch z), fun x hx => (h2 x hx).drw d hb⟩, ⟨ta, d.kp hb h3 (fun _ _ _ z => nomatch z), fun x hx => d.kp hb (h4 x hx) (strs_no _)⟩, d.kp hb h5 (strs_no _)⟩
theorem LdAt.drw {CL C CB : Addr} {H H' : Hp} {b p : Addr} {n m : Nat} {c : Ch} {h : Str → Int} (d : Drw H H' b n) (hb : BoxAt H b m) (k : LdAt CL C CB H p c h) : LdAt CL C CB H' p c h := by
  obtain ⟨dx, cp, hp, e1, e2, e3⟩ := k
  exact ⟨dx, cp, hp, d.kp hb e1 (fun _ _ _ z => nomatch z), e2.drwB d hb, d.kp hb e3 (fun _ _ _ z => nomatch z)⟩
/-- heights of a land, within the bounds, the names in any order -/
def spHeightsM : Sp := fun vs H Q _ => ∃ (b mp : Addr) (M : Mdl) (n m : Nat), vs = [.ref b, .ref mp] ∧ BoxAt H b n ∧ MdAt H mp M b ∧ M.Ok m ∧ m ≤ 26 ∧ n ≤ 700000 ∧
  ∀ (p : Addr) (H' : Hp) (l : List Str) (h : Str → Int), Drw H H' b (n + 120) → H p = none → H' p = some (.dK (byI l h)) → l.Perm M.nm → (∀ x ∈ M.nm, M.lo x ≤ h x ∧ h x ≤ M.hi x) → Q (.ref p) H'
end L9

/-! charts changed; passes, rims, clipped lands -/
namespace L9
open PySem PySem.Spec PyProof.Rows L2
/-- a chart in order with other bounds -/
def boundC (c : Ch) (lo hi : Str → Int) : Ch := ⟨c.names, lo, hi, c.nbr, c.outs⟩
theorem Can.bound {c : Ch} (k : Can c) {lo hi : Str → Int} (hb : ∀ x ∈ c.names, -MH ≤ lo x ∧ lo x ≤ hi x ∧ hi x ≤ MH) : Can (boundC c lo hi) :=
  ⟨⟨k.ok.nd, k.ok.len, hb, k.ok.nin, k.ok.nnd, k.ok.sy, k.ok.oin, k.ok.ond⟩, k.nm, k.sn, k.irr, k.sb, k.so⟩
theorem bound_of {c : Ch} (k : Can c) {lo hi : Str → Int} {ps : List (Str × Str)} (ht : ∀ x ∈ c.names, ∀ z, Tied ps x z ↔ z ∈ c.nbr x) {C CB : Addr} {H : Hp} {p : Addr} (hc : ChAt C CB H p (mkC c.names lo hi ps c.outs)) : ChAt C CB H p (boundC c lo hi) := by
  refine hc.nbrs k.srt.symm rfl rfl (fun x hx => ?_) (by show c.outs = (sortStr c.names).filter _; rw [k.srt]; exact k.so)
  have hx : x ∈ c.names := by rw [← k.srt]; exact hx
  show c.nbr x = (sortStr c.names).filter _
  rw [k.srt]
  refine sortedS_uniq (k.sb x hx) (sortedS_filterM _ k.sn) ((List.perm_ext_iff_of_nodup (k.ok.nnd x hx) (k.ok.nd.filter _)).mpr fun z => ?_)
  rw [List.mem_filter, decide_eq_true_eq]
  exact ⟨fun h => ⟨k.ok.nin x hx z h, (ht x hx z).mpr h⟩, fun h => (ht x hx z).mp h.2⟩
def pinK (c : Ch) (h : Str → Int) : Ch := boundC c h h
def withK (c : Ch) (x : Str) (l h : Int) : Ch := boundC c (fun y => if y = x then l else c.lo y) (fun y => if y = x then h else c.hi y)
theorem Can.withB {c : Ch} (k : Can c) {x : Str} {l h : Int} (b : -MH ≤ l ∧ l ≤ h ∧ h ≤ MH) : Can (withK c x l h) := k.bound fun y hy => by
  show -MH ≤ (if y = x then l else c.lo y) ∧ (if y = x then l else c.lo y) ≤ (if y = x then h else c.hi y) ∧ (if y = x then h else c.hi y) ≤ MH
  by_cases e : y = x
  · rw [if_pos e, if_pos e]; exact b
  · rw [if_neg e, if_neg e]; exact k.ok.bnd y hy
theorem Can.pin {c : Ch} (k : Can c) {h : Str → Int} (hb : ∀ x ∈ c.names, c.lo x ≤ h x ∧ h x ≤ c.hi x) : Can (pinK c h) := k.bound fun y hy => by
  have := k.ok.bnd y hy
  have := hb y hy
  omega
def spCheckB (CB : Addr) : Sp := fun vs H Q _ => ∃ (b : Addr) (l h : Int), vs = [.ref b] ∧ BndAt CB H b l h ∧ Q .non H
def spWithK (C CB : Addr) : Sp := fun vs H Q _ => ∃ (p b : Addr) (x : Str) (c : Ch) (l h : Int), vs = [.ref p, .str x, .ref b] ∧ ChAt C CB H p c ∧ Can c ∧ x ∈ c.names ∧ BndAt CB H b l h ∧ -MH ≤ l ∧ l ≤ h ∧ h ≤ MH ∧
  ∀ (r : Addr) (H' : Hp), Same H H' → H r = none → ChAt C CB H' r (withK c x l h) → Q (.ref r) H'
def spPinnedK (CL C CB : Addr) : Sp := fun vs H Q _ => ∃ (q : Addr) (c : Ch) (h : Str → Int), vs = [.ref q] ∧ LdAt CL C CB H q c h ∧ Can c ∧ (∀ x ∈ c.names, c.lo x ≤ h x ∧ h x ≤ c.hi x) ∧
  ∀ (r : Addr) (H' : Hp), Same H H' → H r = none → ChAt C CB H' r (pinK c h) → Q (.ref r) H'
/-- the height next to t -/
def nearI (l h t : Int) : Int := if (if t < h then t else h) > l then (if t < h then t else h) else l
theorem nearI_in {l h t : Int} (b : l ≤ h) : l ≤ nearI l h t ∧ nearI l h t ≤ h := by
  unfold nearI
  split <;> split <;> omega
def spNearB (CB : Addr) : Sp := fun vs H Q _ => ∃ (b : Addr) (l h t : Int), vs = [.ref b, .int t] ∧ BndAt CB H b l h ∧ Q (.int (nearI l h t)) H
def spClipped (CL C CB : Addr) : Sp := fun vs H Q _ => ∃ (p : Addr) (c : Ch) (t : Int), vs = [.ref CL, .ref p, .int t] ∧ ChAt C CB H p c ∧ c.Ok ∧ heightB t = true ∧
  ∀ (r : Addr) (H' : Hp), Same H H' → H r = none → LdAtC CL C CB H' r p c (fun x => nearI (c.lo x) (c.hi x) t) → Q (.ref r) H'
/-! ### passes -/
def PassS (c : Ch) (f : Str → Int) (x y : Str) (o : Option Int) : Prop := ∀ t, (∃ d, o = some d ∧ d ≤ t) ↔ M9.Rch (Adj c) (Lv c f t) x y
theorem opt_ext {o o2 : Option Int} (h : ∀ t, (∃ d, o = some d ∧ d ≤ t) ↔ ∃ d, o2 = some d ∧ d ≤ t) : o = o2 := by
  cases o with
  | none =>
    cases o2 with
    | none => rfl
    | some e =>
      obtain ⟨d, hd, _⟩ := (h e).mpr ⟨e, rfl, Int.le_refl _⟩
      cases hd
  | some d =>
    cases o2 with
    | none =>
      obtain ⟨e, he, _⟩ := (h d).mp ⟨d, rfl, Int.le_refl _⟩
      cases he
    | some e =>
      obtain ⟨a, ha, h1⟩ := (h d).mp ⟨d, rfl, Int.le_refl _⟩
      obtain ⟨b, hb, h2⟩ := (h e).mpr ⟨e, rfl, Int.le_refl _⟩
      cases ha
      cases hb
      have : d = e := by omega
      rw [this]
theorem PassS.uniq {c : Ch} {f : Str → Int} {x y : Str} {o o2 : Option Int} (h : PassS c f x y o) (k : PassS c f x y o2) : o = o2 := opt_ext fun t => (h t).trans (k t).symm
/-- lower heights: the pass is no higher -/
theorem PassS.le {c : Ch} {f g : Str → Int} {x y : Str} {o o2 : Option Int} (h : PassS c f x y o) (k : PassS c g x y o2) (hfg : ∀ z ∈ c.names, f z ≤ g z) {d : Int} (hd : o2 = some d) : ∃ e, o = some e ∧ e ≤ d :=
  (h d).mpr (((k d).mp ⟨d, hd, Int.le_refl _⟩).mono fun z hz => ⟨hz.1, Int.le_trans (hfg z hz.1) hz.2⟩)
theorem PassS.sym {c : Ch} (ok : c.Ok) {f : Str → Int} {x y : Str} {o : Option Int} (h : PassS c f x y o) : PassS c f y x o := fun t => (h t).trans ⟨fun r => r.symm (Adj.sy ok), fun r => r.symm (Adj.sy ok)⟩
theorem PassS.some_at {c : Ch} {f : Str → Int} {x y : Str} {d : Int} (h : PassS c f x y (some d)) : M9.Rch (Adj c) (Lv c f d) x y := (h d).mp ⟨d, rfl, Int.le_refl _⟩
theorem PassS.ge {c : Ch} {f : Str → Int} {x y : Str} {d : Int} (h : PassS c f x y (some d)) {t : Int} (r : M9.Rch (Adj c) (Lv c f t) x y) : d ≤ t := by
  obtain ⟨e, he, h1⟩ := (h t).mpr r
  cases he
  exact h1
/-- heights that agree on the names give the same pass -/
theorem PassS.congr {c c2 : Ch} {f g : Str → Int} {x y : Str} {o : Option Int} (hn : c2.names = c.names) (hb : c2.nbr = c.nbr) (hfg : ∀ z ∈ c.names, f z = g z) (h : PassS c f x y o) : PassS c2 g x y o := fun t => (h t).trans (by
  have e1 : Adj c2 = Adj c := by
    funext a b
    show (a ∈ c2.names ∧ b ∈ c2.nbr a) = (a ∈ c.names ∧ b ∈ c.nbr a)
    rw [hn, hb]
  rw [e1]
  exact ⟨fun r => r.mono fun z hz => ⟨by rw [hn]; exact hz.1, by rw [← hfg z hz.1]; exact hz.2⟩, fun r => r.mono fun z hz => by
    have h1 : z ∈ c.names := by rw [← hn]; exact hz.1
    exact ⟨h1, by rw [hfg z h1]; exact hz.2⟩⟩)
/-- each height between the low and the high pass is the pass in the clipped land -/
theorem clip_pass {c : Ch} (ok : c.Ok) {x y : Str} {a b L : Int} {o : Option Int} (h1 : PassS c c.lo x y (some a)) (h2 : PassS c c.hi x y (some b)) (hL1 : a ≤ L) (hL2 : L ≤ b) (h : PassS c (fun z => nearI (c.lo z) (c.hi z) L) x y o) : o = some L := by
  refine opt_ext fun t => (h t).trans ⟨fun r => ⟨L, rfl, ?_⟩, fun ⟨d, hd, hdt⟩ => ?_⟩
  · by_cases hlt : t < L
    · have : b ≤ t := h2.ge (r.mono fun z hz => ⟨hz.1, by
        have hb := ok.bnd z hz.1
        have h3 : nearI (c.lo z) (c.hi z) L ≤ t := hz.2
        unfold nearI at h3
        split at h3 <;> split at h3 <;> omega⟩)
      omega
    · omega
  · cases hd
    exact h1.some_at.mono fun z hz => ⟨hz.1, by
      have h3 := hz.2
      show nearI (c.lo z) (c.hi z) L ≤ t
      unfold nearI
      split <;> split <;> omega⟩
def spLeastP (C CB : Addr) : Sp := fun vs H Q _ => ∃ (p a : Addr) (x y : Str) (c : Ch) (f : Str → Int), vs = [.ref p, .ref a, .str x, .str y] ∧ ChAt C CB H p c ∧ c.Ok ∧ H a = some (.dK (byI c.names f)) ∧ x ∈ c.names ∧
  ∀ (o : Option Int) (H' : Hp), Same H H' → PassS c f x y o → Q (optV o) H'
def spCheckPs (C CB : Addr) : Sp := fun vs H Q _ => ∃ (p : Addr) (x y : Str) (c : Ch), vs = [.ref p, .str x, .str y] ∧ ChAt C CB H p c ∧ x ∈ c.names ∧ y ∈ c.names ∧ Q .non H
def spPassL (CL C CB : Addr) : Sp := fun vs H Q _ => ∃ (q : Addr) (x y : Str) (c : Ch) (h : Str → Int), vs = [.ref q, .str x, .str y] ∧ LdAt CL C CB H q c h ∧ c.Ok ∧ x ∈ c.names ∧ y ∈ c.names ∧
  ∀ (o : Option Int) (H' : Hp), Same H H' → PassS c h x y o → Q (optV o) H'
def spPassC (C CB : Addr) (low : Bool) : Sp := fun vs H Q _ => ∃ (p : Addr) (x y : Str) (c : Ch), vs = [.ref p, .str x, .str y] ∧ ChAt C CB H p c ∧ c.Ok ∧ x ∈ c.names ∧ y ∈ c.names ∧
  ∀ (o : Option Int) (H' : Hp), Same H H' → PassS c (if low then c.lo else c.hi) x y o → Q (optV o) H'
/-- a part around a place, the names a list -/
def spPartL (C CB : Addr) : Sp := fun vs H Q _ => ∃ (p n : Addr) (s : Str) (c : Ch) (l : List Str), vs = [.ref p, .str s, .ref n] ∧ ChAt C CB H p c ∧ c.Ok ∧ H n = some (.lst (l.map V.str)) ∧ s ∈ l ∧ l.Nodup ∧ (∀ x ∈ l, x ∈ c.names) ∧
  ∀ (r : Addr) (H' : Hp) (ys : List Str), Same H H' → H r = none → H' r = some (.lst (ys.map V.str)) → ys.Nodup → sortedS ys = true → (∀ y, y ∈ ys ↔ M9.Rch (Adj c) (· ∈ l) s y) → Q (.ref r) H'
def spCheckRim (C CB : Addr) : Sp := fun vs H Q _ => ∃ (p : Addr) (x : Str) (t : Int) (c : Ch), vs = [.ref p, .str x, .int t] ∧ ChAt C CB H p c ∧ x ∈ c.names ∧ heightB t = true ∧ Q .non H
def RimP (c : Ch) (t : Int) (z : Str) : Prop := z ∈ c.names ∧ c.lo z < t
def spRim (C CB : Addr) : Sp := fun vs H Q _ => ∃ (p : Addr) (x : Str) (t : Int) (c : Ch), vs = [.ref p, .str x, .int t] ∧ ChAt C CB H p c ∧ c.Ok ∧ x ∈ c.names ∧ heightB t = true ∧
  ∀ (r : Addr) (H' : Hp) (ys : List Str), Same H H' → H r = none → H' r = some (.lst (ys.map V.str)) → ys.Nodup → sortedS ys = true → (∀ y, y ∈ ys ↔ M9.Rch (Adj c) (RimP c t) x y) → Q (.ref r) H'
theorem w_dget1 {td ty : TE} {σ : L2.St} {H : Hp} {Q : VK} (q : td σ H fun x H1 => ∃ a, x = .ref a ∧ IsD H1 a ∧ ty σ H1 fun y H2 => ∃ o, DGet H2 a y o ∧ Q (o.getD .non) H2) : tDGet1 td ty σ H Q := q
theorem w_cmM {C : Addr} {sp : Sp} {E : L2.St → XK} {ta : TE} {t : TA} {σ : L2.St} {H : Hp} {Q : VK} (q : ta σ H fun x H1 => x = .ref C ∧ t σ H1 fun vs H2 => sp (.ref C :: vs) H2 Q (E σ)) : tCm C sp E ta t σ H Q := q
/-! ### steps through a list of texts -/
theorem strs_get {l : List Str} {i : Nat} {x : V} (h : (l.map V.str)[i]? = some x) : ∃ z, l[i]? = some z ∧ V.str z = x := by
  rw [List.getElem?_map] at h
  cases e : l[i]? with
  | none => rw [e] at h; cases h
  | some z => rw [e] at h; exact ⟨z, rfl, Option.some.inj h⟩
theorem take_at {l : List Str} {i : Nat} {z : Str} (nd : l.Nodup) (h : l[i]? = some z) : l.take (i + 1) = l.take i ++ [z] ∧ z ∉ l.take i ∧ z ∈ l ∧ i < l.length := by
  have htk : l.take (i + 1) = l.take i ++ [z] := by rw [List.take_add_one, h]; rfl
  refine ⟨htk, ?_, List.mem_of_getElem? h, get_lt h⟩
  have h1 : (l.take (i + 1)).Nodup := nd.sublist (List.take_sublist _ _)
  rw [htk, List.nodup_append] at h1
  exact fun hm => h1.2.2 z hm z (List.mem_singleton.mpr rfl) rfl
theorem valV_byI_no {f : Str → Int} {x : Str} : ∀ {l : List Str}, x ∉ l → valV (byI l f) (Sum.inr x : L2.Key) = none
  | [], _ => rfl
  | y :: l, h => by
    rw [List.mem_cons, not_or] at h
    unfold byI valV
    rw [List.map_cons, List.find?_cons, decide_eq_false (fun z => h.1 (Sum.inr.inj z).symm)]
    exact valV_byI_no (l := l) h.2
theorem dget_byI {H : Hp} {a : Addr} {l : List Str} {f : Str → Int} (e : H a = some (.dK (byI l f))) (x : Str) : DGet H a (.str x) (if x ∈ l then some (.int (f x)) else none) := by
  have h := DGet.k (k := Sum.inr x) e
  by_cases hx : x ∈ l
  · rw [if_pos hx]
    rw [valV_byI hx] at h
    exact h
  · rw [if_neg hx]
    rw [valV_byI_no hx] at h
    exact h
/-! ### the model, its dicts of bounds told -/
def MdL (H : Hp) (mp lp hp : Addr) (M : Mdl) (b : Addr) : Prop := ∃ (tp op : Addr) (vs : List V), H mp = some (.dK [(kS "low", .ref lp), (kS "high", .ref hp), (kS "ties", .ref tp), (kS "outlets", .ref op)]) ∧ H lp = some (.dK (byI M.nm M.lo)) ∧ H hp = some (.dK (byI M.nm M.hi)) ∧
  H tp = some (.lst vs) ∧ TxAll H vs M.ts ∧ H op = some (.lst (M.os.map V.str)) ∧ mp ≠ b ∧ lp ≠ b ∧ hp ≠ b ∧ tp ≠ b ∧ op ≠ b ∧ lp ≠ hp
theorem MdL.md {H : Hp} {mp lp hp b : Addr} {M : Mdl} (h : MdL H mp lp hp M b) : MdAt H mp M b := by
  obtain ⟨tp, op, vs, r⟩ := h
  exact ⟨lp, hp, tp, op, vs, r⟩
theorem MdL.mono {H H' : Hp} {mp lp hp b : Addr} {M : Mdl} (s : Same H H') (h : MdL H mp lp hp M b) : MdL H' mp lp hp M b := by
  obtain ⟨tp, op, vs, h1, h2, h3, h4, h5, h6, h7⟩ := h
  exact ⟨tp, op, vs, s _ _ h1, s _ _ h2, s _ _ h3, s _ _ h4, h5.same s, s _ _ h6, h7⟩
theorem MdL.drw {H H' : Hp} {mp lp hp b : Addr} {n m : Nat} {M : Mdl} (d : Drw H H' b n) (hb : BoxAt H b m) (h : MdL H mp lp hp M b) : MdL H' mp lp hp M b := by
  obtain ⟨tp, op, vs, h1, h2, h3, h4, h5, h6, a1, a2, a3, a4, a5, a6⟩ := h
  exact ⟨tp, op, vs, d.keep _ _ a1 h1, d.keep _ _ a2 h2, d.keep _ _ a3 h3, d.keep _ _ a4 h4, h5.keep fun q xs e => d.keep _ _ (fun z => by
    obtain ⟨ys, eb, _⟩ := hb
    rw [z, eb] at e
    cases e) e, d.keep _ _ a5 h6, a1, a2, a3, a4, a5, a6⟩
/-- a drawn model whose dicts of bounds are new -/
def spModelF : Sp := fun vs H Q _ => ∃ (b : Addr) (m n : Nat), vs = [.ref b, .int m] ∧ BoxAt H b n ∧ 1 ≤ m ∧ m ≤ 26 ∧ n ≤ 700000 ∧
  ∀ (p lp hp : Addr) (H' : Hp) (M : Mdl), Drw H H' b (n + 400) → H p = none → H lp = none → H hp = none → MdL H' p lp hp M b → M.Ok m → Q (.ref p) H'
theorem putI_old {l : List Str} {f : Str → Int} {x : Str} {v : Int} (h : x ∈ l) : putK (byI l f) (Sum.inr x : L2.Key) (V.int v) = byI l (fun y => if y = x then v else f y) := by
  unfold putK
  rw [if_pos]
  · unfold byI
    rw [List.map_map]
    refine List.map_congr_left fun y _ => ?_
    show (if (Sum.inr y : L2.Key) = Sum.inr x then ((Sum.inr y : L2.Key), V.int v) else (Sum.inr y, V.int (f y))) = _
    by_cases e : y = x
    · rw [if_pos (by rw [e])]
      simp [e]
    · rw [if_neg (fun z => e (Sum.inr.inj z))]
      simp [e]
  · rw [List.any_eq_true]
    exact ⟨_, List.mem_map_of_mem h, decide_eq_true rfl⟩
theorem hd_opt {K : PySem.W.Frag} {H : Hp} (o : Option Int) : Hd K H (optV o) o := by
  cases o with
  | none => exact .non
  | some d => exact .int d
def spLater (C CB : Addr) : Sp := fun vs H Q _ => ∃ (b mp p lp hp : Addr) (M : Mdl) (n m : Nat), vs = [.ref b, .ref mp, .ref p] ∧ BoxAt H b n ∧ MdL H mp lp hp M b ∧ M.Ok m ∧ m ≤ 26 ∧ n ≤ 700000 ∧ ChAt C CB H p (chM M) ∧ Can (chM M) ∧
  ∀ (r : Addr) (H' : Hp) (M2 : Mdl), (∀ q o, q ≠ b → q ≠ lp → q ≠ hp → H q = some o → H' q = some o) → BoxAt H' b (n + 20) → MdL H' mp lp hp M2 b → M2.Ok m → M2.nm = M.nm → ChAt C CB H' r (chM M2) → Can (chM M2) → Q (.ref r) H'
theorem rne_opt {o : Option Int} {H : Hp} {Q : VK} (q : Q (.bl false) H) : rNe (optV o) (optV o) H Q := by
  refine ⟨by cases o <;> rfl, ?_⟩
  rw [decide_eq_true rfl]
  exact q
theorem req_opt {o : Option Int} {H : Hp} {Q : VK} (q : Q (.bl true) H) : rEq (optV o) (optV o) H Q := by
  refine ⟨by cases o <;> rfl, ?_⟩
  rw [decide_eq_true rfl]
  exact q
theorem byN_byI {l m : List Str} {a : Str → Addr} {f : Str → Int} (h : l ≠ []) : HO.dK (byN l a) ≠ .dK (byI m f) := fun e => by
  have e := HO.dK.inj e
  cases l with
  | nil => exact h rfl
  | cons x l =>
    cases m with
    | nil => exact nomatch e
    | cons y m => exact nomatch (Prod.mk.inj (List.cons.inj e).1).2
/-- a chart stands while dicts of heights change -/
theorem ChAt.putI {C CB : Addr} {H H' : Hp} {p lp hp : Addr} {c : Ch} {l m : List Str} {f g : Str → Int} (hne : c.names ≠ []) (h1 : H lp = some (.dK (byI l f))) (h2 : H hp = some (.dK (byI m g))) (k : ∀ q o, q ≠ lp → q ≠ hp → H q = some o → H' q = some o) (h : ChAt C CB H p c) : ChAt C CB H' p c := by
  have kk : ∀ q o, H q = some o → (∀ l f, o ≠ .dK (byI l f)) → H' q = some o := fun q o e hk => k q o (fun z => by rw [z, h1] at e; exact hk _ _ (Option.some.inj e).symm) (fun z => by rw [z, h2] at e; exact hk _ _ (Option.some.inj e).symm) e
  obtain ⟨dx, bb, t, o, h0, ⟨ba, a1, a2⟩, ⟨ta, a3, a4⟩, a5⟩ := h
  refine ⟨dx, bb, t, o, kk _ _ h0 (fun _ _ z => nomatch z), ⟨ba, kk _ _ a1 (fun _ _ => byN_byI hne), fun x hx => ?_⟩, ⟨ta, kk _ _ a3 (fun _ _ => byN_byI hne), fun x hx => kk _ _ (a4 x hx) (fun _ _ z => nomatch z)⟩, kk _ _ a5 (fun _ _ z => nomatch z)⟩
  obtain ⟨d, e⟩ := a2 x hx
  exact ⟨d, kk _ _ e (fun _ _ z => nomatch z)⟩
/-- a land but for its chart -/
def LdB (CL : Addr) (H : Hp) (q cp : Addr) (c : Ch) (h : Str → Int) : Prop := ∃ dx hp, H q = some (.ins CL dx (ldf cp hp)) ∧ H hp = some (.dK (byI c.names h))
section
variable {CL C CB : Addr} {H H' : Hp} {q cp D b : Addr} {c : Ch} {h : Str → Int}
theorem LdAtC.body (k : LdAtC CL C CB H q cp c h) : LdB CL H q cp c h := by
  obtain ⟨dx, hp, e1, _, e2⟩ := k
  exact ⟨dx, hp, e1, e2⟩
theorem LdB.full (k : LdB CL H q cp c h) (hc : ChAt C CB H cp c) : LdAtC CL C CB H q cp c h := by
  obtain ⟨dx, hp, e1, e2⟩ := k
  exact ⟨dx, hp, e1, hc, e2⟩
theorem LdB.keep (k : LdB CL H q cp c h) (kk : ∀ q o, H q = some o → (∀ us, o ≠ .lst us) → H' q = some o) : LdB CL H' q cp c h := by
  obtain ⟨dx, hp, e1, e2⟩ := k
  exact ⟨dx, hp, kk _ _ e1 (fun _ z => nomatch z), kk _ _ e2 (fun _ z => nomatch z)⟩
theorem LdB.mono (s : Same H H') (k : LdB CL H q cp c h) : LdB CL H' q cp c h := k.keep fun _ _ e _ => s _ _ e
theorem LdB.drw {n m : Nat} (d : Drw H H' b n) (hb : BoxAt H b m) (k : LdB CL H q cp c h) : LdB CL H' q cp c h := k.keep fun _ _ e hk => d.kp hb e (fun _ _ _ => hk _)
theorem LdB.updL {us : List V} {o : HO} (eD : H D = some (.lst us)) (k : LdB CL H q cp c h) : LdB CL (upd H D o) q cp c h := k.keep fun _ _ e hk => (upd_ne (fun z => by rw [z, eD] at e; exact hk _ (Option.some.inj e).symm)).trans e
end
end L9

section
open PySem PySem.Spec PyProof.Rows L2 L9
local macro_rules | `(tactic| array_get_dec) => `(tactic| first
  | with_reducible refine w_var rfl ?_
  | with_reducible refine w_c ?_
  | with_reducible refine w_op ?_
  | with_reducible refine w_cons ?_
  | with_reducible refine w_nil ?_
  | with_reducible refine w_CB ?_
  | with_reducible refine w_call ?_
  | with_reducible refine w_rI0 ?_
  | with_reducible refine w_rU ?_
  | with_reducible refine w_mulL (by omega) (by omega) ?_
  | with_reducible refine w_mulR (by omega) (by omega) ?_
  | with_reducible refine w_pow (by omega) (by omega) (by omega) ?_
  | with_reducible refine w_mod (by omega) ?_
  | with_reducible refine w_div (by omega) (by omega) ?_
  | with_reducible refine w_seq ?_
  | with_reducible refine w_asg ?_
  | with_reducible refine w_gName ?_
  | with_reducible refine w_gCons ?_
  | with_reducible refine w_gNil ?_
  | with_reducible refine w_ret ?_
  | with_reducible refine w_retN ?_
  | with_reducible refine w_next ?_
  | with_reducible refine w_drop ?_
  | with_reducible refine w_par ?_
  | with_reducible refine w_isTwo ?_
  | with_reducible refine w_par3 ?_
  | with_reducible refine w_isThree ?_
  | with_reducible refine w_ifS ?_
  | with_reducible refine w_if ?_
  | with_reducible refine w_test ?_
  | with_reducible refine w_B ?_
  | with_reducible refine w_isBl ?_
  | with_reducible refine w_eq rfl ?_
  | with_reducible refine w_ne rfl ?_
  | with_reducible refine w_not ?_
  | with_reducible refine w_and ?_
  | with_reducible refine w_or ?_
  | with_reducible refine w_andV ?_
  | with_reducible refine w_orV ?_
  | with_reducible refine w_notV ?_
  | with_reducible refine w_un ?_
  | with_reducible refine w_tup ?_
  | with_reducible refine w_lst ?_
  | with_reducible refine w_part ?_
  | with_reducible refine w_nopart ?_
  | with_reducible refine w_isIt ?_
  | with_reducible refine w_sl ?_
  | with_reducible refine w_yes ?_
  | with_reducible refine w_bm ?_
  | with_reducible refine w_bm0 ?_
  | with_reducible refine w_dput ?_
  | with_reducible refine w_ddel ?_
  | with_reducible refine w_ckw ?_
  | with_reducible refine w_callO ?_
  | with_reducible refine w_callOK ?_
  | with_reducible refine w_dget ?_
  | with_reducible refine w_din ?_
  | with_reducible refine w_dnin ?_
  | with_reducible refine w_dnew ?_
  | with_reducible refine w_fld ?_
  | with_reducible refine w_sfld ?_
  | with_reducible refine w_meth ?_
  | with_reducible refine w_make ?_
  | with_reducible refine w_subO ?_
  | with_reducible refine w_rg1 ?_
  | with_reducible refine w_isRg (by omega) (by omega) ?_
  | with_reducible refine w_rg2 ?_
  | with_reducible refine w_isRg2 (by omega) (by omega) (by omega) (by omega) ?_
  | with_reducible refine w_list ?_
  | with_reducible refine w_for ?_
  | with_reducible refine w_listRg ?_
  | with_reducible refine w_rgOne ?_
  | with_reducible refine w_isIntR ?_
  | with_reducible refine w_makeK ?_
  | with_reducible refine w_lc ?_
  | with_reducible refine w_dc ?_
  | with_reducible refine w_chain ?_
  | with_reducible refine iteT ?_
  | with_reducible refine iteF ?_
  | with_reducible refine ite_nt ?_
  | with_reducible refine ite_nf ?_)
namespace K23
open PySem PySem.Spec PyProof.Rows L2 L9
section
variable {P : Program} {w : World} {K : PySem.W.Frag} {mg : Str → Option Value} {base : Heap}
structure Txt (K : PySem.W.Frag) (mg : Str → Option Value) : Prop where
  m_len : mg "len" = none
  m_int : mg "int" = none
  m_max : mg "max" = none
  m_min : mg "min" = none
  m_range : mg "range" = none
  m_all : mg "all" = none
  m_any : mg "any" = none
  m_isinstance : mg "isinstance" = none
  m_list : mg "list" = none
  m_sorted : mg "sorted" = none
  m_bool : mg "bool" = none
  m_str : mg "str" = none
  m_tuple : mg "tuple" = none
  m_dict : mg "dict" = none
  m_set : mg "set" = none
  m_repr : mg "repr" = none
  m_enumerate : mg "enumerate" = none
  m_MOST_HEIGHT : GlV mg "MOST_HEIGHT" (.int MH)
  m_MOST_LETTERS : GlV mg "MOST_LETTERS" (.int 8)
  m_LETTERS : GlV mg "LETTERS" (.str lets)
  m_MOST_PLACES : GlV mg "MOST_PLACES" (.int 60)
end
end K23

namespace K23
open PySem PySem.Spec PyProof.Rows L2 L9
section
variable {P : Program} {w : World} {K : PySem.W.Frag} {mg : Str → Option Value} {base : Heap}
abbrev N_is_whole : List Str := ["value"]
theorem sc_is_whole : FnScope N_is_whole ["value"] (defScope s_is_whole) := ⟨rfl, rfl, rfl, by decide +kernel, rfl, by decide +kernel, by decide +kernel⟩
theorem ok_is_whole {f : Addr} {fd : FuncData}  (F : Fun K "is_whole" "is_whole" s_is_whole f fd) (T : Txt K mg) : FnOk P w K mg base CX0 1 f fd ["value"] spWhole := by
  refine F.ok sc_is_whole (fun vs H Q E h => ?_) (fun cdv A outer s H vs Q E hr h => ?_)
  · obtain ⟨i, rfl, q⟩ := h
    rfl
  · obtain ⟨i, rfl, q⟩ := h
    refine ⟨_, (pss_one (ps_ret (pe_and (pe_callB call_isi (by rfl) T.m_isinstance (by decide +kernel) (pa_cons (pv 0) (pa_cons (pe_ty (T := "int") (by rfl) T.m_int) pa_nil))) (pe_one (pe_not (pe_callB call_isi (by rfl) T.m_isinstance (by decide +kernel) (pa_cons (pv 0) (pa_cons (pe_ty (T := "bool") (by rfl) T.m_bool) pa_nil)))))))), ?_⟩
    repeat array_get_dec
    refine ⟨_, _, _, _, true, rfl, .ty "int", .base (.int i), kit_ty kit_ii, ?_⟩
    repeat array_get_dec
    refine ⟨_, _, _, _, false, rfl, .ty "bool", .base (.int i), kit_ty kit_ib, ?_⟩
    repeat array_get_dec
    exact q
abbrev N_is_height : List Str := ["value"]
theorem sc_is_height : FnScope N_is_height ["value"] (defScope s_is_height) := ⟨rfl, rfl, rfl, by decide +kernel, rfl, by decide +kernel, by decide +kernel⟩
theorem ok_is_height {f : Addr} {fd : FuncData}  (F : Fun K "is_height" "is_height" s_is_height f fd) (T : Txt K mg) (C_is_whole : Cal P w K mg base "is_whole" 1 ["value"] spWhole) : FnOk P w K mg base CX0 2 f fd ["value"] spHeightY := by
  refine F.ok sc_is_height (fun vs H Q E h => ?_) (fun cdv A outer s H vs Q E hr h => ?_)
  · obtain ⟨i, rfl, hi, q⟩ := h
    rfl
  · obtain ⟨i, rfl, hi, q⟩ := h
    refine ⟨_, (pss_one (ps_ret (pe_and (pe_cal C_is_whole (hr.mono (by decide)) (by rfl) (pa_cons (pv 0) pa_nil)) (pe_one (pe_chain op_le op_le (pe_un un_neg (pe_gl T.m_MOST_HEIGHT)) (pv 0) (pe_gl T.m_MOST_HEIGHT)))))), ?_⟩
    obtain ⟨h1, h2⟩ := Bool.and_eq_true_iff.mp hi
    repeat array_get_dec
    refine ⟨i, rfl, ?_⟩
    repeat array_get_dec
    rw [h1]
    repeat array_get_dec
    rw [h2]
    exact q
abbrev N_check_height : List Str := ["value"]
theorem sc_check_height : FnScope N_check_height ["value"] (defScope s_check_height) := ⟨rfl, rfl, rfl, by decide +kernel, rfl, by decide +kernel, by decide +kernel⟩
theorem ok_check_height {f : Addr} {fd : FuncData}  (F : Fun K "check_height" "check_height" s_check_height f fd) (T : Txt K mg) (C_is_height : Cal P w K mg base "is_height" 2 ["value"] spHeightY) : FnOk P w K mg base CX0 3 f fd ["value"] spCheckH := by
  refine F.ok sc_check_height (fun vs H Q E h => ?_) (fun cdv A outer s H vs Q E hr h => ?_)
  · obtain ⟨i, rfl, hi, q⟩ := h
    rfl
  · obtain ⟨i, rfl, hi, q⟩ := h
    refine ⟨_, (pss_one (ps_if (pt_not (pt_val (pe_cal C_is_height (hr.mono (by decide)) (by rfl) (pa_cons (pv 0) pa_nil)))) (pss_one ps_never) pss_nil)), ?_⟩
    repeat array_get_dec
    refine ⟨i, rfl, hi, ?_⟩
    repeat array_get_dec
    exact q
abbrev N_is_name : List Str := ["value", "letter"]
theorem sc_is_name : FnScope N_is_name ["value"] (defScope s_is_name) := ⟨rfl, rfl, rfl, by decide +kernel, rfl, by decide +kernel, by decide +kernel⟩
theorem ok_is_name {f : Addr} {fd : FuncData}  (F : Fun K "is_name" "is_name" s_is_name f fd) (T : Txt K mg) : FnOk P w K mg base CX0 1 f fd ["value"] spNameY := by
  refine F.ok sc_is_name (fun vs H Q E h => ?_) (fun cdv A outer s H vs Q E hr h => ?_)
  · obtain ⟨z, rfl, hz, hz8, q⟩ := h
    rfl
  · obtain ⟨z, rfl, hz, hz8, q⟩ := h
    refine ⟨_, (pss_cons (ps_if (PW.pt (pw_or (pt_not (pt_val (pe_callB call_isi (by rfl) T.m_isinstance (by decide +kernel) (pa_cons (pv 0) (pa_cons (pe_ty (T := "str") (by rfl) T.m_str) pa_nil))))) (pw_or1 (pt_not (pt_chain op_le op_le pe_int (pe_callB call_len_str (by rfl) T.m_len (by decide +kernel) (pa_cons (pv 0) pa_nil)) (pe_gl T.m_MOST_LETTERS)))))) (pss_one (ps_ret pe_bl)) pss_nil)
    (pss_one (ps_ret (pe_callB (cr_all rfl) (by rfl) T.m_all (by decide +kernel) (pa_cons (pe_lc (own := [("letter", 1)]) (g := gName 1) (tt := tYes) rfl sc_is_name.nd (pi_str (pv 0)) (blkOk_by (N := N_is_name) (sc := defScope s_is_name) (by decide +kernel)) (fun _ _ _ _ _ => pg_name (i := 1) sc_is_name.nd rfl (Or.inl rfl)) (fun _ _ _ _ _ => pts_nil) (fun _ _ _ _ _ => (pe_cmpR op_in_sign (pv 1) (pe_gl T.m_LETTERS) (by rfl)))) pa_nil))))), ?_⟩
    obtain ⟨h1, h3⟩ := Bool.and_eq_true_iff.mp hz
    obtain ⟨h1, h2⟩ := Bool.and_eq_true_iff.mp h1
    repeat array_get_dec
    refine ⟨_, _, _, _, true, rfl, .ty "str", .base (.str z), kit_ty kit_ss, ?_⟩
    repeat array_get_dec
    refine ⟨z, rfl, Nat.le_trans hz8 (by decide), ?_⟩
    repeat array_get_dec
    rw [h1]
    repeat array_get_dec
    rw [h2]
    repeat array_get_dec
    show iStr _ _ _ _
    refine ⟨_, rfl, z, rfl, fun D nD => ?_⟩
    refine lc_str (fun j H' => Same H H' ∧ H' D = some (.lst ((List.replicate j true).map V.bl))) ⟨same_upd nD, upd_same⟩ (fun j c H' hc hP => ?_) (fun H' hP => ?_)
    · obtain ⟨s, e⟩ := hP
      have hj : j < z.cps.size := by
        rcases Nat.lt_or_ge j z.cps.size with h | h
        · exact h
        · rw [Array.getElem?_eq_none h] at hc
          cases hc
      have hz9 : z.cps.size ≤ 8 := hz8
      refine ⟨rfl, tyes ?_⟩
      repeat array_get_dec
      refine ⟨c, lets, rfl, rfl, ?_⟩
      have hcl : c ∈ lets.cps.toList := by
        unfold allLets at h3
        rw [List.all_eq_true] at h3
        exact of_decide_eq_true (h3 c (List.mem_of_getElem? (by rw [Array.getElem?_toList]; exact hc)))
      refine ⟨_, e, ?_, Same.at s nD, ?_⟩
      · rw [List.length_map, List.length_replicate]
        exact small1000 (by omega)
      · rw [upd_same, decide_eq_true hcl, List.replicate_succ', List.map_append]
        rfl
    obtain ⟨s, e⟩ := hP
    refine ⟨D, _, rfl, SqL.of e, ?_⟩
    rw [show (List.replicate z.cps.size true).all id = true from by simp]
    exact q H' s
abbrev N_Bounds___init__ : List Str := ["self", "low", "high"]
theorem sc_Bounds___init__ : FnScope N_Bounds___init__ ["self", "low", "high"] (defScope s_Bounds___init__) := ⟨rfl, rfl, rfl, by decide +kernel, rfl, by decide +kernel, by decide +kernel⟩
theorem ok_Bounds___init__ {f : Addr} {fd : FuncData} {CB : Addr} (B : BnT K mg CB) (F : Fun K "__init__" "Bounds.__init__" s_Bounds___init__ f fd) (T : Txt K mg) (C_check_height : Cal P w K mg base "check_height" 3 ["value"] spCheckH) : FnOk P w K mg base CX0 4 f fd ["self", "low", "high"] (spBInitY CB) := by
  refine F.ok sc_Bounds___init__ (fun vs H Q E h => ?_) (fun cdv A outer s H vs Q E hr h => ?_)
  · obtain ⟨p, dx, l, h, rfl, hp, hl, hh, hle, q⟩ := h
    rfl
  · obtain ⟨p, dx, l, h, rfl, hp, hl, hh, hle, q⟩ := h
    refine ⟨_, (pss_cons (ps_expr (pe_cal C_check_height (hr.mono (by decide)) (by rfl) (pa_cons (pv 1) pa_nil)))
    (pss_cons (ps_expr (pe_cal C_check_height (hr.mono (by decide)) (by rfl) (pa_cons (pv 2) pa_nil)))
    (pss_cons (ps_if (pt_cmpR op_gt (pv 1) (pv 2) (nomark _)) (pss_one ps_never) pss_nil)
    (pss_cons (ps_fld (pv 0) (pv 1) rfl)
    (pss_one (ps_fld (pv 0) (pv 2) rfl)))))), ?_⟩
    repeat array_get_dec
    refine ⟨l, rfl, hl, ?_⟩
    repeat array_get_dec
    refine ⟨h, rfl, hh, ?_⟩
    repeat array_get_dec
    rw [decide_eq_false (by omega)]
    repeat array_get_dec
    refine ⟨p, CB, dx, _, rfl, hp, B.c.cl, B.nl, by decide, ?_⟩
    repeat array_get_dec
    refine ⟨p, CB, dx, _, rfl, upd_same, B.c.cl, B.nh, by show 1 < 1000; decide, ?_⟩
    rw [upd_upd]
    exact q
abbrev N_is_place : List Str := ["value", "places"]
theorem sc_is_place : FnScope N_is_place ["value", "places"] (defScope s_is_place) := ⟨rfl, rfl, rfl, by decide +kernel, rfl, by decide +kernel, by decide +kernel⟩
theorem ok_is_place {f : Addr} {fd : FuncData}  (F : Fun K "is_place" "is_place" s_is_place f fd) (T : Txt K mg) : FnOk P w K mg base CX0 1 f fd ["value", "places"] spPlaceY := by
  refine F.ok sc_is_place (fun vs H Q E h => ?_) (fun cdv A outer s H vs Q E hr h => ?_)
  · obtain ⟨x, d, kvs, rfl, hd, q⟩ := h
    rfl
  · obtain ⟨x, d, kvs, rfl, hd, q⟩ := h
    refine ⟨_, (pss_one (ps_ret (pe_and (pe_callB call_isi (by rfl) T.m_isinstance (by decide +kernel) (pa_cons (pv 0) (pa_cons (pe_ty (T := "str") (by rfl) T.m_str) pa_nil))) (pe_one (pe_cmp (pc_din (hu_of hr) (pv 0) (pv 1)) rfl))))), ?_⟩
    repeat array_get_dec
    refine ⟨_, _, _, _, true, rfl, .ty "str", .base (.str x), kit_ty kit_ss, ?_⟩
    repeat array_get_dec
    exact ⟨d, _, rfl, .inl ⟨kvs, Sum.inr x, hd, rfl, rfl⟩, q⟩
end
end K23

namespace K23
open PySem PySem.Spec PyProof.Rows L2 L9
section
variable {P : Program} {w : World} {K : PySem.W.Frag} {mg : Str → Option Value} {base : Heap}
abbrev N_check_places : List Str := ["places", "name"]
theorem sc_check_places : FnScope N_check_places ["places"] (defScope s_check_places) := ⟨rfl, rfl, rfl, by decide +kernel, rfl, by decide +kernel, by decide +kernel⟩
theorem ok_check_places {f : Addr} {fd : FuncData} {CB : Addr} (B : BnT K mg CB) (F : Fun K "check_places" "check_places" s_check_places f fd) (T : Txt K mg) (gBounds : GlV mg "Bounds" (.ref CB)) (C_is_name : Cal P w K mg base "is_name" 1 ["value"] spNameY) : FnOk P w K mg base CX0 2 f fd ["places"] (spPlacesY CB) := by
  refine F.ok sc_check_places (fun vs H Q E h => ?_) (fun cdv A outer s H vs Q E hr h => ?_)
  · obtain ⟨d, l, ba, rfl, hd, hl, hok, q⟩ := h
    rfl
  · obtain ⟨d, l, ba, rfl, hd, hl, hok, q⟩ := h
    refine ⟨_, (pss_cons (ps_if (pt_not (pt_val (pe_callB call_isi (by rfl) T.m_isinstance (by decide +kernel) (pa_cons (pv 0) (pa_cons (pe_ty (T := "dict") (by rfl) T.m_dict) pa_nil))))) (pss_one ps_never) pss_nil)
    (pss_cons (ps_lock (ps_for PassesOwn.never rfl (pi_keys (pv 0)) (pg_name (i := 1) sc_check_places.nd rfl (.inl rfl))
    (pss_one (ps_if (PW.pt (pw_or (pt_not (pt_val (pe_cal C_is_name (hr.mono (by decide)) (by rfl) (pa_cons (pv 1) pa_nil)))) (pw_or1 (pt_not (pt_val (pe_callB call_isi (by rfl) T.m_isinstance (by decide +kernel) (pa_cons (pe_dget (hu_of hr) (pv 0) (pv 1) (fun _ _ => rfl)) (pa_cons (pe_gl gBounds) pa_nil)))))))) (pss_one ps_never) pss_nil))))
    (pss_one (ps_if (pt_cmpR op_gt (pe_callB call_lenD (by rfl) T.m_len (by decide +kernel) (pa_cons (pv 0) pa_nil)) (pe_gl T.m_MOST_PLACES) (nomark _)) (pss_one ps_never) pss_nil)))), ?_⟩
    repeat array_get_dec
    refine ⟨_, _, _, _, true, rfl, .ty "dict", .base (.dK hd), kit_ty (by decide +kernel), ?_⟩
    repeat array_get_dec
    refine ⟨d, _, hd, trivial, fun od => ?_⟩
    show iKeys _ _ _ _
    refine ⟨_, rfl, d, od, rfl, .inl ⟨_, upd_same, ?_⟩⟩
    refine for_it walk_keys (fun i σ H' => (∃ y, σ = [some (.ref d), y]) ∧ Same (upd H d (.frz od (.dK (byN l ba)))) H') ⟨⟨_, rfl⟩, Same.refl _⟩ (fun i σ H' _ hP => hP.2 _ _ upd_same) (fun i x σ H1 H2 hi hP hY => ?_) (fun σ H' hP => ?_)
    · obtain ⟨⟨y, rfl⟩, s⟩ := hP
      obtain ⟨rfl, k, v, hk, rfl⟩ := hY
      have hd2 := s _ _ upd_same
      obtain ⟨x, hx, hkx⟩ : ∃ x, x ∈ l ∧ (k, v) = ((Sum.inr x : L2.Key), V.ref (ba x)) := by
        unfold byN at hk
        rw [List.getElem?_map] at hk
        cases h : l[i]? with
        | none => rw [h] at hk; cases hk
        | some x => rw [h] at hk; exact ⟨x, List.mem_of_getElem? h, (Option.some.inj hk).symm⟩
      cases hkx
      obtain ⟨h1, h2, dx, fs, h3⟩ := hok x hx
      repeat array_get_dec
      refine ⟨x, rfl, h1, h2, fun H3 s3 => ?_⟩
      repeat array_get_dec
      refine ⟨d, _, rfl, .inl ⟨_, Sum.inr x, .inr ⟨_, s3 _ _ hd2⟩, rfl, (valV_byN hx).symm⟩, ?_⟩
      repeat array_get_dec
      have hne : ba x ≠ d := fun z => by rw [z, hd] at h3; cases h3
      have h4 := s3 _ _ (s _ _ ((upd_ne hne).trans h3))
      refine ⟨_, _, _, _, true, rfl, .own CB, B.c.ty h4, B.c.kb, ?_⟩
      repeat array_get_dec
      exact ⟨⟨_, rfl⟩, s.trans s3⟩
    · obtain ⟨⟨y, rfl⟩, s⟩ := hP
      refine ⟨s _ _ upd_same, ?_⟩
      have s2 : Same H (upd H' d (.dK (byN l ba))) := fun p o e => by
        by_cases z : p = d
        · subst z
          rw [hd] at e
          cases e
          exact upd_same
        · rw [upd_ne z]
          exact s _ _ ((upd_ne z).trans e)
      generalize upd H' d (HO.dK (byN l ba)) = H2 at s2
      repeat array_get_dec
      refine ⟨d, _, rfl, s2 _ _ hd, ?_⟩
      repeat array_get_dec
      rw [decide_eq_false (by rw [byN_len]; omega)]
      repeat array_get_dec
      exact q _ s2
end
end K23

namespace K23
open PySem PySem.Spec PyProof.Rows L2 L9
section
variable {P : Program} {w : World} {K : PySem.W.Frag} {mg : Str → Option Value} {base : Heap}
abbrev N_Chart_names : List Str := ["self"]
theorem sc_Chart_names : FnScope N_Chart_names ["self"] (defScope s_Chart_names) := ⟨rfl, rfl, rfl, by decide +kernel, rfl, by decide +kernel, by decide +kernel⟩
theorem ok_Chart_names {f : Addr} {fd : FuncData} {C CB : Addr} (HC : ChT K mg C) (F : Fun K "names" "Chart.names" s_Chart_names f fd) (T : Txt K mg) : FnOk P w K mg base CX0 1 f fd ["self"] (spNames C CB) := by
  refine F.ok sc_Chart_names (fun vs H Q E h => ?_) (fun cdv A outer s H vs Q E hr h => ?_)
  · obtain ⟨p, c, rfl, ⟨dx, b, t, o, hp, ⟨ba, eb, hb⟩, _, _⟩, q⟩ := h
    rfl
  · obtain ⟨p, c, rfl, ⟨dx, b, t, o, hp, ⟨ba, eb, hb⟩, _, _⟩, q⟩ := h
    refine ⟨_, (pss_one (ps_ret (pe_callTy (call_listD rfl) (by rfl) T.m_list (by decide +kernel) (pa_cons (pe_fld (pv 0) rfl) pa_nil)))), ?_⟩
    repeat array_get_dec
    refine ⟨p, C, dx, _, _, rfl, hp, HC.c.cl, HC.nb, chf_b b t o, ?_⟩
    repeat array_get_dec
    refine ⟨b, _, rfl, .inl eb, fun r nr => ?_⟩
    refine q r _ (same_upd nr) nr ?_
    rw [upd_same]
    unfold byN
    rw [List.map_map]
    rfl
abbrev N_Chart_outlets : List Str := ["self"]
theorem sc_Chart_outlets : FnScope N_Chart_outlets ["self"] (defScope s_Chart_outlets) := ⟨rfl, rfl, rfl, by decide +kernel, rfl, by decide +kernel, by decide +kernel⟩
theorem ok_Chart_outlets {f : Addr} {fd : FuncData} {C CB : Addr} (HC : ChT K mg C) (F : Fun K "outlets" "Chart.outlets" s_Chart_outlets f fd) (T : Txt K mg) : FnOk P w K mg base CX0 1 f fd ["self"] (spOutsM C CB) := by
  refine F.ok sc_Chart_outlets (fun vs H Q E h => ?_) (fun cdv A outer s H vs Q E hr h => ?_)
  · obtain ⟨p, c, rfl, ⟨dx, b, t, o, hp, _, _, eo⟩, q⟩ := h
    rfl
  · obtain ⟨p, c, rfl, ⟨dx, b, t, o, hp, _, _, eo⟩, q⟩ := h
    refine ⟨_, (pss_one (ps_ret (pe_callTy call_list_of (by rfl) T.m_list (by decide +kernel) (pa_cons (pe_fld (pv 0) rfl) pa_nil)))), ?_⟩
    repeat array_get_dec
    refine ⟨p, C, dx, _, _, rfl, hp, HC.c.cl, HC.no, chf_o b t o, ?_⟩
    repeat array_get_dec
    exact ⟨o, _, rfl, .inl (SqL.of eo), fun r nr => q r _ (same_upd nr) nr upd_same⟩
abbrev N_Chart___contains__ : List Str := ["self", "value"]
theorem sc_Chart___contains__ : FnScope N_Chart___contains__ ["self", "value"] (defScope s_Chart___contains__) := ⟨rfl, rfl, rfl, by decide +kernel, rfl, by decide +kernel, by decide +kernel⟩
theorem ok_Chart___contains__ {f : Addr} {fd : FuncData} {C CB : Addr} (HC : ChT K mg C) (F : Fun K "__contains__" "Chart.__contains__" s_Chart___contains__ f fd) (T : Txt K mg) (C_is_place : Cal P w K mg base "is_place" 1 ["value", "places"] spPlaceY) : FnOk P w K mg base CX0 2 f fd ["self", "value"] (spHasP C CB) := by
  refine F.ok sc_Chart___contains__ (fun vs H Q E h => ?_) (fun cdv A outer s H vs Q E hr h => ?_)
  · obtain ⟨p, x, c, rfl, ⟨dx, b, t, o, hp, ⟨ba, eb, hb⟩, _, _⟩, q⟩ := h
    rfl
  · obtain ⟨p, x, c, rfl, ⟨dx, b, t, o, hp, ⟨ba, eb, hb⟩, _, _⟩, q⟩ := h
    refine ⟨_, (pss_one (ps_ret (pe_cal C_is_place (hr.mono (by decide)) (by rfl) (pa_cons (pv 1) (pa_cons (pe_fld (pv 0) rfl) pa_nil))))), ?_⟩
    repeat array_get_dec
    refine ⟨p, C, dx, _, _, rfl, hp, HC.c.cl, HC.nb, chf_b b t o, ?_⟩
    repeat array_get_dec
    refine ⟨x, b, _, rfl, .inl eb, ?_⟩
    rw [valV_is]
    exact q
abbrev N_check_place : List Str := ["chart", "name"]
theorem sc_check_place : FnScope N_check_place ["chart", "name"] (defScope s_check_place) := ⟨rfl, rfl, rfl, by decide +kernel, rfl, by decide +kernel, by decide +kernel⟩
theorem ok_check_place {f : Addr} {fd : FuncData} {C CB : Addr} (HC : ChT K mg C) (F : Fun K "check_place" "check_place" s_check_place f fd) (T : Txt K mg) (G_has : OCal P w K mg base C "__contains__" 2 ["self", "value"] (spHasP C CB)) : FnOk P w K mg base CX0 3 f fd ["chart", "name"] (spCheckPl C CB) := by
  refine F.ok sc_check_place (fun vs H Q E h => ?_) (fun cdv A outer s H vs Q E hr h => ?_)
  · obtain ⟨p, x, c, rfl, hc, hx, q⟩ := h
    rfl
  · obtain ⟨p, x, c, rfl, hc, hx, q⟩ := h
    refine ⟨_, (pss_one (ps_if (pt_cmpR (G_has.hasnt (hr.mono (by decide))) (pv 1) (pv 0) (by rfl)) (pss_one ps_never) pss_nil)), ?_⟩
    have hc' := hc
    obtain ⟨dx, b, t, o, hp, _⟩ := hc'
    repeat array_get_dec
    refine ⟨p, dx, _, rfl, hp, p, x, c, rfl, hc, ?_⟩
    rw [decide_eq_true hx]
    refine ⟨true, rfl, ?_⟩
    repeat array_get_dec
    exact q
abbrev N_Chart_neighbours : List Str := ["self", "name"]
theorem sc_Chart_neighbours : FnScope N_Chart_neighbours ["self", "name"] (defScope s_Chart_neighbours) := ⟨rfl, rfl, rfl, by decide +kernel, rfl, by decide +kernel, by decide +kernel⟩
theorem ok_Chart_neighbours {f : Addr} {fd : FuncData} {C CB : Addr} (HC : ChT K mg C) (F : Fun K "neighbours" "Chart.neighbours" s_Chart_neighbours f fd) (T : Txt K mg) (C_check_place : Cal P w K mg base "check_place" 3 ["chart", "name"] (spCheckPl C CB)) : FnOk P w K mg base CX0 4 f fd ["self", "name"] (spNbrs C CB) := by
  refine F.ok sc_Chart_neighbours (fun vs H Q E h => ?_) (fun cdv A outer s H vs Q E hr h => ?_)
  · obtain ⟨p, x, c, rfl, hc, hx, q⟩ := h
    rfl
  · obtain ⟨p, x, c, rfl, hc, hx, q⟩ := h
    refine ⟨_, (pss_cons (ps_expr (pe_cal C_check_place (hr.mono (by decide)) (by rfl) (pa_cons (pv 0) (pa_cons (pv 1) pa_nil))))
    (pss_one (ps_ret (pe_callTy call_list_of (by rfl) T.m_list (by decide +kernel) (pa_cons (pe_dget (hu_of hr) (pe_fld (pv 0) rfl) (pv 1) (fun _ _ => rfl)) pa_nil))))), ?_⟩
    have hc' := hc
    obtain ⟨dx, b, t, o, hp, _, ⟨ta, et, hta⟩, _⟩ := hc'
    repeat array_get_dec
    refine ⟨p, x, c, rfl, hc, hx, ?_⟩
    repeat array_get_dec
    refine ⟨p, C, dx, _, _, rfl, hp, HC.c.cl, HC.nt, chf_t b t o, ?_⟩
    repeat array_get_dec
    refine ⟨t, _, rfl, .inl ⟨_, Sum.inr x, .inl et, rfl, (valV_byN hx).symm⟩, ?_⟩
    repeat array_get_dec
    exact ⟨ta x, _, rfl, .inl (SqL.of (hta x hx)), fun r nr => q r _ (same_upd nr) nr upd_same⟩
abbrev N_Chart___getitem__ : List Str := ["self", "name"]
theorem sc_Chart___getitem__ : FnScope N_Chart___getitem__ ["self", "name"] (defScope s_Chart___getitem__) := ⟨rfl, rfl, rfl, by decide +kernel, rfl, by decide +kernel, by decide +kernel⟩
theorem ok_Chart___getitem__ {f : Addr} {fd : FuncData} {C CB : Addr} (HC : ChT K mg C) (F : Fun K "__getitem__" "Chart.__getitem__" s_Chart___getitem__ f fd) (T : Txt K mg) (C_check_place : Cal P w K mg base "check_place" 3 ["chart", "name"] (spCheckPl C CB)) : FnOk P w K mg base CX0 4 f fd ["self", "name"] (spItem C CB) := by
  refine F.ok sc_Chart___getitem__ (fun vs H Q E h => ?_) (fun cdv A outer s H vs Q E hr h => ?_)
  · obtain ⟨p, x, c, rfl, hc, hx, q⟩ := h
    rfl
  · obtain ⟨p, x, c, rfl, hc, hx, q⟩ := h
    refine ⟨_, (pss_cons (ps_expr (pe_cal C_check_place (hr.mono (by decide)) (by rfl) (pa_cons (pv 0) (pa_cons (pv 1) pa_nil))))
    (pss_one (ps_ret (pe_dget (hu_of hr) (pe_fld (pv 0) rfl) (pv 1) (fun _ _ => rfl))))), ?_⟩
    have hc' := hc
    obtain ⟨dx, b, t, o, hp, ⟨ba, eb, hb⟩, _⟩ := hc'
    repeat array_get_dec
    refine ⟨p, x, c, rfl, hc, hx, ?_⟩
    repeat array_get_dec
    refine ⟨p, C, dx, _, _, rfl, hp, HC.c.cl, HC.nb, chf_b b t o, ?_⟩
    repeat array_get_dec
    exact ⟨b, _, rfl, .inl ⟨_, Sum.inr x, .inl eb, rfl, (valV_byN hx).symm⟩, q _ (hb x hx)⟩
abbrev N_check_chart : List Str := ["chart"]
theorem sc_check_chart : FnScope N_check_chart ["chart"] (defScope s_check_chart) := ⟨rfl, rfl, rfl, by decide +kernel, rfl, by decide +kernel, by decide +kernel⟩
theorem ok_check_chart {f : Addr} {fd : FuncData} {C CB : Addr} (HC : ChT K mg C) (F : Fun K "check_chart" "check_chart" s_check_chart f fd) (T : Txt K mg) (gChart : GlV mg "Chart" (.ref C)) : FnOk P w K mg base CX0 1 f fd ["chart"] (spCheckC C CB) := by
  refine F.ok sc_check_chart (fun vs H Q E h => ?_) (fun cdv A outer s H vs Q E hr h => ?_)
  · obtain ⟨p, c, rfl, hc, q⟩ := h
    rfl
  · obtain ⟨p, c, rfl, hc, q⟩ := h
    refine ⟨_, (pss_one (ps_if (pt_not (pt_val (pe_callB call_isi (by rfl) T.m_isinstance (by decide +kernel) (pa_cons (pv 0) (pa_cons (pe_gl gChart) pa_nil))))) (pss_one ps_never) pss_nil)), ?_⟩
    obtain ⟨dx, b, t, o, hp, _⟩ := hc
    repeat array_get_dec
    refine ⟨_, _, _, _, true, rfl, .own C, HC.c.ty hp, HC.c.kb, ?_⟩
    repeat array_get_dec
    exact q
end
end K23

namespace K23
open PySem PySem.Spec PyProof.Rows L2 L9
section
variable {P : Program} {w : World} {K : PySem.W.Frag} {mg : Str → Option Value} {base : Heap}
abbrev N_low_heights : List Str := ["chart", "name"]
theorem sc_low_heights : FnScope N_low_heights ["chart"] (defScope s_low_heights) := ⟨rfl, rfl, rfl, by decide +kernel, rfl, by decide +kernel, by decide +kernel⟩
theorem ok_low_heights {f : Addr} {fd : FuncData} {C CB : Addr} (HC : ChT K mg C) (B : BnT K mg CB) (F : Fun K "low_heights" "low_heights" s_low_heights f fd) (T : Txt K mg) (M_names : MCal P w K mg base C "names" 1 ["self"] (spNames C CB)) (G_item : OCal P w K mg base C "__getitem__" 4 ["self", "name"] (spItem C CB)) : FnOk P w K mg base CX0 6 f fd ["chart"] (spEndsD C CB true) := by
  refine F.ok sc_low_heights (fun vs H Q E h => ?_) (fun cdv A outer s H vs Q E hr h => ?_)
  · obtain ⟨p, c, rfl, hc, ok, q⟩ := h
    rfl
  · obtain ⟨p, c, rfl, hc, ok, q⟩ := h
    refine ⟨_, (pss_one (ps_ret (pe_dc (own := [("name", 1)]) (g := gName 1) (tt := tYes) rfl sc_low_heights.nd (pi_list (M_names.pe0 HC.c.cl (hr.mono (by decide)) (pv 0))) (blkOk_by (N := N_low_heights) (sc := defScope s_low_heights) (by decide +kernel)) (fun _ _ _ _ _ => pg_name (i := 1) sc_low_heights.nd rfl (Or.inl rfl)) (fun _ _ _ _ _ => pts_nil) (fun _ _ _ _ _ => (pv 1)) (fun _ _ _ _ _ => (pe_fldK (K' := K) rfl (G_item.sub (hr.mono (by decide)) (pv 0) (pv 1) (fun _ _ => rfl)) rfl))))), ?_⟩
    repeat array_get_dec
    have hc' := hc
    obtain ⟨dx, b, t, o, hp, _⟩ := hc'
    refine ⟨p, dx, _, rfl, hp, chf_no (by decide +kernel) (by decide +kernel) (by decide +kernel), ?_⟩
    refine ⟨p, c, rfl, hc, fun r H1 s1 nr er => ?_⟩
    repeat array_get_dec
    refine ⟨r, rfl, ⟨_, SqL.of er⟩, fun D nD => ?_⟩
    have hl2 : (c.names.map V.str).length = c.names.length := List.length_map _
    have hlen := ok.len
    refine dc_list (xs := c.names.map V.str) (fun i H' => Same H1 H' ∧ H' D = some (.dK (byI (c.names.take i) c.lo))) ⟨same_upd nD, upd_same⟩ (fun i H' _ hP => SqL.of (hP.1 _ _ er)) (fun i x H' hx hP => ?_) (fun H2 hP => ?_)
    · obtain ⟨s, eD⟩ := hP
      rw [List.getElem?_map] at hx
      obtain ⟨z, hz, rfl⟩ : ∃ z, c.names[i]? = some z ∧ V.str z = x := by
        cases h : c.names[i]? with
        | none => rw [h] at hx; cases hx
        | some z => rw [h] at hx; exact ⟨z, rfl, Option.some.inj hx⟩
      have hzl := List.mem_of_getElem? hz
      have htk : c.names.take (i + 1) = c.names.take i ++ [z] := by rw [List.take_add_one, hz]; rfl
      have hnz : z ∉ c.names.take i := by
        have h1 : (c.names.take (i + 1)).Nodup := ok.nd.sublist (List.take_sublist _ _)
        rw [htk, List.nodup_append] at h1
        exact fun hm => h1.2.2 z hm z (List.mem_singleton.mpr rfl) rfl
      have hc3 := hc.mono (s1.trans s)
      have hc4 := hc3
      obtain ⟨dx3, b3, t3, o3, hp3, _⟩ := hc4
      refine ⟨rfl, tyes ?_⟩
      repeat array_get_dec
      refine ⟨p, dx3, _, rfl, hp3, p, z, c, rfl, hc3, hzl, fun a ⟨dxa, ha⟩ => ?_⟩
      refine ⟨a, CB, dxa, _, _, rfl, ha, B.c.cl, B.nl, bf_low _ _, ?_⟩
      refine ⟨_, Sum.inr z, rfl, eD, ?_, Same.at s nD, ?_⟩
      · rw [byI_len, List.length_take]
        exact small1000 (by omega)
      · rw [upd_same, putK_byI hnz, ← htk]
    obtain ⟨s, eD⟩ := hP
    rw [hl2, List.take_of_length_le (Nat.le_refl _)] at eD
    exact q D H2 (s1.trans s) (s1.free nD) eD
abbrev N_high_heights : List Str := ["chart", "name"]
theorem sc_high_heights : FnScope N_high_heights ["chart"] (defScope s_high_heights) := ⟨rfl, rfl, rfl, by decide +kernel, rfl, by decide +kernel, by decide +kernel⟩
theorem ok_high_heights {f : Addr} {fd : FuncData} {C CB : Addr} (HC : ChT K mg C) (B : BnT K mg CB) (F : Fun K "high_heights" "high_heights" s_high_heights f fd) (T : Txt K mg) (M_names : MCal P w K mg base C "names" 1 ["self"] (spNames C CB)) (G_item : OCal P w K mg base C "__getitem__" 4 ["self", "name"] (spItem C CB)) : FnOk P w K mg base CX0 6 f fd ["chart"] (spEndsD C CB false) := by
  refine F.ok sc_high_heights (fun vs H Q E h => ?_) (fun cdv A outer s H vs Q E hr h => ?_)
  · obtain ⟨p, c, rfl, hc, ok, q⟩ := h
    rfl
  · obtain ⟨p, c, rfl, hc, ok, q⟩ := h
    refine ⟨_, (pss_one (ps_ret (pe_dc (own := [("name", 1)]) (g := gName 1) (tt := tYes) rfl sc_high_heights.nd (pi_list (M_names.pe0 HC.c.cl (hr.mono (by decide)) (pv 0))) (blkOk_by (N := N_high_heights) (sc := defScope s_high_heights) (by decide +kernel)) (fun _ _ _ _ _ => pg_name (i := 1) sc_high_heights.nd rfl (Or.inl rfl)) (fun _ _ _ _ _ => pts_nil) (fun _ _ _ _ _ => (pv 1)) (fun _ _ _ _ _ => (pe_fldK (K' := K) rfl (G_item.sub (hr.mono (by decide)) (pv 0) (pv 1) (fun _ _ => rfl)) rfl))))), ?_⟩
    repeat array_get_dec
    have hc' := hc
    obtain ⟨dx, b, t, o, hp, _⟩ := hc'
    refine ⟨p, dx, _, rfl, hp, chf_no (by decide +kernel) (by decide +kernel) (by decide +kernel), ?_⟩
    refine ⟨p, c, rfl, hc, fun r H1 s1 nr er => ?_⟩
    repeat array_get_dec
    refine ⟨r, rfl, ⟨_, SqL.of er⟩, fun D nD => ?_⟩
    have hl2 : (c.names.map V.str).length = c.names.length := List.length_map _
    have hlen := ok.len
    refine dc_list (xs := c.names.map V.str) (fun i H' => Same H1 H' ∧ H' D = some (.dK (byI (c.names.take i) c.hi))) ⟨same_upd nD, upd_same⟩ (fun i H' _ hP => SqL.of (hP.1 _ _ er)) (fun i x H' hx hP => ?_) (fun H2 hP => ?_)
    · obtain ⟨s, eD⟩ := hP
      rw [List.getElem?_map] at hx
      obtain ⟨z, hz, rfl⟩ : ∃ z, c.names[i]? = some z ∧ V.str z = x := by
        cases h : c.names[i]? with
        | none => rw [h] at hx; cases hx
        | some z => rw [h] at hx; exact ⟨z, rfl, Option.some.inj hx⟩
      have hzl := List.mem_of_getElem? hz
      have htk : c.names.take (i + 1) = c.names.take i ++ [z] := by rw [List.take_add_one, hz]; rfl
      have hnz : z ∉ c.names.take i := by
        have h1 : (c.names.take (i + 1)).Nodup := ok.nd.sublist (List.take_sublist _ _)
        rw [htk, List.nodup_append] at h1
        exact fun hm => h1.2.2 z hm z (List.mem_singleton.mpr rfl) rfl
      have hc3 := hc.mono (s1.trans s)
      have hc4 := hc3
      obtain ⟨dx3, b3, t3, o3, hp3, _⟩ := hc4
      refine ⟨rfl, tyes ?_⟩
      repeat array_get_dec
      refine ⟨p, dx3, _, rfl, hp3, p, z, c, rfl, hc3, hzl, fun a ⟨dxa, ha⟩ => ?_⟩
      refine ⟨a, CB, dxa, _, _, rfl, ha, B.c.cl, B.nh, bf_high _ _, ?_⟩
      refine ⟨_, Sum.inr z, rfl, eD, ?_, Same.at s nD, ?_⟩
      · rw [byI_len, List.length_take]
        exact small1000 (by omega)
      · rw [upd_same, putK_byI hnz, ← htk]
    obtain ⟨s, eD⟩ := hP
    rw [hl2, List.take_of_length_le (Nat.le_refl _)] at eD
    exact q D H2 (s1.trans s) (s1.free nD) eD
end
end K23

namespace K23
open PySem PySem.Spec PyProof.Rows L2 L9
section
variable {P : Program} {w : World} {K : PySem.W.Frag} {mg : Str → Option Value} {base : Heap}
abbrev N__law_take : List Str := ["_law_box_here", "_law_many", "_law_digit", "_law_number"]
theorem sc__law_take : FnScope N__law_take ["_law_box_here", "_law_many"] (defScope s__law_take) := ⟨rfl, rfl, rfl, by decide +kernel, rfl, by decide +kernel, by decide +kernel⟩
theorem ok_take {f : Addr} {fd : FuncData} (F : Fun K "_law_take" "_law_take" s__law_take f fd) (T : Bt mg) : FnOk P w K mg base CX0 1 f fd ["_law_box_here", "_law_many"] spTake := by
  refine F.ok sc__law_take (fun vs H Q E h => ?_) (fun cdv A outer s H vs Q E hr h => ?_)
  · obtain ⟨b, m, n, rfl, _⟩ := h
    rfl
  · obtain ⟨b, m, n, rfl, ⟨xs, hb, x, y, z, rfl, hx, hy, hy2, hz, hz2⟩, hm, hm2, hn, q⟩ := h
    refine ⟨_, (pss_cons (ps_if (pt_cmpR op_gt (pe_ix ix_list (pv 0) pe_int (fun _ _ => rfl)) pe_int (nomark _)) (pss_cons (ps_set (i := 2) sc__law_take.nd rfl (.inl rfl) (pe_op op_mod (pe_callTy call_int1 (by rfl) T.m_int (by decide +kernel) (pa_cons (pe_ix ix_list (pv 0) pe_int (fun _ _ => rfl)) pa_nil)) (pv 1)))
    (pss_cons (ps_asg (pe_op op_fdivW (pe_ix ix_list (pv 0) pe_int (fun _ _ => rfl)) (pv 1)) (pg_sub (pv 0) pe_int set_list))
    (pss_one (ps_ret (pv 2))))) pss_nil)
    (pss_cons (ps_asg (pe_op op_add (pe_ix ix_list (pv 0) pe_int (fun _ _ => rfl)) pe_int) (pg_sub (pv 0) pe_int set_list))
    (pss_cons (ps_set (i := 3) sc__law_take.nd rfl (.inl rfl) (pe_op op_mod (pe_op op_pow (pe_callTy call_int1 (by rfl) T.m_int (by decide +kernel) (pa_cons (pe_op op_add (pe_op op_add (pe_ix ix_list (pv 0) pe_int (fun _ _ => rfl)) (pe_op op_mul pe_int (pe_ix ix_list (pv 0) pe_int (fun _ _ => rfl)))) pe_int) pa_nil)) pe_int) pe_int))
    (pss_cons (ps_set (i := 3) sc__law_take.nd rfl (.inl rfl) (pe_op op_mod (pe_op op_pow (pe_callTy call_int1 (by rfl) T.m_int (by decide +kernel) (pa_cons (pe_op op_add (pv 3) (pe_op op_mul pe_int (pe_ix ix_list (pv 0) pe_int (fun _ _ => rfl)))) pa_nil)) pe_int) pe_int))
    (pss_one (ps_ret (pe_op op_mod (pe_callTy call_int1 (by rfl) T.m_int (by decide +kernel) (pa_cons (pe_op op_fdivW (pv 3) pe_int) pa_nil)) (pv 1)))))))), ?_⟩
    -- box[0] > 0
    refine ⟨.ref b, rfl, b, _, 0, .int x, rfl, rfl, SqL.of hb, rfl, x, 0, rfl, rfl, _, rfl, ite2 (fun e => ?_) (fun e => ?_)⟩
    · have hx0 : 0 < x := of_decide_eq_true e
      refine ⟨.ref b, rfl, b, _, 0, .int x, rfl, rfl, SqL.of hb, rfl, .inl ⟨x, rfl, .int m, rfl, x, m, rfl, rfl, hm, ?_⟩⟩
      refine ⟨.ref b, rfl, b, _, 0, .int x, rfl, rfl, SqL.of hb, rfl, .int m, rfl, x, m, rfl, rfl, wide_div (b := 60) hm (by omega) (by decide) (by decide), .ref b, rfl, b, _, 0, 0, rfl, rfl, hb, rfl, ?_⟩
      refine ⟨.int (x % m), rfl, q _ _ (Int.emod_nonneg _ (by omega)) (Int.emod_lt_of_pos _ hm) ⟨x / m, y, z, rfl, Int.ediv_nonneg hx (by omega), hy, hy2, hz, by omega⟩⟩
    · -- the counter
      refine ⟨.ref b, rfl, b, _, 2, .int z, rfl, rfl, SqL.of hb, rfl, z, 1, rfl, rfl, .ref b, rfl, b, _, 2, 2, rfl, rfl, hb, rfl, ?_⟩
      have hb2 : (upd H b (.lst [V.int x, V.int y, V.int (z + 1)])) b = some (.lst [V.int x, V.int y, V.int (z + 1)]) := upd_same
      have hB1 : y + 5325 * (z + 1) + 76 < 2 ^ 63 := by omega
      have hone : 0 ≤ (y + 5325 * (z + 1) + 76) ^ 5 % 2147483647 ∧ (y + 5325 * (z + 1) + 76) ^ 5 % 2147483647 < 2147483647 := ⟨Int.emod_nonneg _ (by decide), Int.emod_lt_of_pos _ (by decide)⟩
      refine ⟨.ref b, rfl, b, _, 1, .int y, rfl, rfl, SqL.of hb2, rfl, .ref b, rfl, b, _, 2, .int (z + 1), rfl, rfl, SqL.of hb2, rfl, 5325, z + 1, rfl, rfl, .inl ⟨by decide, by decide⟩, y, _, rfl, rfl, _, 76, rfl, rfl, .inl ⟨_, rfl, _, 5, rfl, rfl, ⟨by decide, by decide, by omega⟩, _, 2147483647, rfl, rfl, by show (0 : Int) < 2147483647; decide, ?_⟩⟩
      show gName 3 (V.int ((y + 5325 * (z + 1) + 76) ^ (Int.toNat 5) % 2147483647)) _ _ _
      obtain ⟨one, hoe⟩ : ∃ one : Int, one = (y + 5325 * (z + 1) + 76) ^ (Int.toNat 5) % 2147483647 := ⟨_, rfl⟩
      have h1 : 0 ≤ one ∧ one < 2147483647 := by
        rw [hoe]
        exact hone
      rw [← hoe]
      refine ⟨.int one, rfl, .ref b, rfl, b, _, 2, .int (z + 1), rfl, rfl, SqL.of hb2, rfl, 90599, z + 1, rfl, rfl, .inl ⟨by decide, by decide⟩, one, _, rfl, rfl, .inl ⟨_, rfl, _, 3, rfl, rfl, ⟨by decide, by decide, by omega⟩, _, 2147483587, rfl, rfl, by show (0 : Int) < 2147483587; decide, ?_⟩⟩
      show gName 3 (V.int ((one + 90599 * (z + 1)) ^ (Int.toNat 3) % 2147483587)) _ _ _
      obtain ⟨two, htwo⟩ : ∃ two : Int, two = (one + 90599 * (z + 1)) ^ (Int.toNat 3) % 2147483587 := ⟨_, rfl⟩
      have h2 : 0 ≤ two ∧ two < 2147483587 := by
        rw [htwo]
        exact ⟨Int.emod_nonneg _ (by decide), Int.emod_lt_of_pos _ (by decide)⟩
      rw [← htwo]
      refine ⟨.int two, rfl, two, 16, rfl, rfl, wide_div (b := 60) (by decide) (by decide) (by decide) (by decide), .inl ⟨_, rfl, .int m, rfl, _, m, rfl, rfl, hm, ?_⟩⟩
      exact q _ _ (Int.emod_nonneg _ (by omega)) (Int.emod_lt_of_pos _ hm) ⟨x, y, z + 1, rfl, hx, hy, hy2, by omega, by omega⟩
abbrev N__law_cell : List Str := ["_law_script", "_law_k"]
theorem sc__law_cell : FnScope N__law_cell ["_law_script", "_law_k"] (defScope s__law_cell) := ⟨rfl, rfl, rfl, by decide +kernel, rfl, by decide +kernel, by decide +kernel⟩
theorem ok_cell {f : Addr} {fd : FuncData} (F : Fun K "_law_cell" "_law_cell" s__law_cell f fd) (T : Bt mg) : FnOk P w K mg base CX0 1 f fd ["_law_script", "_law_k"] (spCellA K) := by
  refine F.ok sc__law_cell (fun vs H Q E h => ?_) (fun cdv A outer s H vs Q E hr h => ?_)
  · obtain ⟨l, ns, j, rfl, _⟩ := h
    rfl
  · obtain ⟨l, ns, j, rfl, hl, hn, hj0, hj, q⟩ := h
    obtain ⟨j, rfl⟩ := Int.eq_ofNat_of_zero_le hj0
    refine ⟨_, (pss_cons (ps_if (pt_cmpR op_lt (pv 1) (pe_callB call_len_seq (by rfl) T.m_len (by decide +kernel) (pa_cons (pv 0) pa_nil)) (nomark _)) (pss_one (ps_ret (pe_ix ix_list (pv 0) (pv 1) (fun _ _ => rfl)))) pss_nil)
    (pss_one (ps_ret (pe_op op_add (pe_op op_mul pe_int (pv 1)) pe_int)))), ?_⟩
    refine ⟨_, rfl, .ref l, rfl, l, _, rfl, .inl hl, _, _, rfl, rfl, _, rfl, ite2 (fun e => ?_) (fun e => ?_)⟩
    · have e1 : (j : Int) < ((ns.map V.int).length : Int) := of_decide_eq_true e
      rw [List.length_map] at e1
      have hj2 : j < ns.length := by omega
      exact ⟨.ref l, rfl, _, rfl, l, _, (j : Nat), .int ns[j], rfl, rfl, hl, atI_nat (by rw [List.getElem?_map, List.getElem?_eq_getElem hj2] <;> rfl), q _⟩
    · exact ⟨_, rfl, 36893310, (j : Nat), rfl, rfl, .inl ⟨by decide, by decide⟩, _, 862, rfl, rfl, q _⟩
abbrev N__law_box : List Str := ["_law_cell_here"]
theorem sc__law_box : FnScope N__law_box ["_law_cell_here"] (defScope s__law_box) := ⟨rfl, rfl, rfl, by decide +kernel, rfl, by decide +kernel, by decide +kernel⟩
theorem ok_box {f : Addr} {fd : FuncData} (F : Fun K "_law_box" "_law_box" s__law_box f fd) (T : Bt mg) : FnOk P w K mg base CX0 1 f fd ["_law_cell_here"] spBox := by
  refine F.ok sc__law_box (fun vs H Q E h => ?_) (fun cdv A outer s H vs Q E hr h => ?_)
  · obtain ⟨c, rfl, _⟩ := h
    rfl
  · obtain ⟨c, rfl, q⟩ := h
    refine ⟨_, (pss_one (ps_ret (pe_lst (pa_cons (pe_callB (call_max2 rfl) (by rfl) T.m_max (by decide +kernel) (pa_cons pe_int (pa_cons (pe_op op_sub (pv 0) (pe_op op_pow pe_int pe_int)) pa_nil))) (pa_cons (pe_op op_mod (pe_callTy call_int1 (by rfl) T.m_int (by decide +kernel) (pa_cons (pv 0) pa_nil)) pe_int) (pa_cons pe_int pa_nil)))))), ?_⟩
    refine ⟨.int c, rfl, 10, 18, rfl, rfl, ⟨by decide, by decide, by decide⟩, c, _, rfl, rfl, 0, _, rfl, .int c, rfl, .inl ⟨c, rfl, c, 2147483629, rfl, rfl, by show (0 : Int) < 2147483629; decide, by show 3 ≤ sizeLine; decide, fun p np => ?_⟩⟩
    refine q p _ np ⟨_, _, _, rfl, ?_, Int.emod_nonneg _ (by decide), Int.emod_lt_of_pos _ (by decide), Int.le_refl _, by decide⟩
    split <;> omega
end
end K23

namespace K23
open PySem PySem.Spec PyProof.Rows L2 L9
section
variable {P : Program} {w : World} {K : PySem.W.Frag} {mg : Str → Option Value} {base : Heap}
abbrev N__law_mixed : List Str := ["_law_box_here", "_law_some", "_law_left", "_law_k"]
theorem sc__law_mixed : FnScope N__law_mixed ["_law_box_here", "_law_some"] (defScope s__law_mixed) := ⟨rfl, rfl, rfl, by decide +kernel, rfl, by decide +kernel, by decide +kernel⟩
theorem ok__law_mixed {f : Addr} {fd : FuncData}  (F : Fun K "_law_mixed" "_law_mixed" s__law_mixed f fd) (T : Txt K mg) (C__law_take : Cal P w K mg base "_law_take" 1 ["_law_box_here", "_law_many"] spTake) : FnOk P w K mg base CX0 2 f fd ["_law_box_here", "_law_some"] (spMixed K) := by
  refine F.ok sc__law_mixed (fun vs H Q E h => ?_) (fun cdv A outer s H vs Q E hr h => ?_)
  · obtain ⟨b, a, xs, n, rfl, hb, ha, hx, hn, q⟩ := h
    rfl
  · obtain ⟨b, a, xs, n, rfl, hb, ha, hx, hn, q⟩ := h
    refine ⟨_, (pss_cons (ps_set (i := 2) sc__law_mixed.nd rfl (.inr rfl) (pe_callTy call_list_of (by rfl) T.m_list (by decide +kernel) (pa_cons (pv 1) pa_nil)))
    (pss_one (ps_ret (pe_lc (own := [("_law_k", 3)]) (g := gName 3) (tt := tYes) rfl sc__law_mixed.nd (pi_range1 (by rfl) T.m_range (pa_cons (pe_callB call_len_seq (by rfl) T.m_len (by decide +kernel) (pa_cons (pv 1) pa_nil)) pa_nil)) (blkOk_by (N := N__law_mixed) (sc := defScope s__law_mixed) (by decide +kernel)) (fun _ _ _ _ _ => pg_name (i := 3) sc__law_mixed.nd rfl (Or.inl rfl)) (fun _ _ _ _ _ => pts_nil) (fun _ _ _ _ _ => (pe_bmK (K' := K) rfl PySem.F.plainAttrs_list PySem.F.slot_list_pop PySem.F.type_list_pop mtr_popAt (pv 2) (pa_cons (pe_cal C__law_take (hr.mono (by decide)) (by rfl) (pa_cons (pv 0) (pa_cons (pe_callB (call_len_seqK (K' := K) rfl) (by rfl) T.m_len (by decide +kernel) (pa_cons (pv 2) pa_nil)) pa_nil))) pa_nil))))))), ?_⟩
    repeat array_get_dec
    refine ⟨a, xs, rfl, .inl ha, fun l nl => ?_⟩
    generalize hG : upd H l _ = H1
    obtain ⟨hl, e1, s1, d1⟩ := (Drw.refl hb).gen nl hG
    repeat array_get_dec
    repeat array_get_dec
    refine ⟨a, xs, rfl, .inl (s1.seq ha), ?_⟩
    repeat array_get_dec
    intro D nD
    have hDb := d1.ne nD
    have hDl : D ≠ l := fun z => by rw [z, e1] at nD; cases nD
    refine lc_range (lo := 0) (fun j H' => Drw H H' b (n + j) ∧ ∃ ys rest, H' D = some (.lst ys) ∧ H' l = some (.lst rest) ∧ ys.length = j ∧ (ys ++ rest).Perm xs) ⟨d1.new nD, [], xs, upd_same, (upd_ne hDl.symm).trans e1, rfl, List.Perm.refl _⟩ (fun j H' hj hP => ?_) (fun H' hP => ?_)
    · obtain ⟨dj, ys, rest, eD, eL, hyl, hp⟩ := hP
      have hj : j < xs.length := by
        have h1 : j < ((xs.length : Nat) : Int).toNat := hj
        omega
      have hlen := hp.length_eq
      rw [List.length_append] at hlen
      refine ⟨rfl, tyes ?_⟩
      repeat array_get_dec
      refine ⟨.inl ⟨rfl, _, SqL.of eL⟩, ?_⟩
      repeat array_get_dec
      refine ⟨l, rest, rfl, .inl (SqL.of eL), ?_⟩
      repeat array_get_dec
      refine go_take dj (by omega) (by omega) (by omega) fun r H2 l2 u2 d2 k2 => ?_
      obtain ⟨k, rfl⟩ := Int.eq_ofNat_of_zero_le l2
      have hk : k < rest.length := by omega
      obtain ⟨y, hy⟩ : ∃ y, rest[k]? = some y := ⟨_, List.getElem?_eq_getElem hk⟩
      have eL2 := k2 _ _ hl eL
      have eD2 := k2 _ _ hDb eD
      refine ⟨l, rest, _, k, y, rfl, rfl, eL2, by omega, by omega, ?_, hy, ys, (upd_ne hDl).trans eD2, ?_, ?_⟩
      · exact seqIndex_of (by omega) (by omega)
      · exact small1000 (by omega)
      · have hDn : H D = none := d1.free hDb nD
        refine ⟨((d2.at hl nl).at hDb hDn).le (by omega), ys ++ [y], rest.eraseIdx k, upd_same, (upd_ne hDl.symm).trans upd_same, by rw [List.length_append, hyl] <;> rfl, ?_⟩
        rw [List.append_assoc]
        refine List.Perm.trans (List.Perm.append_left ys ?_) hp
        exact M9.perm_eraseIdx hy
    · obtain ⟨dj, ys, rest, eD, eL, hyl, hp⟩ := hP
      have hlen := hp.length_eq
      rw [List.length_append] at hlen
      have hyl : ys.length = ((xs.length : Nat) : Int).toNat := hyl
      have hr0 : rest = [] := List.eq_nil_of_length_eq_zero (by omega)
      rw [hr0, List.append_nil] at hp
      have dj : Drw H H' b (n + ((xs.length : Nat) : Int).toNat) := dj
      exact q D H' ys (dj.le (by omega)) (d1.free hDb nD) eD hp
end
end K23

namespace K23
open PySem PySem.Spec PyProof.Rows L2 L9
section
variable {P : Program} {w : World} {K : PySem.W.Frag} {mg : Str → Option Value} {base : Heap}
abbrev N_Chart___len__ : List Str := ["self"]
theorem sc_Chart___len__ : FnScope N_Chart___len__ ["self"] (defScope s_Chart___len__) := ⟨rfl, rfl, rfl, by decide +kernel, rfl, by decide +kernel, by decide +kernel⟩
theorem ok_Chart___len__ {f : Addr} {fd : FuncData} {C CB : Addr} (HC : ChT K mg C) (F : Fun K "__len__" "Chart.__len__" s_Chart___len__ f fd) (T : Txt K mg) : FnOk P w K mg base CX0 1 f fd ["self"] (spLen C CB) := by
  refine F.ok sc_Chart___len__ (fun vs H Q E h => ?_) (fun cdv A outer s H vs Q E hr h => ?_)
  · obtain ⟨p, c, rfl, hc, q⟩ := h
    rfl
  · obtain ⟨p, c, rfl, hc, q⟩ := h
    refine ⟨_, (pss_one (ps_ret (pe_callB call_lenD (by rfl) T.m_len (by decide +kernel) (pa_cons (pe_fld (pv 0) rfl) pa_nil)))), ?_⟩
    obtain ⟨dx, b, t, o, e0, ⟨ba, e1, _⟩, _, _⟩ := hc
    repeat array_get_dec
    refine ⟨p, C, dx, _, _, rfl, e0, HC.c.cl, HC.nb, chf_b _ _ _, ?_⟩
    repeat array_get_dec
    refine ⟨b, _, rfl, e1, ?_⟩
    rw [byN_len]
    exact q
abbrev N_Bounds___contains__ : List Str := ["self", "value"]
theorem sc_Bounds___contains__ : FnScope N_Bounds___contains__ ["self", "value"] (defScope s_Bounds___contains__) := ⟨rfl, rfl, rfl, by decide +kernel, rfl, by decide +kernel, by decide +kernel⟩
theorem ok_Bounds___contains__ {f : Addr} {fd : FuncData} {CB : Addr} (B : BnT K mg CB) (F : Fun K "__contains__" "Bounds.__contains__" s_Bounds___contains__ f fd) (T : Txt K mg) (C_is_height : Cal P w K mg base "is_height" 2 ["value"] spHeightY) : FnOk P w K mg base CX0 3 f fd ["self", "value"] (spInB CB) := by
  refine F.ok sc_Bounds___contains__ (fun vs H Q E h => ?_) (fun cdv A outer s H vs Q E hr h => ?_)
  · obtain ⟨a, l, h', x, rfl, ⟨dx, ha⟩, hx, h1, h2, q⟩ := h
    rfl
  · obtain ⟨a, l, h', x, rfl, ⟨dx, ha⟩, hx, h1, h2, q⟩ := h
    refine ⟨_, (pss_one (ps_ret (pe_and (pe_cal C_is_height (hr.mono (by decide)) (by rfl) (pa_cons (pv 1) pa_nil)) (pe_one (pe_chain op_le op_le (pe_fld (pv 0) rfl) (pv 1) (pe_fld (pv 0) rfl)))))), ?_⟩
    repeat array_get_dec
    refine ⟨x, rfl, hx, ?_⟩
    repeat array_get_dec
    refine ⟨a, CB, dx, _, _, rfl, ha, B.c.cl, B.nl, bf_low _ _, ?_⟩
    repeat array_get_dec
    rw [decide_eq_true h1]
    repeat array_get_dec
    refine ⟨a, CB, dx, _, _, rfl, ha, B.c.cl, B.nh, bf_high _ _, ?_⟩
    repeat array_get_dec
    rw [decide_eq_true h2]
    exact q
end
end K23

namespace K23
open PySem PySem.Spec PyProof.Rows L2 L9
section
variable {P : Program} {w : World} {K : PySem.W.Frag} {mg : Str → Option Value} {base : Heap}
abbrev N_flood : List Str := ["chart", "heights", "starts", "stops", "levels", "sources", "waiting", "level", "here", "onward", "name", "reach"]
theorem sc_flood : FnScope N_flood ["chart", "heights", "starts", "stops"] (defScope s_flood) := ⟨rfl, rfl, rfl, by decide +kernel, rfl, by decide +kernel, by decide +kernel⟩
theorem ok_flood {f : Addr} {fd : FuncData} {C CB : Addr} (HC : ChT K mg C) {dvs : List V} {kws : List (Str × V)} (F : FunD K "flood" "flood" (defArgs s_flood) (defBody s_flood) (defScope s_flood) dvs kws f fd) (T : Txt K mg) (M_neighbours : MCal P w K mg base C "neighbours" 4 ["self", "name"] (spNbrs C CB)) : FnOk P w K mg base CX0 5 f fd ["chart", "heights", "starts", "stops"] (spFloodP K C CB) := by
  refine F.okN sc_flood (fun vs H Q E h => ?_) (fun cdv A outer s H vs Q E hr h => ?_)
  · obtain ⟨p, a, b, z, c, f', sl, sv, zs, rfl, hc, ok, ha, hb, hsl, hsm, hz, q⟩ := h
    rfl
  · obtain ⟨p, a, b, z, c, f', sl, sv, zs, rfl, hc, ok, ha, hb, hsl, hsm, hz, q⟩ := h
    refine ⟨_, (pss_cons (ps_set (i := 4) sc_flood.nd rfl (.inl rfl) pe_dnewK)
    (pss_cons (ps_lock (ps_setDc (i := 5) (own := [("name", 10)]) (g := gName 10) (tt := tYes) rfl sc_flood.nd rfl rfl (sw_dict rfl rfl rfl (by decide +kernel)) (pi_keys (pv 2)) (blkOk_by (N := N_flood) (sc := defScope s_flood) (by decide +kernel)) (fun _ _ _ _ _ => pg_name (i := 10) sc_flood.nd rfl (Or.inl rfl)) (fun _ _ _ _ _ => pts_nil) (fun _ _ _ _ _ => (pv 10)) (fun _ _ _ _ _ => pe_non)))
    (pss_cons (ps_set (i := 6) sc_flood.nd rfl (.inr rfl) (pe_callTy call_dictD (by rfl) T.m_dict (by decide +kernel) (pa_cons (pv 2) pa_nil)))
    (pss_cons (ps_while PassesOwn.never (pt_truth (pv 6) (by intro _; rfl)) (pss_cons (ps_asg (pe_callB (cr_minR rfl (hu65 hr)) (by rfl) T.m_min (by decide +kernel) (pa_cons (pe_lock (pe_lc (own := [("name", 10)]) (g := gName 10) (tt := tYes) rfl sc_flood.nd (pi_keys (pv 6)) (blkOk_by (N := N_flood) (sc := defScope s_flood) (by decide +kernel)) (fun _ _ _ _ _ => pg_name (i := 10) sc_flood.nd rfl (Or.inl rfl)) (fun _ _ _ _ _ => pts_nil) (fun _ _ _ _ _ => (pe_tup (pa_cons (pe_dget (hu_of hr) (pv 6) (pv 10) (fun _ _ => rfl)) (pa_cons (pv 10) pa_nil)))))) pa_nil)) (pg_tup rfl (pgs_cons (pg_name (i := 7) sc_flood.nd rfl (.inl rfl)) (pgs_cons (pg_name (i := 8) sc_flood.nd rfl (.inl rfl)) pgs_nil))))
    (pss_cons (ps_ddel (pv 6) (pv 8))
    (pss_cons (ps_dput (hu_of hr) (pv 4) (pv 8) (pv 7) rfl)
    (pss_cons (ps_set (i := 9) sc_flood.nd rfl (.inl rfl) (pe_ifExp (pt_cmpR op_in_seq (pv 8) (pv 3) (by rfl)) (pe_lst pa_nil) (M_neighbours.pe HC.c.cl (hr.mono (by decide)) (pv 0) (pa_cons (pv 8) pa_nil))))
    (pss_one (ps_for PassesOwn.never rfl (pi_list (pv 9)) (pg_name (i := 10) sc_flood.nd rfl (.inl rfl))
    (pss_cons (ps_set (i := 11) sc_flood.nd rfl (.inl rfl) (pe_callB (call_max2 rfl) (by rfl) T.m_max (by decide +kernel) (pa_cons (pv 7) (pa_cons (pe_dget (hu_of hr) (pv 1) (pv 10) (fun _ _ => rfl)) pa_nil))))
    (pss_one (ps_if (PW.pt (pw_and (pt_cmp (pc_dnotin (hu_of hr) (pv 10) (pv 4))) (pw_and1 (PW.pt (pw_or (pt_cmp (pc_dnotin (hu_of hr) (pv 10) (pv 6))) (pw_or1 (pt_cmpR op_lt (pv 11) (pe_dget (hu_of hr) (pv 6) (pv 10) (fun _ _ => rfl)) (nomark _)))))))) (pss_cons (ps_dput (hu_of hr) (pv 6) (pv 10) (pv 11) rfl)
    (pss_one (ps_dput (hu_of hr) (pv 5) (pv 10) (pv 8) rfl))) pss_nil))))))))))
    (pss_one (ps_ret (pe_tup (pa_cons (pv 4) (pa_cons (pv 5) pa_nil))))))))), ?_⟩
    have hs60 : sl.length ≤ 60 := Nat.le_trans (lists_sub hsl hsm) ok.len
    repeat array_get_dec
    intro lp nlp
    generalize hG : upd H lp _ = H1
    have s1 : Same H H1 := by rw [← hG]; exact same_upd nlp
    have e1 : H1 lp = some (.dK (byI [] f')) := by rw [← hG]; exact upd_same
    clear hG
    repeat array_get_dec
    refine ⟨b, _, s1 _ _ hb, trivial, fun od => ?_⟩
    repeat array_get_dec
    refine ⟨_, rfl, b, od, rfl, .inl ⟨_, upd_same, fun D nD => ?_⟩⟩
    have hDb : D ≠ b := fun z => by rw [z, upd_same] at nD; cases nD
    refine dc_it walk_keys (fun i H' => Same (upd H1 b (.frz od (.dK (byI sl sv)))) H' ∧ ∃ gs : Str → V, H' D = some (.dK (byV (sl.take i) gs))) ⟨same_upd nD, fun _ => .non, upd_same⟩ (fun i H' _ hP => hP.1 _ _ upd_same) (fun i x H2 H3 hi hP hY => ?_) (fun H' hP => ?_)
    · obtain ⟨s, gs, eD⟩ := hP
      obtain ⟨rfl, k, v, hk, rfl⟩ := hY
      obtain ⟨x, hx, rfl, rfl⟩ := byV_get (g := fun x => V.int (sv x)) hk
      have htk : sl.take (i + 1) = sl.take i ++ [x] := by rw [List.take_add_one, hx]; rfl
      refine ⟨rfl, tyes ?_⟩
      repeat array_get_dec
      refine ⟨_, Sum.inr x, rfl, eD, ?_, Same.at s nD, upF gs x .non, ?_⟩
      · rw [byV_len, List.length_take]
        exact small1000 (by omega)
      · rw [upd_same, putK_byV, htk]
        unfold insN
        rw [if_neg]
        intro hm
        have h1 : (sl.take (i + 1)).Nodup := hsl.sublist (List.take_sublist _ _)
        rw [htk, List.nodup_append] at h1
        exact h1.2.2 x hm x (List.mem_singleton.mpr rfl) rfl
    obtain ⟨s, gs, eD⟩ := hP
    rw [byI_len, List.take_of_length_le (Nat.le_refl _)] at eD
    refine ⟨s _ _ upd_same, ?_⟩
    have s2 : Same H1 (upd H' b (.dK (byI sl sv))) := unlock_same (s1 _ _ hb) s
    generalize hG : upd H' b _ = H2 at s2 ⊢
    have e2 : H2 D = some (.dK (byV sl gs)) := by rw [← hG]; exact (upd_ne hDb).trans eD
    clear hG
    rw [upd_ne hDb] at nD
    repeat array_get_dec
    have e1' := s2 _ _ e1
    refine ⟨b, _, rfl, .inl (s2 _ _ (s1 _ _ hb)), fun wp nwp => ?_⟩
    generalize hG : upd H2 wp _ = H3
    have s3 : Same H2 H3 := by rw [← hG]; exact same_upd nwp
    have e3 : H3 wp = some (.dK (byI sl sv)) := by rw [← hG]; exact upd_same
    clear hG
    repeat array_get_dec
    have hDl : D ≠ lp := fun z => by rw [z, e1] at nD; cases nD
    have hwl : wp ≠ lp := fun z => by rw [z, e1'] at nwp; cases nwp
    have hwD : wp ≠ D := fun z => by rw [z, e2] at nwp; cases nwp
    have nD0 : H D = none := s1.free nD
    have nw0 : H wp = none := (s1.trans s2).free nwp
    have s03 : Same H H3 := (s1.trans s2).trans s3
    obtain ⟨W, hW⟩ : ∃ W : Nat → L2.St → Hp → Prop, W = fun m σ H' => ∃ (L Wt SL : List Str) (g w : Str → Int) (gs : Str → V) (y7 y8 y9 y10 y11 : Option V), σ = [some (.ref p), some (.ref a), some (.ref b), some (.ref z), some (.ref lp), some (.ref D), some (.ref wp), y7, y8, y9, y10, y11] ∧ Same H H' ∧ H' lp = some (.dK (byI L g)) ∧ H' wp = some (.dK (byI Wt w)) ∧ H' D = some (.dK (byV SL gs)) ∧ SL.Nodup ∧ (∀ x ∈ SL, x ∈ c.names) ∧ Dij (AdjS c zs) c.names f' sl sv (fun _ _ => False) L g Wt w ∧ m = c.names.length - L.length := ⟨_, rfl⟩
    refine ⟨W, ⟨_, by rw [hW]; exact ⟨[], sl, sl, f', sv, gs, _, _, _, _, _, rfl, s03, s3 _ _ e1', e3, s3 _ _ e2, hsl, hsm, .init hsl hsm, rfl⟩⟩, fun m σ H' hw => ?_⟩
    rw [hW] at hw
    obtain ⟨L, Wt, SL, g, w', gs, y7, y8, y9, y10, y11, rfl, sH, eL, eW, eS, hSn, hSm, D0, rfl⟩ := hw
    have hL60 : L.length ≤ c.names.length := lists_sub D0.ndL D0.mL
    have hW60 : Wt.length ≤ 60 := Nat.le_trans (lists_sub D0.ndW D0.mW) ok.len
    have hS60 : SL.length ≤ 60 := Nat.le_trans (lists_sub hSn hSm) ok.len
    have hn60 := ok.len
    refine w_var rfl ?_
    refine ⟨_, .inr (.inr ⟨_, eW, rfl⟩), ?_⟩
    cases hWt : Wt with
    | nil =>
      subst hWt
      refine iteF ?_
      repeat array_get_dec
      refine ⟨by show 2 ≤ sizeLine; decide, fun r nr => ?_⟩
      have hrl : lp ≠ r := fun z => by rw [← z, eL] at nr; cases nr
      exact q r lp D _ L g (sH.trans (same_upd nr)) (sH.free nr) nlp upd_same ((upd_ne hrl).trans eL) ⟨D0.ndL, D0.mL, fun t u => D0.done t u⟩
    | cons x0 Wr =>
      refine iteT ?_
      rw [hWt] at D0 eW hW60
      refine ⟨fun σ' H' => ∃ m', m' < c.names.length - L.length ∧ W m' σ' H', fun _ _ h => h, ?_⟩
      repeat array_get_dec
      refine ⟨wp, _, eW, trivial, fun od2 => ?_⟩
      repeat array_get_dec
      refine ⟨_, rfl, wp, od2, rfl, .inl ⟨_, upd_same, fun D2 nD2 => ?_⟩⟩
      have hD2w : D2 ≠ wp := fun z => by rw [z, upd_same] at nD2; cases nD2
      refine lc_it walk_keys (fun i H5 => Same (upd H' wp (.frz od2 (.dK (byI (x0 :: Wr) w')))) H5 ∧ ∃ us, H5 D2 = some (.lst us) ∧ RkAll H5 us (((x0 :: Wr).take i).map fun x => (w' x, x))) ⟨same_upd nD2, [], upd_same, trivial⟩ (fun i H5 _ hP => hP.1 _ _ upd_same) (fun i x H5 H6 hi hP hY => ?_) (fun H5 hP => ?_)
      · obtain ⟨s, us, eU, hU⟩ := hP
        obtain ⟨rfl, k, v, hk, rfl⟩ := hY
        obtain ⟨x, hx, rfl, rfl⟩ := byV_get (g := fun x => V.int (w' x)) hk
        have hxm := List.mem_of_getElem? hx
        have htk : (x0 :: Wr).take (i + 1) = (x0 :: Wr).take i ++ [x] := by rw [List.take_add_one, hx]; rfl
        have hul : us.length ≤ 60 := by
          rw [hU.length, List.length_map, List.length_take]
          omega
        refine ⟨rfl, tyes ?_⟩
        repeat array_get_dec
        refine ⟨wp, _, rfl, .inl ⟨_, Sum.inr x, .inr ⟨_, s _ _ upd_same⟩, rfl, (valV_byI hxm).symm⟩, ?_⟩
        repeat array_get_dec
        refine ⟨by show 2 ≤ sizeLine; decide, fun tp ntp => ?_⟩
        have htD : tp ≠ D2 := fun z => by rw [z, eU] at ntp; cases ntp
        have eU2 := (upd_ne (o := HO.tup [V.int (w' x), V.str x]) htD.symm).trans eU
        refine ⟨_, eU2, small1000 (by omega), Same.at (s.trans (same_upd ntp)) nD2, us ++ [.ref tp], upd_same, ?_⟩
        rw [htk, List.map_append]
        exact RkAll.upd eU2 (RkAll.app (x := (w' x, x)) ⟨tp, rfl, upd_same⟩ (hU.same (same_upd ntp)))
      obtain ⟨s, us, eU, hU⟩ := hP
      rw [byI_len, List.take_of_length_le (Nat.le_refl _)] at hU
      refine ⟨s _ _ upd_same, ?_⟩
      have s5 : Same H' (upd H5 wp (.dK (byI (x0 :: Wr) w'))) := unlock_same eW s
      have hU2 : RkAll (upd H5 wp (.dK (byI (x0 :: Wr) w'))) us ((x0 :: Wr).map fun x => (w' x, x)) := hU.keep fun p2 xs e => by
        have : p2 ≠ wp := fun z => by rw [z, s _ _ upd_same] at e; cases e
        exact (upd_ne this).trans e
      generalize hG : upd H5 wp _ = H6 at s5 hU2 ⊢
      have eU6 : H6 D2 = some (.lst us) := by rw [← hG]; exact (upd_ne hD2w).trans eU
      clear hG
      repeat array_get_dec
      refine ⟨D2, us, (w' x0, x0), Wr.map fun x => (w' x, x), rfl, SqL.of eU6, hU2.hd, fun i v zz hv hzz hmn => ?_⟩
      obtain ⟨x2, p2, hx2, rfl, ep2⟩ := hU2.get hv
      obtain ⟨m1, m2⟩ := minR_spec (Wr.map fun x => (w' x, x)) (w' x0, x0)
      obtain ⟨here, hhere, hz2⟩ : ∃ here, (x0 :: Wr)[i]? = some here ∧ (w' here, here) = zz := by
        have h1 : ((x0 :: Wr).map fun x => (w' x, x))[i]? = some zz := hzz
        rw [List.getElem?_map] at h1
        cases h : (x0 :: Wr)[i]? with
        | none => rw [h] at h1; cases h1
        | some y => rw [h] at h1; exact ⟨y, rfl, Option.some.inj h1⟩
      have hx2z : x2 = zz := by
        have h1 : ((x0 :: Wr).map fun x => (w' x, x))[i]? = some zz := hzz
        rw [hx2] at h1
        exact Option.some.inj h1
      rw [hx2z, ← hz2] at ep2
      have ep2 : H6 p2 = some (.tup [.int (w' here), .str here]) := ep2
      have hhW := List.mem_of_getElem? hhere
      have hmin : ∀ y ∈ x0 :: Wr, w' here ≤ w' y := fun y hy => by
        have h1 := m2 (w' y, y) (List.mem_map (f := fun x => (w' x, x)) (l := x0 :: Wr).mpr ⟨y, hy, rfl⟩)
        rw [← hmn, ← hz2] at h1
        exact h1
      obtain ⟨D1, hnL, top, low⟩ := D0.pop hhW hmin
      have hhn := D0.mW _ hhW
      refine ⟨p2, _, rfl, SqT.of ep2, rfl, ?_⟩
      repeat array_get_dec
      refine ⟨wp, _, Sum.inr here, rfl, s5 _ _ eW, rfl, by rw [byI_V, isSome_byV]; exact decide_eq_true hhW, ?_⟩
      rw [byI_V, dropK_byV]
      generalize hG : upd H6 wp _ = H7
      have s07 : Same H H7 := by rw [← hG]; exact Same.at (sH.trans s5) nw0
      have eW7 : H7 wp = some (.dK (byI ((x0 :: Wr).filter fun y => decide (y ≠ here)) w')) := by rw [← hG]; exact upd_same
      have eL7 : H7 lp = some (.dK (byI L g)) := by rw [← hG]; exact (upd_ne hwl.symm).trans (s5 _ _ eL)
      have eS7 : H7 D = some (.dK (byV SL gs)) := by rw [← hG]; exact (upd_ne hwD.symm).trans (s5 _ _ eS)
      clear hG
      repeat array_get_dec
      refine ⟨lp, _, rfl, DPut.k (k := Sum.inr here) eL7 (by rw [byI_len]; exact small1000 (by omega)), ?_⟩
      rw [byI_V, putK_byV]
      generalize hG : upd H7 lp _ = H8
      have s08 : Same H H8 := by rw [← hG]; exact Same.at s07 nlp
      have eL8 : H8 lp = some (.dK (byI (insN L here) (upF g here (w' here)))) := by
        rw [← hG, upd_same, byI_V]
        congr 3
        funext y
        unfold upF
        split <;> rfl
      have eW8 : H8 wp = some (.dK (byI ((x0 :: Wr).filter fun y => decide (y ≠ here)) w')) := by rw [← hG]; exact (upd_ne hwl).trans eW7
      have eS8 : H8 D = some (.dK (byV SL gs)) := by rw [← hG]; exact (upd_ne hDl).trans eS7
      clear hG
      repeat array_get_dec
      refine ⟨z, _, rfl, (hz.imp (fun h => s08.seq h) (fun h => same_tup s08 h)), rfl, L9.flat_strs _, ?_⟩
      rw [if_neg (by decide), inV_strs]
      refine w_isBl ?_
      have hc8 := hc.mono s08
      by_cases hhz : here ∈ zs
      · rw [decide_eq_true hhz]
        repeat array_get_dec
        refine ⟨by show 0 ≤ sizeLine; decide, fun r nr => ?_⟩
        generalize hG : upd H8 r _ = H9
        have s9 : Same H8 H9 := by rw [← hG]; exact same_upd nr
        obtain ⟨on, hone⟩ : ∃ on : List Str, on = [] := ⟨_, rfl⟩
        have e9 : H9 r = some (.lst (on.map V.str)) := by rw [← hG, hone]; exact upd_same
        have hon1 : ∀ y ∈ on, AdjS c zs here y := fun y hy => by rw [hone] at hy; exact nomatch hy
        have hon2 : ∀ y, AdjS c zs here y → y ∈ on := fun y hy => absurd hhz hy.2
        clear hG
        have hrw : r ≠ wp := fun z => by rw [z, eW8] at nr; cases nr
        have hrD : r ≠ D := fun z => by rw [z, eS8] at nr; cases nr
        repeat array_get_dec
        refine ⟨r, rfl, ⟨_, SqL.of e9⟩, ?_⟩
        have hg1 : upF g here (w' here) here = w' here := by unfold upF; rw [if_pos rfl]
        have hin : here ∈ insN L here := mem_insN.mpr (.inr rfl)
        have hlen1 : (insN L here).length = L.length + 1 := by
          unfold insN
          rw [if_neg hnL, List.length_append]
          rfl
        have hL1n : (insN L here).length ≤ c.names.length := lists_sub D1.ndL D1.mL
        refine for_list (xs := on.map V.str) (fun i σ H' => ∃ (W2 SL2 : List Str) (w2 : Str → Int) (gs2 : Str → V) (y10 y11 : Option V), σ = [some (.ref p), some (.ref a), some (.ref b), some (.ref z), some (.ref lp), some (.ref D), some (.ref wp), some (.int (w' here)), some (.str here), some (.ref r), y10, y11] ∧ Same H H' ∧ H' r = some (.lst (on.map V.str)) ∧ H' lp = some (.dK (byI (insN L here) (upF g here (w' here)))) ∧ H' wp = some (.dK (byI W2 w2)) ∧ H' D = some (.dK (byV SL2 gs2)) ∧ SL2.Nodup ∧ (∀ x ∈ SL2, x ∈ c.names) ∧ Dij (AdjS c zs) c.names f' sl sv (fun x y => x = here ∧ y ∉ on.take i) (insN L here) (upF g here (w' here)) W2 w2 ∧ ∀ y ∈ W2, w' here ≤ w2 y)
          ⟨_, SL, w', gs, _, _, rfl, s08.trans s9, e9, s9 _ _ eL8, s9 _ _ eW8, s9 _ _ eS8, hSn, hSm, D1.same (fun x y h => .inl ⟨h, fun h => nomatch h⟩), low⟩
          (fun i σ H' _ hP => by
            obtain ⟨_, _, _, _, _, _, _, _, e, _⟩ := hP
            exact SqL.of e) (fun i x σ H' hx hP => ?_) (fun σ H' hP => ?_)
        · obtain ⟨W2, SL2, w2, gs2, y10, y11, rfl, sI, eR, eLi, eWi, eSi, hSn2, hSm2, D2', low2⟩ := hP
          rw [List.getElem?_map] at hx
          obtain ⟨u, hu, rfl⟩ : ∃ u, on[i]? = some u ∧ V.str u = x := by
            cases h : on[i]? with
            | none => rw [h] at hx; cases hx
            | some u => rw [h] at hx; exact ⟨u, rfl, Option.some.inj hx⟩
          have hum := List.mem_of_getElem? hu
          have hadj := hon1 u hum
          have hun : u ∈ c.names := ok.nin here hadj.1.1 u hadj.1.2
          have htk : on.take (i + 1) = on.take i ++ [u] := by rw [List.take_add_one, hu]; rfl
          have hnt : ∀ y, y ∉ on.take i → y ≠ u → y ∉ on.take (i + 1) := fun y h1 h2 h3 => by
            rw [htk] at h3
            rcases List.mem_append.mp h3 with h | h
            · exact h1 h
            · exact h2 (List.mem_singleton.mp h)
          have hW260 : W2.length ≤ 60 := Nat.le_trans (lists_sub D2'.ndW D2'.mW) ok.len
          have hS260 : SL2.length ≤ 60 := Nat.le_trans (lists_sub hSn2 hSm2) ok.len
          repeat array_get_dec
          refine ⟨a, _, rfl, .inl ⟨_, Sum.inr u, .inl (sI _ _ ha), rfl, (valV_byI hun).symm⟩, ?_⟩
          repeat array_get_dec
          refine ⟨_, _, rfl, ?_⟩
          have hmx : (if f' u > w' here then f' u else w' here) = max (w' here) (f' u) := by
            rw [Int.max_def]
            split <;> split <;> omega
          rw [hmx]
          repeat array_get_dec
          refine ⟨lp, _, rfl, .inl ⟨_, Sum.inr u, .inl eLi, rfl, rfl⟩, ?_⟩
          rw [byI_V, isSome_byV]
          refine w_isBl ?_
          have stay : ∀ y10' y11' : Option V, (u ∈ insN L here ∨ (u ∈ W2 ∧ w2 u ≤ max (w' here) (f' u))) → ∃ (W2 SL2 : List Str) (w2 : Str → Int) (gs2 : Str → V) (y10 y11 : Option V), [some (V.ref p), some (.ref a), some (.ref b), some (.ref z), some (.ref lp), some (.ref D), some (.ref wp), some (.int (w' here)), some (.str here), some (.ref r), y10', y11'] = [some (.ref p), some (.ref a), some (.ref b), some (.ref z), some (.ref lp), some (.ref D), some (.ref wp), some (.int (w' here)), some (.str here), some (.ref r), y10, y11] ∧ Same H H' ∧ H' r = some (.lst (on.map V.str)) ∧ H' lp = some (.dK (byI (insN L here) (upF g here (w' here)))) ∧ H' wp = some (.dK (byI W2 w2)) ∧ H' D = some (.dK (byV SL2 gs2)) ∧ SL2.Nodup ∧ (∀ x ∈ SL2, x ∈ c.names) ∧ Dij (AdjS c zs) c.names f' sl sv (fun x y => x = here ∧ y ∉ on.take (i + 1)) (insN L here) (upF g here (w' here)) W2 w2 ∧ ∀ y ∈ W2, w' here ≤ w2 y := fun y10' y11' hd =>
            ⟨W2, SL2, w2, gs2, _, _, rfl, sI, eR, eLi, eWi, eSi, hSn2, hSm2, D2'.same (fun x y h => by
              by_cases e : y = u
              · refine .inr fun _ => ?_
                rw [h.1, e, hg1]
                rcases hd with hd | hd
                · exact .inl ⟨hd, Int.le_trans (top u hd) (Int.le_max_left _ _)⟩
                · exact .inr hd
              · exact .inl ⟨h.1, hnt y h.2 e⟩), low2⟩
          by_cases huL : u ∈ insN L here
          · rw [decide_eq_true huL]
            repeat array_get_dec
            exact stay _ _ (.inl huL)
          · rw [decide_eq_false huL]
            repeat array_get_dec
            refine ⟨wp, _, rfl, .inl ⟨_, Sum.inr u, .inl eWi, rfl, rfl⟩, ?_⟩
            rw [byI_V, isSome_byV]
            refine w_isBl ?_
            by_cases huW : u ∈ W2
            · rw [decide_eq_true huW]
              repeat array_get_dec
              refine ⟨wp, _, rfl, .inl ⟨_, Sum.inr u, .inl eWi, rfl, (valV_byI huW).symm⟩, ?_⟩
              repeat array_get_dec
              by_cases hlt : max (w' here) (f' u) < w2 u
              · rw [decide_eq_true hlt]
                have hput : u ∈ W2 → max (w' here) (f' u) < w2 u := fun _ => hlt
                repeat array_get_dec
                refine ⟨wp, _, rfl, DPut.k (k := Sum.inr u) eWi (by rw [byI_len]; exact small1000 (by omega)), ?_⟩
                rw [byI_V, putK_byV]
                generalize hG : upd H' wp _ = H5
                have sJ : Same H H5 := by rw [← hG]; exact Same.at sI nw0
                have eW5 : H5 wp = some (.dK (byI (insN W2 u) (upF w2 u (max (w' here) (f' u))))) := by
                  rw [← hG, upd_same, byI_V]
                  congr 3
                  funext y
                  unfold upF
                  split <;> rfl
                have eL5 : H5 lp = some (.dK (byI (insN L here) (upF g here (w' here)))) := by rw [← hG]; exact (upd_ne hwl.symm).trans eLi
                have eS5 : H5 D = some (.dK (byV SL2 gs2)) := by rw [← hG]; exact (upd_ne hwD.symm).trans eSi
                have eR5 : H5 r = some (.lst (on.map V.str)) := by rw [← hG]; exact (upd_ne hrw).trans eR
                clear hG
                repeat array_get_dec
                refine ⟨D, _, rfl, DPut.k (k := Sum.inr u) eS5 (by rw [byV_len]; exact small1000 (by omega)), ?_⟩
                rw [putK_byV]
                obtain ⟨D3, low3⟩ := D2'.put (pend' := fun x y => x = here ∧ y ∉ on.take (i + 1)) hin hadj hun huL (by rw [hg1]; exact hput) (fun x hx => by rw [hg1]; exact top x hx) (fun y hy => by rw [hg1]; exact low2 y hy) (fun x y h => by
                  by_cases e : y = u
                  · exact .inr ⟨h.1, e⟩
                  · exact .inl ⟨h.1, hnt y h.2 e⟩)
                rw [hg1] at D3 low3
                repeat array_get_dec
                exact ⟨insN W2 u, insN SL2 u, upF w2 u (max (w' here) (f' u)), upF gs2 u (.str here), _, _, rfl, Same.at sJ nD0, (upd_ne hrD).trans eR5, (upd_ne hDl.symm).trans eL5, (upd_ne hwD).trans eW5, upd_same, nodup_insN hSn2, fun x hx => (mem_insN.mp hx).elim (hSm2 x) (fun e => by rw [e]; exact hun), D3, low3⟩
              · rw [decide_eq_false hlt]
                repeat array_get_dec
                exact stay _ _ (.inr ⟨huW, by omega⟩)
            · rw [decide_eq_false huW]
              have hput : u ∈ W2 → max (w' here) (f' u) < w2 u := fun h => absurd h huW
              repeat array_get_dec
              refine ⟨wp, _, rfl, DPut.k (k := Sum.inr u) eWi (by rw [byI_len]; exact small1000 (by omega)), ?_⟩
              rw [byI_V, putK_byV]
              generalize hG : upd H' wp _ = H5
              have sJ : Same H H5 := by rw [← hG]; exact Same.at sI nw0
              have eW5 : H5 wp = some (.dK (byI (insN W2 u) (upF w2 u (max (w' here) (f' u))))) := by
                rw [← hG, upd_same, byI_V]
                congr 3
                funext y
                unfold upF
                split <;> rfl
              have eL5 : H5 lp = some (.dK (byI (insN L here) (upF g here (w' here)))) := by rw [← hG]; exact (upd_ne hwl.symm).trans eLi
              have eS5 : H5 D = some (.dK (byV SL2 gs2)) := by rw [← hG]; exact (upd_ne hwD.symm).trans eSi
              have eR5 : H5 r = some (.lst (on.map V.str)) := by rw [← hG]; exact (upd_ne hrw).trans eR
              clear hG
              repeat array_get_dec
              refine ⟨D, _, rfl, DPut.k (k := Sum.inr u) eS5 (by rw [byV_len]; exact small1000 (by omega)), ?_⟩
              rw [putK_byV]
              obtain ⟨D3, low3⟩ := D2'.put (pend' := fun x y => x = here ∧ y ∉ on.take (i + 1)) hin hadj hun huL (by rw [hg1]; exact hput) (fun x hx => by rw [hg1]; exact top x hx) (fun y hy => by rw [hg1]; exact low2 y hy) (fun x y h => by
                by_cases e : y = u
                · exact .inr ⟨h.1, e⟩
                · exact .inl ⟨h.1, hnt y h.2 e⟩)
              rw [hg1] at D3 low3
              repeat array_get_dec
              exact ⟨insN W2 u, insN SL2 u, upF w2 u (max (w' here) (f' u)), upF gs2 u (.str here), _, _, rfl, Same.at sJ nD0, (upd_ne hrD).trans eR5, (upd_ne hDl.symm).trans eL5, (upd_ne hwD).trans eW5, upd_same, nodup_insN hSn2, fun x hx => (mem_insN.mp hx).elim (hSm2 x) (fun e => by rw [e]; exact hun), D3, low3⟩
        · obtain ⟨W2, SL2, w2, gs2, y10, y11, rfl, sI, eR, eLi, eWi, eSi, hSn2, hSm2, D2', low2⟩ := hP
          rw [List.length_map, List.take_of_length_le (Nat.le_refl _)] at D2'
          refine ⟨c.names.length - (insN L here).length, by omega, ?_⟩
          rw [hW]
          exact ⟨insN L here, W2, SL2, _, w2, gs2, _, _, _, _, _, rfl, sI, eLi, eWi, eSi, hSn2, hSm2, D2'.same (fun x y h => .inr fun ha => absurd (hon2 y (by rw [← h.1]; exact ha)) h.2), rfl⟩
      · rw [decide_eq_false hhz]
        repeat array_get_dec
        obtain ⟨dx8, b8, t8, o8, hp8, _⟩ := hc8
        refine ⟨p, dx8, _, rfl, hp8, chf_no (by decide +kernel) (by decide +kernel) (by decide +kernel), ?_⟩
        repeat array_get_dec
        refine ⟨p, here, c, rfl, hc.mono s08, hhn, fun r H9 s9 nr er => ?_⟩
        obtain ⟨on, hone⟩ : ∃ on : List Str, on = c.nbr here := ⟨_, rfl⟩
        have e9 : H9 r = some (.lst (on.map V.str)) := by rw [hone]; exact er
        have hon1 : ∀ y ∈ on, AdjS c zs here y := fun y hy => ⟨⟨hhn, by rw [← hone]; exact hy⟩, hhz⟩
        have hon2 : ∀ y, AdjS c zs here y → y ∈ on := fun y hy => by rw [hone]; exact hy.1.2
        have hrw : r ≠ wp := fun z => by rw [z, eW8] at nr; cases nr
        have hrD : r ≠ D := fun z => by rw [z, eS8] at nr; cases nr
        repeat array_get_dec
        refine ⟨r, rfl, ⟨_, SqL.of e9⟩, ?_⟩
        have hg1 : upF g here (w' here) here = w' here := by unfold upF; rw [if_pos rfl]
        have hin : here ∈ insN L here := mem_insN.mpr (.inr rfl)
        have hlen1 : (insN L here).length = L.length + 1 := by
          unfold insN
          rw [if_neg hnL, List.length_append]
          rfl
        have hL1n : (insN L here).length ≤ c.names.length := lists_sub D1.ndL D1.mL
        refine for_list (xs := on.map V.str) (fun i σ H' => ∃ (W2 SL2 : List Str) (w2 : Str → Int) (gs2 : Str → V) (y10 y11 : Option V), σ = [some (.ref p), some (.ref a), some (.ref b), some (.ref z), some (.ref lp), some (.ref D), some (.ref wp), some (.int (w' here)), some (.str here), some (.ref r), y10, y11] ∧ Same H H' ∧ H' r = some (.lst (on.map V.str)) ∧ H' lp = some (.dK (byI (insN L here) (upF g here (w' here)))) ∧ H' wp = some (.dK (byI W2 w2)) ∧ H' D = some (.dK (byV SL2 gs2)) ∧ SL2.Nodup ∧ (∀ x ∈ SL2, x ∈ c.names) ∧ Dij (AdjS c zs) c.names f' sl sv (fun x y => x = here ∧ y ∉ on.take i) (insN L here) (upF g here (w' here)) W2 w2 ∧ ∀ y ∈ W2, w' here ≤ w2 y)
          ⟨_, SL, w', gs, _, _, rfl, s08.trans s9, e9, s9 _ _ eL8, s9 _ _ eW8, s9 _ _ eS8, hSn, hSm, D1.same (fun x y h => .inl ⟨h, fun h => nomatch h⟩), low⟩
          (fun i σ H' _ hP => by
            obtain ⟨_, _, _, _, _, _, _, _, e, _⟩ := hP
            exact SqL.of e) (fun i x σ H' hx hP => ?_) (fun σ H' hP => ?_)
        · obtain ⟨W2, SL2, w2, gs2, y10, y11, rfl, sI, eR, eLi, eWi, eSi, hSn2, hSm2, D2', low2⟩ := hP
          rw [List.getElem?_map] at hx
          obtain ⟨u, hu, rfl⟩ : ∃ u, on[i]? = some u ∧ V.str u = x := by
            cases h : on[i]? with
            | none => rw [h] at hx; cases hx
            | some u => rw [h] at hx; exact ⟨u, rfl, Option.some.inj hx⟩
          have hum := List.mem_of_getElem? hu
          have hadj := hon1 u hum
          have hun : u ∈ c.names := ok.nin here hadj.1.1 u hadj.1.2
          have htk : on.take (i + 1) = on.take i ++ [u] := by rw [List.take_add_one, hu]; rfl
          have hnt : ∀ y, y ∉ on.take i → y ≠ u → y ∉ on.take (i + 1) := fun y h1 h2 h3 => by
            rw [htk] at h3
            rcases List.mem_append.mp h3 with h | h
            · exact h1 h
            · exact h2 (List.mem_singleton.mp h)
          have hW260 : W2.length ≤ 60 := Nat.le_trans (lists_sub D2'.ndW D2'.mW) ok.len
          have hS260 : SL2.length ≤ 60 := Nat.le_trans (lists_sub hSn2 hSm2) ok.len
          repeat array_get_dec
          refine ⟨a, _, rfl, .inl ⟨_, Sum.inr u, .inl (sI _ _ ha), rfl, (valV_byI hun).symm⟩, ?_⟩
          repeat array_get_dec
          refine ⟨_, _, rfl, ?_⟩
          have hmx : (if f' u > w' here then f' u else w' here) = max (w' here) (f' u) := by
            rw [Int.max_def]
            split <;> split <;> omega
          rw [hmx]
          repeat array_get_dec
          refine ⟨lp, _, rfl, .inl ⟨_, Sum.inr u, .inl eLi, rfl, rfl⟩, ?_⟩
          rw [byI_V, isSome_byV]
          refine w_isBl ?_
          have stay : ∀ y10' y11' : Option V, (u ∈ insN L here ∨ (u ∈ W2 ∧ w2 u ≤ max (w' here) (f' u))) → ∃ (W2 SL2 : List Str) (w2 : Str → Int) (gs2 : Str → V) (y10 y11 : Option V), [some (V.ref p), some (.ref a), some (.ref b), some (.ref z), some (.ref lp), some (.ref D), some (.ref wp), some (.int (w' here)), some (.str here), some (.ref r), y10', y11'] = [some (.ref p), some (.ref a), some (.ref b), some (.ref z), some (.ref lp), some (.ref D), some (.ref wp), some (.int (w' here)), some (.str here), some (.ref r), y10, y11] ∧ Same H H' ∧ H' r = some (.lst (on.map V.str)) ∧ H' lp = some (.dK (byI (insN L here) (upF g here (w' here)))) ∧ H' wp = some (.dK (byI W2 w2)) ∧ H' D = some (.dK (byV SL2 gs2)) ∧ SL2.Nodup ∧ (∀ x ∈ SL2, x ∈ c.names) ∧ Dij (AdjS c zs) c.names f' sl sv (fun x y => x = here ∧ y ∉ on.take (i + 1)) (insN L here) (upF g here (w' here)) W2 w2 ∧ ∀ y ∈ W2, w' here ≤ w2 y := fun y10' y11' hd =>
            ⟨W2, SL2, w2, gs2, _, _, rfl, sI, eR, eLi, eWi, eSi, hSn2, hSm2, D2'.same (fun x y h => by
              by_cases e : y = u
              · refine .inr fun _ => ?_
                rw [h.1, e, hg1]
                rcases hd with hd | hd
                · exact .inl ⟨hd, Int.le_trans (top u hd) (Int.le_max_left _ _)⟩
                · exact .inr hd
              · exact .inl ⟨h.1, hnt y h.2 e⟩), low2⟩
          by_cases huL : u ∈ insN L here
          · rw [decide_eq_true huL]
            repeat array_get_dec
            exact stay _ _ (.inl huL)
          · rw [decide_eq_false huL]
            repeat array_get_dec
            refine ⟨wp, _, rfl, .inl ⟨_, Sum.inr u, .inl eWi, rfl, rfl⟩, ?_⟩
            rw [byI_V, isSome_byV]
            refine w_isBl ?_
            by_cases huW : u ∈ W2
            · rw [decide_eq_true huW]
              repeat array_get_dec
              refine ⟨wp, _, rfl, .inl ⟨_, Sum.inr u, .inl eWi, rfl, (valV_byI huW).symm⟩, ?_⟩
              repeat array_get_dec
              by_cases hlt : max (w' here) (f' u) < w2 u
              · rw [decide_eq_true hlt]
                have hput : u ∈ W2 → max (w' here) (f' u) < w2 u := fun _ => hlt
                repeat array_get_dec
                refine ⟨wp, _, rfl, DPut.k (k := Sum.inr u) eWi (by rw [byI_len]; exact small1000 (by omega)), ?_⟩
                rw [byI_V, putK_byV]
                generalize hG : upd H' wp _ = H5
                have sJ : Same H H5 := by rw [← hG]; exact Same.at sI nw0
                have eW5 : H5 wp = some (.dK (byI (insN W2 u) (upF w2 u (max (w' here) (f' u))))) := by
                  rw [← hG, upd_same, byI_V]
                  congr 3
                  funext y
                  unfold upF
                  split <;> rfl
                have eL5 : H5 lp = some (.dK (byI (insN L here) (upF g here (w' here)))) := by rw [← hG]; exact (upd_ne hwl.symm).trans eLi
                have eS5 : H5 D = some (.dK (byV SL2 gs2)) := by rw [← hG]; exact (upd_ne hwD.symm).trans eSi
                have eR5 : H5 r = some (.lst (on.map V.str)) := by rw [← hG]; exact (upd_ne hrw).trans eR
                clear hG
                repeat array_get_dec
                refine ⟨D, _, rfl, DPut.k (k := Sum.inr u) eS5 (by rw [byV_len]; exact small1000 (by omega)), ?_⟩
                rw [putK_byV]
                obtain ⟨D3, low3⟩ := D2'.put (pend' := fun x y => x = here ∧ y ∉ on.take (i + 1)) hin hadj hun huL (by rw [hg1]; exact hput) (fun x hx => by rw [hg1]; exact top x hx) (fun y hy => by rw [hg1]; exact low2 y hy) (fun x y h => by
                  by_cases e : y = u
                  · exact .inr ⟨h.1, e⟩
                  · exact .inl ⟨h.1, hnt y h.2 e⟩)
                rw [hg1] at D3 low3
                repeat array_get_dec
                exact ⟨insN W2 u, insN SL2 u, upF w2 u (max (w' here) (f' u)), upF gs2 u (.str here), _, _, rfl, Same.at sJ nD0, (upd_ne hrD).trans eR5, (upd_ne hDl.symm).trans eL5, (upd_ne hwD).trans eW5, upd_same, nodup_insN hSn2, fun x hx => (mem_insN.mp hx).elim (hSm2 x) (fun e => by rw [e]; exact hun), D3, low3⟩
              · rw [decide_eq_false hlt]
                repeat array_get_dec
                exact stay _ _ (.inr ⟨huW, by omega⟩)
            · rw [decide_eq_false huW]
              have hput : u ∈ W2 → max (w' here) (f' u) < w2 u := fun h => absurd h huW
              repeat array_get_dec
              refine ⟨wp, _, rfl, DPut.k (k := Sum.inr u) eWi (by rw [byI_len]; exact small1000 (by omega)), ?_⟩
              rw [byI_V, putK_byV]
              generalize hG : upd H' wp _ = H5
              have sJ : Same H H5 := by rw [← hG]; exact Same.at sI nw0
              have eW5 : H5 wp = some (.dK (byI (insN W2 u) (upF w2 u (max (w' here) (f' u))))) := by
                rw [← hG, upd_same, byI_V]
                congr 3
                funext y
                unfold upF
                split <;> rfl
              have eL5 : H5 lp = some (.dK (byI (insN L here) (upF g here (w' here)))) := by rw [← hG]; exact (upd_ne hwl.symm).trans eLi
              have eS5 : H5 D = some (.dK (byV SL2 gs2)) := by rw [← hG]; exact (upd_ne hwD.symm).trans eSi
              have eR5 : H5 r = some (.lst (on.map V.str)) := by rw [← hG]; exact (upd_ne hrw).trans eR
              clear hG
              repeat array_get_dec
              refine ⟨D, _, rfl, DPut.k (k := Sum.inr u) eS5 (by rw [byV_len]; exact small1000 (by omega)), ?_⟩
              rw [putK_byV]
              obtain ⟨D3, low3⟩ := D2'.put (pend' := fun x y => x = here ∧ y ∉ on.take (i + 1)) hin hadj hun huL (by rw [hg1]; exact hput) (fun x hx => by rw [hg1]; exact top x hx) (fun y hy => by rw [hg1]; exact low2 y hy) (fun x y h => by
                by_cases e : y = u
                · exact .inr ⟨h.1, e⟩
                · exact .inl ⟨h.1, hnt y h.2 e⟩)
              rw [hg1] at D3 low3
              repeat array_get_dec
              exact ⟨insN W2 u, insN SL2 u, upF w2 u (max (w' here) (f' u)), upF gs2 u (.str here), _, _, rfl, Same.at sJ nD0, (upd_ne hrD).trans eR5, (upd_ne hDl.symm).trans eL5, (upd_ne hwD).trans eW5, upd_same, nodup_insN hSn2, fun x hx => (mem_insN.mp hx).elim (hSm2 x) (fun e => by rw [e]; exact hun), D3, low3⟩
        · obtain ⟨W2, SL2, w2, gs2, y10, y11, rfl, sI, eR, eLi, eWi, eSi, hSn2, hSm2, D2', low2⟩ := hP
          rw [List.length_map, List.take_of_length_le (Nat.le_refl _)] at D2'
          refine ⟨c.names.length - (insN L here).length, by omega, ?_⟩
          rw [hW]
          exact ⟨insN L here, W2, SL2, _, w2, gs2, _, _, _, _, _, rfl, sI, eLi, eWi, eSi, hSn2, hSm2, D2'.same (fun x y h => .inr fun ha => absurd (hon2 y (by rw [← h.1]; exact ha)) h.2), rfl⟩
end
end K23

namespace K23
open PySem PySem.Spec PyProof.Rows L2 L9
section
variable {P : Program} {w : World} {K : PySem.W.Frag} {mg : Str → Option Value} {base : Heap}
abbrev N_levels_from : List Str := ["chart", "heights", "starts", "stops", "levels", "sources"]
theorem sc_levels_from : FnScope N_levels_from ["chart", "heights", "starts", "stops"] (defScope s_levels_from) := ⟨rfl, rfl, rfl, by decide +kernel, rfl, by decide +kernel, by decide +kernel⟩
theorem ok_levels_from {f : Addr} {fd : FuncData} {C CB : Addr} {dvs : List V} {kws : List (Str × V)} (F : FunD K "levels_from" "levels_from" (defArgs s_levels_from) (defBody s_levels_from) (defScope s_levels_from) dvs kws f fd) (T : Txt K mg) (C_flood : Cal P w K mg base "flood" 5 ["chart", "heights", "starts", "stops"] (spFloodP K C CB)) : FnOk P w K mg base CX0 6 f fd ["chart", "heights", "starts", "stops"] (spLevF K C CB) := by
  refine F.okN sc_levels_from (fun vs H Q E h => ?_) (fun cdv A outer s H vs Q E hr h => ?_)
  · obtain ⟨p, a, b, z, c, f', sl, sv, zs, rfl, hc, ok, ha, hb, hsl, hsm, hz, q⟩ := h
    rfl
  · obtain ⟨p, a, b, z, c, f', sl, sv, zs, rfl, hc, ok, ha, hb, hsl, hsm, hz, q⟩ := h
    refine ⟨_, (pss_cons (ps_asg (pe_cal C_flood (hr.mono (by decide)) (by rfl) (pa_cons (pv 0) (pa_cons (pv 1) (pa_cons (pv 2) (pa_cons (pv 3) pa_nil))))) (pg_tup rfl (pgs_cons (pg_name (i := 4) sc_levels_from.nd rfl (.inl rfl)) (pgs_cons (pg_name (i := 5) sc_levels_from.nd rfl (.inl rfl)) pgs_nil))))
    (pss_one (ps_ret (pv 4)))), ?_⟩
    repeat array_get_dec
    refine ⟨p, a, b, z, c, f', sl, sv, zs, rfl, hc, ok, ha, hb, hsl, hsm, hz, fun r lp u H1 ks g s1 nr nl er el hL => ?_⟩
    repeat array_get_dec
    refine ⟨r, _, rfl, SqT.of er, rfl, ?_⟩
    repeat array_get_dec
    exact q lp H1 ks g s1 nl el hL
end
end K23

namespace K23
open PySem PySem.Spec PyProof.Rows L2 L9
section
variable {P : Program} {w : World} {K : PySem.W.Frag} {mg : Str → Option Value} {base : Heap}
abbrev N_are_heights_for : List Str := ["chart", "value", "name"]
theorem sc_are_heights_for : FnScope N_are_heights_for ["chart", "value"] (defScope s_are_heights_for) := ⟨rfl, rfl, rfl, by decide +kernel, rfl, by decide +kernel, by decide +kernel⟩
theorem ok_are_heights_for {f : Addr} {fd : FuncData} {C CB : Addr} (HC : ChT K mg C) (F : Fun K "are_heights_for" "are_heights_for" s_are_heights_for f fd) (T : Txt K mg) (G_len : OCal P w K mg base C "__len__" 1 ["self"] (spLen C CB)) (M_names : MCal P w K mg base C "names" 1 ["self"] (spNames C CB)) : FnOk P w K mg base CX0 3 f fd ["chart", "value"] (spAreH C CB) := by
  refine F.ok sc_are_heights_for (fun vs H Q E h => ?_) (fun cdv A outer s H vs Q E hr h => ?_)
  · obtain ⟨p, d, c, l, h', rfl, hc, ok, hd, hl, hm, q⟩ := h
    rfl
  · obtain ⟨p, d, c, l, h', rfl, hc, ok, hd, hl, hm, q⟩ := h
    refine ⟨_, (pss_cons (ps_if (PW.pt (pw_or (pt_not (pt_val (pe_callB call_isi (by rfl) T.m_isinstance (by decide +kernel) (pa_cons (pv 1) (pa_cons (pe_ty (T := "dict") (by rfl) T.m_dict) pa_nil))))) (pw_or1 (pt_cmpR op_ne (pe_callB call_lenD (by rfl) T.m_len (by decide +kernel) (pa_cons (pv 1) pa_nil)) (pe_callB (G_len.len (hr.mono (by decide))) (by rfl) T.m_len (by decide +kernel) (pa_cons (pv 0) pa_nil)) (nomark _))))) (pss_one (ps_ret pe_bl)) pss_nil)
    (pss_one (ps_ret (pe_callB (cr_all rfl) (by rfl) T.m_all (by decide +kernel) (pa_cons (pe_lc (own := [("name", 2)]) (g := gName 2) (tt := tYes) rfl sc_are_heights_for.nd (pi_list (M_names.pe0 HC.c.cl (hr.mono (by decide)) (pv 0))) (blkOk_by (N := N_are_heights_for) (sc := defScope s_are_heights_for) (by decide +kernel)) (fun _ _ _ _ _ => pg_name (i := 2) sc_are_heights_for.nd rfl (Or.inl rfl)) (fun _ _ _ _ _ => pts_nil) (fun _ _ _ _ _ => (pe_cmp (pc_din (hu_of hr) (pv 2) (pv 1)) rfl))) pa_nil))))), ?_⟩
    have hc0 := hc
    obtain ⟨dx, b0, t0, o0, hp, _⟩ := hc0
    have hn60 := ok.len
    repeat array_get_dec
    refine ⟨_, _, _, _, true, rfl, .ty "dict", .base (.dK hd), kit_ty (by decide +kernel), ?_⟩
    repeat array_get_dec
    refine ⟨d, _, rfl, hd, ?_⟩
    repeat array_get_dec
    refine ⟨p, dx, _, rfl, hp, p, c, rfl, hc, _, rfl, by omega, by omega, ?_⟩
    rw [byI_len, hl]
    repeat array_get_dec
    rw [decide_eq_true rfl]
    repeat array_get_dec
    refine ⟨p, dx, _, rfl, hp, chf_no (by decide +kernel) (by decide +kernel) (by decide +kernel), ?_⟩
    repeat array_get_dec
    refine ⟨p, c, rfl, hc, fun np H1 s1 nnp enp => ?_⟩
    repeat array_get_dec
    refine ⟨np, rfl, ⟨_, SqL.of enp⟩, fun D nD => ?_⟩
    refine lc_list (xs := c.names.map V.str) (fun i H' => Same H1 H' ∧ H' D = some (.lst ((c.names.take i).map fun _ => V.bl true))) ⟨same_upd nD, upd_same⟩ (fun i H' _ hP => SqL.of (hP.1 _ _ enp)) (fun i x H' hx hP => ?_) (fun H2 hP => ?_)
    · obtain ⟨s, eD⟩ := hP
      rw [List.getElem?_map] at hx
      obtain ⟨u, hu, rfl⟩ : ∃ u, c.names[i]? = some u ∧ V.str u = x := by
        cases h : c.names[i]? with
        | none => rw [h] at hx; cases hx
        | some u => rw [h] at hx; exact ⟨u, rfl, Option.some.inj hx⟩
      have hun := List.mem_of_getElem? hu
      have htk : c.names.take (i + 1) = c.names.take i ++ [u] := by rw [List.take_add_one, hu]; rfl
      refine ⟨rfl, tyes ?_⟩
      repeat array_get_dec
      refine ⟨d, _, rfl, .inl ⟨_, Sum.inr u, .inl (s _ _ (s1 _ _ hd)), rfl, rfl⟩, ?_⟩
      rw [byI_V, isSome_byV, decide_eq_true (hm u hun)]
      refine ⟨_, eD, ?_, Same.at s nD, ?_⟩
      · rw [List.length_map, List.length_take]
        exact small1000 (by omega)
      · rw [upd_same, htk, List.map_append]
        rfl
    obtain ⟨s, eD⟩ := hP
    rw [List.length_map, List.take_of_length_le (Nat.le_refl _)] at eD
    repeat array_get_dec
    refine ⟨D, c.names.map (fun _ => true), rfl, by rw [List.map_map]; exact SqL.of eD, ?_⟩
    rw [show (c.names.map fun _ => true).all id = true by simp]
    exact q _ (s1.trans s)
abbrev N_Land___init__ : List Str := ["self", "chart", "heights", "name"]
theorem sc_Land___init__ : FnScope N_Land___init__ ["self", "chart", "heights"] (defScope s_Land___init__) := ⟨rfl, rfl, rfl, by decide +kernel, rfl, by decide +kernel, by decide +kernel⟩
theorem ok_Land___init__ {f : Addr} {fd : FuncData} {CL C CB : Addr} (HL : LdT K mg CL) (HC : ChT K mg C) (F : Fun K "__init__" "Land.__init__" s_Land___init__ f fd) (T : Txt K mg) (G_inB : OCal P w K mg base CB "__contains__" 3 ["self", "value"] (spInB CB)) (G_item : OCal P w K mg base C "__getitem__" 4 ["self", "name"] (spItem C CB)) (M_names : MCal P w K mg base C "names" 1 ["self"] (spNames C CB)) (C_check_chart : Cal P w K mg base "check_chart" 1 ["chart"] (spCheckC C CB)) (C_are_heights_for : Cal P w K mg base "are_heights_for" 3 ["chart", "value"] (spAreH C CB)) : FnOk P w K mg base CX0 7 f fd ["self", "chart", "heights"] (spLdInitC CL C CB) := by
  refine F.ok sc_Land___init__ (fun vs H Q E h => ?_) (fun cdv A outer s H vs Q E hr h => ?_)
  · obtain ⟨y, dx, p, d, c, l, h', rfl, hy, hc, ok, hd, hln, hlm, hb, q⟩ := h
    rfl
  · obtain ⟨y, dx, p, d, c, l, h', rfl, hy, hc, ok, hd, hln, hlm, hb, q⟩ := h
    refine ⟨_, (pss_cons (ps_expr (pe_cal C_check_chart (hr.mono (by decide)) (by rfl) (pa_cons (pv 1) pa_nil)))
    (pss_cons (ps_if (pt_not (pt_val (pe_cal C_are_heights_for (hr.mono (by decide)) (by rfl) (pa_cons (pv 1) (pa_cons (pv 2) pa_nil))))) (pss_one ps_never) pss_nil)
    (pss_cons (ps_for PassesOwn.never rfl (pi_list (M_names.pe0 HC.c.cl (hr.mono (by decide)) (pv 1))) (pg_name (i := 3) sc_Land___init__.nd rfl (.inl rfl))
    (pss_one (ps_if (pt_cmpR (G_inB.hasnt (hr.mono (by decide))) (pe_dget (hu_of hr) (pv 2) (pv 3) (fun _ _ => rfl)) (G_item.sub (hr.mono (by decide)) (pv 1) (pv 3) (fun _ _ => rfl)) (by rfl)) (pss_one ps_never) pss_nil)))
    (pss_cons (ps_fld (pv 0) (pv 1) rfl)
    (pss_one (ps_fld (pv 0) (pe_dc (own := [("name", 3)]) (g := gName 3) (tt := tYes) rfl sc_Land___init__.nd (pi_list (M_names.pe0 HC.c.cl (hr.mono (by decide)) (pv 1))) (blkOk_by (N := N_Land___init__) (sc := defScope s_Land___init__) (by decide +kernel)) (fun _ _ _ _ _ => pg_name (i := 3) sc_Land___init__.nd rfl (Or.inl rfl)) (fun _ _ _ _ _ => pts_nil) (fun _ _ _ _ _ => (pv 3)) (fun _ _ _ _ _ => (pe_dget (hu_of hr) (pv 2) (pv 3) (fun _ _ => rfl)))) rfl)))))), ?_⟩
    repeat array_get_dec
    refine ⟨p, c, rfl, hc, ?_⟩
    repeat array_get_dec
    refine ⟨p, d, c, l, h', rfl, hc, ok, hd, ?_, fun x hx => (hlm x).mpr hx, fun H1 s1 => ?_⟩
    · exact Nat.le_antisymm (lists_sub hln fun x hx => (hlm x).mp hx) (lists_sub ok.nd fun x hx => (hlm x).mpr hx)
    have hc1 := hc.mono s1
    obtain ⟨dx1, b1, t1, o1, hp1, _⟩ := hc1
    repeat array_get_dec
    refine ⟨p, dx1, _, rfl, hp1, chf_no (by decide +kernel) (by decide +kernel) (by decide +kernel), ?_⟩
    repeat array_get_dec
    refine ⟨p, c, rfl, hc.mono s1, fun np H2 s2 nnp enp => ?_⟩
    have s2 := s1.trans s2
    repeat array_get_dec
    refine ⟨np, rfl, ⟨_, SqL.of enp⟩, ?_⟩
    refine for_list (xs := c.names.map V.str) (fun i σ H' => ∃ (y3 : Option V), σ = [some (.ref y), some (.ref p), some (.ref d), y3] ∧ H' = H2) ⟨_, rfl, rfl⟩ (fun i σ H' _ hP => by
      obtain ⟨_, _, rfl⟩ := hP
      exact SqL.of enp) (fun i x σ H' hx hP => ?_) (fun σ H' hP => ?_)
    · obtain ⟨y3, rfl, rfl⟩ := hP
      rw [List.getElem?_map] at hx
      obtain ⟨u, hu, rfl⟩ : ∃ u, c.names[i]? = some u ∧ V.str u = x := by
        cases h : c.names[i]? with
        | none => rw [h] at hx; cases hx
        | some u => rw [h] at hx; exact ⟨u, rfl, Option.some.inj hx⟩
      have hun := List.mem_of_getElem? hu
      repeat array_get_dec
      refine ⟨d, _, rfl, .inl ⟨_, Sum.inr u, .inl (s2 _ _ hd), rfl, (valV_byI ((hlm u).mpr hun)).symm⟩, ?_⟩
      repeat array_get_dec
      have hc2 := hc.mono s2
      have hc20 := hc2
      obtain ⟨dx2, b2, t2, o2, hp2, _⟩ := hc20
      refine ⟨p, dx2, _, rfl, hp2, p, u, c, rfl, hc2, hun, fun ba hba => ?_⟩
      obtain ⟨dxb, hba'⟩ := hba
      obtain ⟨b1, b2, b3⟩ := ok.bnd u hun
      obtain ⟨b4, b5⟩ := hb u hun
      have hh : heightB (h' u) = true := by
        unfold heightB
        rw [decide_eq_true (Int.le_trans b1 b4), decide_eq_true (Int.le_trans b5 b3)]
        rfl
      refine ⟨ba, dxb, _, rfl, hba', ba, _, _, _, rfl, ⟨dxb, hba'⟩, hh, b4, b5, true, rfl, ?_⟩
      repeat array_get_dec
      exact ⟨_, rfl, rfl⟩
    obtain ⟨y3, rfl, rfl⟩ := hP
    repeat array_get_dec
    refine ⟨y, CL, dx, _, rfl, s2 _ _ hy, HL.c.cl, HL.nc, by show 0 < 1000; decide, ?_⟩
    generalize hG : upd H' y _ = H3
    have e3 : H3 y = some (.ins CL dx (putF "chart" (.ref p) [])) := by rw [← hG]; exact upd_same
    have s3 : But y H' H3 := by rw [← hG]; exact fun q2 o hq e => (upd_ne hq).trans e
    clear hG
    have hc3 := (hc.mono s2).but0 (s2 _ _ hy) s3
    have hc30 := hc3
    obtain ⟨dx3, b3', t3', o3', hp3, _⟩ := hc30
    have hd3 : H3 d = some (.dK (byI l h')) := s3 _ _ (fun z => by rw [z, hy] at hd; cases hd) (s2 _ _ hd)
    repeat array_get_dec
    refine ⟨p, dx3, _, rfl, hp3, chf_no (by decide +kernel) (by decide +kernel) (by decide +kernel), ?_⟩
    repeat array_get_dec
    refine ⟨p, c, rfl, hc3, fun np2 H4 s4 nnp2 enp2 => ?_⟩
    repeat array_get_dec
    refine ⟨np2, rfl, ⟨_, SqL.of enp2⟩, fun D nD => ?_⟩
    have hn60 := ok.len
    refine dc_list (xs := c.names.map V.str) (fun i H' => Same H4 H' ∧ H' D = some (.dK (byI (c.names.take i) h'))) ⟨same_upd nD, upd_same⟩ (fun i H' _ hP => SqL.of (hP.1 _ _ enp2)) (fun i x H' hx hP => ?_) (fun H5 hP => ?_)
    · obtain ⟨s, eD⟩ := hP
      rw [List.getElem?_map] at hx
      obtain ⟨u, hu, rfl⟩ : ∃ u, c.names[i]? = some u ∧ V.str u = x := by
        cases h : c.names[i]? with
        | none => rw [h] at hx; cases hx
        | some u => rw [h] at hx; exact ⟨u, rfl, Option.some.inj hx⟩
      have hun := List.mem_of_getElem? hu
      have htk : c.names.take (i + 1) = c.names.take i ++ [u] := by rw [List.take_add_one, hu]; rfl
      have hnu : u ∉ c.names.take i := by
        have h1 : (c.names.take (i + 1)).Nodup := ok.nd.sublist (List.take_sublist _ _)
        rw [htk, List.nodup_append] at h1
        exact fun hm => h1.2.2 u hm u (List.mem_singleton.mpr rfl) rfl
      refine ⟨rfl, tyes ?_⟩
      repeat array_get_dec
      refine ⟨d, _, rfl, .inl ⟨_, Sum.inr u, .inl (s _ _ (s4 _ _ hd3)), rfl, (valV_byI ((hlm u).mpr hun)).symm⟩, ?_⟩
      refine ⟨_, Sum.inr u, rfl, eD, ?_, Same.at s nD, ?_⟩
      · rw [byI_len, List.length_take]
        exact small1000 (by omega)
      · rw [upd_same, htk, putK_byI hnu]
    obtain ⟨s, eD⟩ := hP
    rw [List.length_map, List.take_of_length_le (Nat.le_refl _)] at eD
    have s5 := s4.trans s
    have hDy : D ≠ y := fun z => by rw [z, s4 _ _ e3] at nD; cases nD
    repeat array_get_dec
    refine ⟨y, CL, dx, _, rfl, s5 _ _ e3, HL.c.cl, HL.nh, by show 1 < 1000; decide, ?_⟩
    have b6 : But y H (upd H5 y (.ins CL dx (putF "height_by_name" (.ref D) (putF "chart" (.ref p) [])))) := fun q2 o hq e => (upd_ne hq).trans (s5 _ _ (s3 _ _ hq (s2 _ _ e)))
    exact q _ b6 ⟨dx, D, by rw [upd_same]; rfl, hc.but0 hy b6, (upd_ne hDy).trans eD⟩
abbrev N_Land___call__ : List Str := ["self", "name"]
theorem sc_Land___call__ : FnScope N_Land___call__ ["self", "name"] (defScope s_Land___call__) := ⟨rfl, rfl, rfl, by decide +kernel, rfl, by decide +kernel, by decide +kernel⟩
theorem ok_Land___call__ {f : Addr} {fd : FuncData} {CL C CB : Addr} (HL : LdT K mg CL) (HC : ChT K mg C) (F : Fun K "__call__" "Land.__call__" s_Land___call__ f fd) (T : Txt K mg) (C_check_place : Cal P w K mg base "check_place" 3 ["chart", "name"] (spCheckPl C CB)) : FnOk P w K mg base CX0 4 f fd ["self", "name"] (spLdCall CL C CB) := by
  refine F.ok sc_Land___call__ (fun vs H Q E h => ?_) (fun cdv A outer s H vs Q E hr h => ?_)
  · obtain ⟨r, x, c, h', rfl, ⟨dx, cp, hp, h0, h1, h2⟩, hx, q⟩ := h
    rfl
  · obtain ⟨r, x, c, h', rfl, ⟨dx, cp, hp, h0, h1, h2⟩, hx, q⟩ := h
    refine ⟨_, (pss_cons (ps_expr (pe_cal C_check_place (hr.mono (by decide)) (by rfl) (pa_cons (pe_fld (pv 0) rfl) (pa_cons (pv 1) pa_nil))))
    (pss_one (ps_ret (pe_dget (hu_of hr) (pe_fld (pv 0) rfl) (pv 1) (fun _ _ => rfl))))), ?_⟩
    repeat array_get_dec
    refine ⟨r, CL, dx, _, _, rfl, h0, HL.c.cl, HL.nc, ldf_c _ _, ?_⟩
    repeat array_get_dec
    refine ⟨cp, x, c, rfl, h1, hx, ?_⟩
    repeat array_get_dec
    refine ⟨r, CL, dx, _, _, rfl, h0, HL.c.cl, HL.nh, ldf_h _ _, ?_⟩
    repeat array_get_dec
    refine ⟨hp, _, rfl, .inl ⟨_, Sum.inr x, .inl h2, rfl, (valV_byI hx).symm⟩, ?_⟩
    exact q
end
end K23

namespace K23
open PySem PySem.Spec PyProof.Rows L2 L9
section
variable {P : Program} {w : World} {K : PySem.W.Frag} {mg : Str → Option Value} {base : Heap}
abbrev N_is_pair : List Str := ["value", "places", "one", "other"]
theorem sc_is_pair : FnScope N_is_pair ["value", "places"] (defScope s_is_pair) := ⟨rfl, rfl, rfl, by decide +kernel, rfl, by decide +kernel, by decide +kernel⟩
theorem ok_is_pair {f : Addr} {fd : FuncData}  (F : Fun K "is_pair" "is_pair" s_is_pair f fd) (T : Txt K mg) (C_is_place : Cal P w K mg base "is_place" 1 ["value", "places"] spPlaceY) : FnOk P w K mg base CX0 2 f fd ["value", "places"] spPairV := by
  refine F.ok sc_is_pair (fun vs H Q E h => ?_) (fun cdv A outer s H vs Q E hr h => ?_)
  · obtain ⟨t, d, x, y, l, ba, rfl, ht, hd, hx, hy, hxy, q⟩ := h
    rfl
  · obtain ⟨t, d, x, y, l, ba, rfl, ht, hd, hx, hy, hxy, q⟩ := h
    refine ⟨_, (pss_cons (ps_if (PW.pt (pw_or (pt_not (pt_val (pe_callB call_isiT (by rfl) T.m_isinstance (by decide +kernel) (pa_cons (pv 0) (pa_cons (pe_tup (pa_cons (pe_ty (T := "list") (by rfl) T.m_list) (pa_cons (pe_ty (T := "tuple") (by rfl) T.m_tuple) pa_nil))) pa_nil))))) (pw_or1 (pt_cmpR op_ne (pe_callB call_len_seq (by rfl) T.m_len (by decide +kernel) (pa_cons (pv 0) pa_nil)) pe_int (nomark _))))) (pss_one (ps_ret pe_bl)) pss_nil)
    (pss_cons (ps_asg (pv 0) (pg_tup rfl (pgs_cons (pg_name (i := 2) sc_is_pair.nd rfl (.inl rfl)) (pgs_cons (pg_name (i := 3) sc_is_pair.nd rfl (.inl rfl)) pgs_nil))))
    (pss_one (ps_ret (pe_and (pe_cal C_is_place (hr.mono (by decide)) (by rfl) (pa_cons (pv 2) (pa_cons (pv 1) pa_nil))) (pe_and (pe_cal C_is_place (hr.mono (by decide)) (by rfl) (pa_cons (pv 3) (pa_cons (pv 1) pa_nil))) (pe_one (pe_cmpR op_ne (pv 2) (pv 3) (nomark _))))))))), ?_⟩
    repeat array_get_dec
    refine ⟨by show 2 ≤ sizeLine; decide, fun p np => ?_⟩
    generalize hG : upd H p _ = H1
    have s1 : Same H H1 := by rw [← hG]; exact same_upd np
    have e1 : H1 p = some (.tup [V.ty "list", V.ty "tuple"]) := by rw [← hG]; exact upd_same
    clear hG
    repeat array_get_dec
    refine ⟨_, p, _, _, _, true, rfl, e1, .cons (.ty "list") (.cons (.ty "tuple") .nil), .base (.tup (s1 _ _ ht)), kit_tt, ?_⟩
    repeat array_get_dec
    refine ⟨t, _, rfl, .inr (SqT.of (s1 _ _ ht)), ?_⟩
    repeat array_get_dec
    refine iteNS rfl ?_
    repeat array_get_dec
    refine ⟨t, _, rfl, SqT.of (s1 _ _ ht), rfl, ?_⟩
    repeat array_get_dec
    refine ⟨x, d, _, rfl, .inl (s1 _ _ hd), ?_⟩
    rw [valV_is, decide_eq_true hx]
    repeat array_get_dec
    refine ⟨y, d, _, rfl, .inl (s1 _ _ hd), ?_⟩
    rw [valV_is, decide_eq_true hy]
    repeat array_get_dec
    rw [decide_eq_false (fun e => hxy (V.str.inj e))]
    exact q _ s1
abbrev N_check_ties : List Str := ["ties", "places", "item"]
theorem sc_check_ties : FnScope N_check_ties ["ties", "places"] (defScope s_check_ties) := ⟨rfl, rfl, rfl, by decide +kernel, rfl, by decide +kernel, by decide +kernel⟩
theorem ok_check_ties {f : Addr} {fd : FuncData}  (F : Fun K "check_ties" "check_ties" s_check_ties f fd) (T : Txt K mg) (C_is_pair : Cal P w K mg base "is_pair" 2 ["value", "places"] spPairV) : FnOk P w K mg base CX0 3 f fd ["ties", "places"] (spTiesV K) := by
  refine F.ok sc_check_ties (fun vs H Q E h => ?_) (fun cdv A outer s H vs Q E hr h => ?_)
  · obtain ⟨t, d, ts, ps, l, ba, rfl, ht, hps, hd, hok, q⟩ := h
    rfl
  · obtain ⟨t, d, ts, ps, l, ba, rfl, ht, hps, hd, hok, q⟩ := h
    refine ⟨_, (pss_cons (ps_if (pt_not (pt_val (pe_callB call_isiT (by rfl) T.m_isinstance (by decide +kernel) (pa_cons (pv 0) (pa_cons (pe_tup (pa_cons (pe_ty (T := "list") (by rfl) T.m_list) (pa_cons (pe_ty (T := "tuple") (by rfl) T.m_tuple) pa_nil))) pa_nil))))) (pss_one ps_never) pss_nil)
    (pss_one (ps_for PassesOwn.never rfl (pi_seq (pv 0)) (pg_name (i := 2) sc_check_ties.nd rfl (.inl rfl))
    (pss_one (ps_if (pt_not (pt_val (pe_cal C_is_pair (hr.mono (by decide)) (by rfl) (pa_cons (pv 2) (pa_cons (pv 1) pa_nil))))) (pss_one ps_never) pss_nil))))), ?_⟩
    repeat array_get_dec
    refine ⟨by show 2 ≤ sizeLine; decide, fun p np => ?_⟩
    generalize hG : upd H p _ = H1
    have s1 : Same H H1 := by rw [← hG]; exact same_upd np
    have e1 : H1 p = some (.tup [V.ty "list", V.ty "tuple"]) := by rw [← hG]; exact upd_same
    clear hG
    repeat array_get_dec
    obtain ⟨cT, hty, hkit⟩ := (ht.same s1).isi
    refine ⟨_, p, _, _, _, true, rfl, e1, .cons (.ty "list") (.cons (.ty "tuple") .nil), hty, hkit, ?_⟩
    repeat array_get_dec
    repeat array_get_dec
    refine ⟨_, rfl, t, rfl, ?_⟩
    refine for_seq (xs := ts) ht (fun i σ H' => (∃ y, σ = [some (.ref t), some (.ref d), y]) ∧ Same H H') ⟨⟨_, rfl⟩, s1⟩ (fun i σ H' _ hP e => hP.2 _ _ e) (fun i x σ H' hx hP => ?_) (fun σ H' hP => q H' hP.2)
    obtain ⟨⟨y, rfl⟩, s⟩ := hP
    obtain ⟨p2, a, hp, rfl, ea⟩ := (hps.same s).get hx
    have h1 := hok p2 (List.mem_of_getElem? hp)
    repeat array_get_dec
    refine ⟨a, d, p2.1, p2.2, l, ba, rfl, ea, s _ _ hd, h1.1, h1.2.1, h1.2.2, fun H3 s3 => ?_⟩
    repeat array_get_dec
    exact ⟨⟨_, rfl⟩, s.trans s3⟩
abbrev N_check_listed : List Str := ["listed", "places", "item"]
theorem sc_check_listed : FnScope N_check_listed ["listed", "places"] (defScope s_check_listed) := ⟨rfl, rfl, rfl, by decide +kernel, rfl, by decide +kernel, by decide +kernel⟩
theorem ok_check_listed {f : Addr} {fd : FuncData}  (F : Fun K "check_listed" "check_listed" s_check_listed f fd) (T : Txt K mg) (C_is_place : Cal P w K mg base "is_place" 1 ["value", "places"] spPlaceY) : FnOk P w K mg base CX0 2 f fd ["listed", "places"] (spListV K) := by
  refine F.ok sc_check_listed (fun vs H Q E h => ?_) (fun cdv A outer s H vs Q E hr h => ?_)
  · obtain ⟨o, d, os, l, ba, rfl, ho, hd, hok, q⟩ := h
    rfl
  · obtain ⟨o, d, os, l, ba, rfl, ho, hd, hok, q⟩ := h
    refine ⟨_, (pss_cons (ps_if (pt_not (pt_val (pe_callB call_isiT (by rfl) T.m_isinstance (by decide +kernel) (pa_cons (pv 0) (pa_cons (pe_tup (pa_cons (pe_ty (T := "list") (by rfl) T.m_list) (pa_cons (pe_ty (T := "tuple") (by rfl) T.m_tuple) pa_nil))) pa_nil))))) (pss_one ps_never) pss_nil)
    (pss_one (ps_for PassesOwn.never rfl (pi_seq (pv 0)) (pg_name (i := 2) sc_check_listed.nd rfl (.inl rfl))
    (pss_one (ps_if (pt_not (pt_val (pe_cal C_is_place (hr.mono (by decide)) (by rfl) (pa_cons (pv 2) (pa_cons (pv 1) pa_nil))))) (pss_one ps_never) pss_nil))))), ?_⟩
    repeat array_get_dec
    refine ⟨by show 2 ≤ sizeLine; decide, fun p np => ?_⟩
    generalize hG : upd H p _ = H1
    have s1 : Same H H1 := by rw [← hG]; exact same_upd np
    have e1 : H1 p = some (.tup [V.ty "list", V.ty "tuple"]) := by rw [← hG]; exact upd_same
    clear hG
    repeat array_get_dec
    obtain ⟨cT, hty, hkit⟩ := (ho.same s1).isi
    refine ⟨_, p, _, _, _, true, rfl, e1, .cons (.ty "list") (.cons (.ty "tuple") .nil), hty, hkit, ?_⟩
    repeat array_get_dec
    repeat array_get_dec
    refine ⟨_, rfl, o, rfl, ?_⟩
    refine for_seq (xs := os.map V.str) ho (fun i σ H' => (∃ y, σ = [some (.ref o), some (.ref d), y]) ∧ Same H H') ⟨⟨_, rfl⟩, s1⟩ (fun i σ H' _ hP e => hP.2 _ _ e) (fun i x σ H' hx hP => ?_) (fun σ H' hP => q H' hP.2)
    obtain ⟨⟨y, rfl⟩, s⟩ := hP
    rw [List.getElem?_map] at hx
    obtain ⟨z, hz, rfl⟩ : ∃ z, os[i]? = some z ∧ V.str z = x := by
      cases h : os[i]? with
      | none => rw [h] at hx; cases hx
      | some z => rw [h] at hx; exact ⟨z, rfl, Option.some.inj hx⟩
    repeat array_get_dec
    refine ⟨z, d, _, rfl, .inl (s _ _ hd), ?_⟩
    rw [valV_is, decide_eq_true (hok z (List.mem_of_getElem? hz))]
    repeat array_get_dec
    exact ⟨⟨_, rfl⟩, s⟩
abbrev N_tied_places : List Str := ["names", "ties", "tied", "one", "other", "name"]
theorem sc_tied_places : FnScope N_tied_places ["names", "ties"] (defScope s_tied_places) := ⟨rfl, rfl, rfl, by decide +kernel, rfl, by decide +kernel, by decide +kernel⟩
theorem ok_tied_places {f : Addr} {fd : FuncData}  (F : Fun K "tied_places" "tied_places" s_tied_places f fd) (T : Txt K mg) : FnOk P w K mg base CX0 1 f fd ["names", "ties"] (spTiedV K) := by
  refine F.ok sc_tied_places (fun vs H Q E h => ?_) (fun cdv A outer s H vs Q E hr h => ?_)
  · obtain ⟨a, t, l, ts, ps, rfl, ha, hnd, hlen, ht, hps, hok, q⟩ := h
    rfl
  · obtain ⟨a, t, l, ts, ps, rfl, ha, hnd, hlen, ht, hps, hok, q⟩ := h
    refine ⟨_, (pss_cons (ps_set (i := 2) sc_tied_places.nd rfl (.inr rfl) (pe_dc (own := [("name", 5)]) (g := gName 5) (tt := tYes) rfl sc_tied_places.nd (pi_list (pv 0)) (blkOk_by (N := N_tied_places) (sc := defScope s_tied_places) (by decide +kernel)) (fun _ _ _ _ _ => pg_name (i := 5) sc_tied_places.nd rfl (Or.inl rfl)) (fun _ _ _ _ _ => pts_nil) (fun _ _ _ _ _ => (pv 5)) (fun _ _ _ _ _ => (pe_lst pa_nil))))
    (pss_cons (ps_for PassesOwn.never rfl (pi_seq (pv 1)) (pg_tup rfl (pgs_cons (pg_name (i := 3) sc_tied_places.nd rfl (.inl rfl)) (pgs_cons (pg_name (i := 4) sc_tied_places.nd rfl (.inl rfl)) pgs_nil)))
    (pss_one (ps_if (pt_cmpR op_notIn_seq (pv 4) (pe_dget (hu_of hr) (pv 2) (pv 3) (fun _ _ => rfl)) (by rfl)) (pss_cons (ps_expr (pe_bm PySem.F.plainAttrs_list PySem.F.slot_list_append PySem.F.type_list_append mtr_append (pe_dget (hu_of hr) (pv 2) (pv 3) (fun _ _ => rfl)) (pa_cons (pv 4) pa_nil)))
    (pss_one (ps_expr (pe_bm PySem.F.plainAttrs_list PySem.F.slot_list_append PySem.F.type_list_append mtr_append (pe_dget (hu_of hr) (pv 2) (pv 4) (fun _ _ => rfl)) (pa_cons (pv 3) pa_nil))))) pss_nil)))
    (pss_one (ps_ret (pe_dc (own := [("name", 5)]) (g := gName 5) (tt := tYes) rfl sc_tied_places.nd (pi_list (pv 0)) (blkOk_by (N := N_tied_places) (sc := defScope s_tied_places) (by decide +kernel)) (fun _ _ _ _ _ => pg_name (i := 5) sc_tied_places.nd rfl (Or.inl rfl)) (fun _ _ _ _ _ => pts_nil) (fun _ _ _ _ _ => (pv 5)) (fun _ _ _ _ _ => (pe_callB (cr_sortedSK (K' := K) rfl) (by rfl) T.m_sorted (by decide +kernel) (pa_cons (pe_dget (hu_of hr) (pv 2) (pv 5) (fun _ _ => rfl)) pa_nil)))))))), ?_⟩
    repeat array_get_dec
    refine ⟨a, rfl, ⟨_, SqL.of ha⟩, fun D nD => ?_⟩
    have hlen2 : (l.map V.str).length = l.length := List.length_map _
    refine dc_list (xs := l.map V.str) (fun i H' => Same H H' ∧ ∃ ta : Str → Addr, H' D = some (.dK (byN (l.take i) ta)) ∧ (∀ x ∈ l.take i, H (ta x) = none ∧ ta x ≠ D ∧ H' (ta x) = some (.lst [])) ∧ ∀ x ∈ l.take i, ∀ y ∈ l.take i, ta x = ta y → x = y)
      ⟨same_upd nD, fun _ => D, upd_same, fun x hx => (nomatch hx), fun x hx => (nomatch hx)⟩ (fun i H' _ hP => SqL.of (hP.1 _ _ ha)) (fun i x H' hx hP => ?_) (fun H1 hP => ?_)
    · obtain ⟨s, ta, eD, hta, hinj⟩ := hP
      rw [List.getElem?_map] at hx
      obtain ⟨z, hz, rfl⟩ : ∃ z, l[i]? = some z ∧ V.str z = x := by
        cases h : l[i]? with
        | none => rw [h] at hx; cases hx
        | some z => rw [h] at hx; exact ⟨z, rfl, Option.some.inj hx⟩
      have htk : l.take (i + 1) = l.take i ++ [z] := by rw [List.take_add_one, hz]; rfl
      have hnz : z ∉ l.take i := by
        have h1 : (l.take (i + 1)).Nodup := hnd.sublist (List.take_sublist _ _)
        rw [htk, List.nodup_append] at h1
        exact fun hm => h1.2.2 z hm z (List.mem_singleton.mpr rfl) rfl
      refine ⟨rfl, tyes ?_⟩
      repeat array_get_dec
      refine ⟨by show 0 ≤ sizeLine; decide, fun p np => ?_⟩
      have hpD : p ≠ D := fun e => by rw [e, eD] at np; cases np
      refine ⟨_, Sum.inr z, rfl, (upd_ne hpD.symm).trans eD, ?_, ?_⟩
      · rw [byN_len, List.length_take]
        exact small1000 (by omega)
      · rw [putK_byN hnz, ← htk]
        refine ⟨fun q2 o e => ?_, _, upd_same, fun y hy => ?_, fun y hy y2 hy2 => ?_⟩
        · have h1 : q2 ≠ D := ne_of_none e nD
          have h2 : q2 ≠ p := ne_of_none (s _ _ e) np
          rw [upd_ne h1, upd_ne h2]
          exact s _ _ e
        · by_cases hyz : y = z
          · rw [if_pos hyz]
            exact ⟨s.free np, hpD, (upd_ne hpD).trans upd_same⟩
          · rw [if_neg hyz]
            rw [htk] at hy
            rcases List.mem_append.mp hy with h | h
            · obtain ⟨h1, h2, h3⟩ := hta y h
              refine ⟨h1, h2, (upd_ne h2).trans ((upd_ne (ne_of_none h3 np)).trans h3)⟩
            · exact absurd (List.mem_singleton.mp h) hyz
        · rw [htk] at hy hy2
          by_cases hyz : y = z <;> by_cases hyz2 : y2 = z
          · intro _; rw [hyz, hyz2]
          · rw [if_pos hyz, if_neg hyz2]
            intro e
            rcases List.mem_append.mp hy2 with h | h
            · have h3 := (hta y2 h).2.2
              rw [← e, np] at h3
              cases h3
            · exact absurd (List.mem_singleton.mp h) hyz2
          · rw [if_neg hyz, if_pos hyz2]
            intro e
            rcases List.mem_append.mp hy with h | h
            · have h3 := (hta y h).2.2
              rw [e, np] at h3
              cases h3
            · exact absurd (List.mem_singleton.mp h) hyz
          · rw [if_neg hyz, if_neg hyz2]
            rcases List.mem_append.mp hy with h | h
            · rcases List.mem_append.mp hy2 with h2 | h2
              · exact hinj y h y2 h2
              · exact absurd (List.mem_singleton.mp h2) hyz2
            · exact absurd (List.mem_singleton.mp h) hyz
    obtain ⟨s1, ta, eD, hta, hinj⟩ := hP
    rw [hlen2, List.take_of_length_le (Nat.le_refl _)] at eD hta hinj
    repeat array_get_dec
    refine ⟨_, rfl, t, rfl, ?_⟩
    have hps1 := hps.same s1
    -- what stands ahead of D, and the lists of D
    refine for_seq (xs := ts) ht (fun i σ H' => (∃ y3 y4 y5, σ = [some (.ref a), some (.ref t), some (.ref D), y3, y4, y5]) ∧ Same H H' ∧ H' D = some (.dK (byN l ta)) ∧ ∃ A : Str → List Str, (∀ x ∈ l, H' (ta x) = some (.lst ((A x).map V.str)) ∧ (A x).Nodup ∧ ∀ y, y ∈ A x ↔ Tied (ps.take i) x y))
      ⟨⟨_, _, _, rfl⟩, s1, eD, fun _ => [], fun x hx => ⟨(hta x hx).2.2, List.nodup_nil, fun y => ⟨fun h => (nomatch h), fun h => by rcases h with h | h <;> exact nomatch h⟩⟩⟩
      (fun i σ H' _ hP e => hP.2.1 _ _ e) (fun i x σ H' hx hP => ?_) (fun σ H2 hP => ?_)
    · obtain ⟨⟨y3, y4, y5, rfl⟩, s, eD, A, hA⟩ := hP
      obtain ⟨⟨u, v⟩, p, hp, rfl, ep⟩ := (hps.same s).get hx
      obtain ⟨hu, hv, huv⟩ := hok _ (List.mem_of_getElem? hp)
      have hu : u ∈ l := hu
      have hv : v ∈ l := hv
      have huv : u ≠ v := huv
      have htk : ps.take (i + 1) = ps.take i ++ [(u, v)] := by rw [List.take_add_one, hp]; rfl
      obtain ⟨eu, hun, hua⟩ := hA u hu
      obtain ⟨ev, hvn, hva⟩ := hA v hv
      have hAin : ∀ x ∈ l, ∀ y ∈ A x, y ∈ l := fun x hx y hy => by
        rcases ((hA x hx).2.2 y).mp hy with h | h
        · exact (hok _ (List.mem_of_mem_take h)).2.1
        · exact (hok _ (List.mem_of_mem_take h)).1
      have htuv : ta v ≠ ta u := fun e => huv (hinj v hv u hu e).symm
      refine ⟨p, _, rfl, SqT.of ep, rfl, ?_⟩
      repeat array_get_dec
      refine ⟨D, _, rfl, .inl ⟨_, Sum.inr u, .inl eD, rfl, (valV_byN hu).symm⟩, ?_⟩
      refine ⟨ta u, _, rfl, .inl (SqL.of eu), rfl, L9.flat_strs _, ?_⟩
      rw [if_pos rfl, inV_strs]
      refine w_isBl ?_
      by_cases hm : v ∈ A u
      · rw [decide_eq_true hm]
        repeat array_get_dec
        refine ⟨⟨_, _, _, rfl⟩, s, eD, A, fun x hx => ⟨(hA x hx).1, (hA x hx).2.1, fun y => ?_⟩⟩
        rw [(hA x hx).2.2 y]
        have hT := (hua v).mp hm
        unfold Tied at hT ⊢
        rw [htk, List.mem_append, List.mem_append, List.mem_singleton, List.mem_singleton]
        constructor
        · rintro (h | h)
          · exact .inl (.inl h)
          · exact .inr (.inl h)
        · rintro ((h | h) | (h | h))
          · exact .inl h
          · cases h; exact hT
          · exact .inr h
          · cases h; exact hT.symm
      · rw [decide_eq_false hm]
        have hm2 : u ∉ A v := fun h => hm ((hua v).mpr ((hva u).mp h).symm)
        repeat array_get_dec
        refine ⟨D, _, rfl, .inl ⟨_, Sum.inr u, .inl eD, rfl, (valV_byN hu).symm⟩, ?_⟩
        refine ⟨.inl ⟨rfl, _, SqL.of eu⟩, ?_⟩
        repeat array_get_dec
        have huD := (hta u hu).2.1
        have hvD := (hta v hv).2.1
        have hlu : (A u).length ≤ l.length := lists_sub hun (hAin u hu)
        have hlv : (A v).length ≤ l.length := lists_sub hvn (hAin v hv)
        refine ⟨ta u, _, _, rfl, rfl, eu, by rw [List.length_map]; exact small1000 (by omega), ?_⟩
        repeat array_get_dec
        refine ⟨D, _, rfl, .inl ⟨_, Sum.inr v, .inl ((upd_ne huD.symm).trans eD), rfl, (valV_byN hv).symm⟩, ?_⟩
        have ev2 := (upd_ne (o := HO.lst ((A u).map V.str ++ [V.str v])) htuv).trans ev
        refine ⟨.inl ⟨rfl, _, SqL.of ev2⟩, ?_⟩
        repeat array_get_dec
        refine ⟨ta v, _, _, rfl, rfl, ev2, by rw [List.length_map]; exact small1000 (by omega), ?_⟩
        refine ⟨⟨_, _, _, rfl⟩, ?_, (upd_ne hvD.symm).trans ((upd_ne huD.symm).trans eD), fun x => if x = v then A v ++ [u] else if x = u then A u ++ [v] else A x, fun x hx => ?_⟩
        · exact Same.at (Same.at s (hta u hu).1) (hta v hv).1
        · dsimp only
          by_cases hxv : x = v
          · subst hxv
            rw [if_pos rfl]
            refine ⟨by rw [upd_same, List.map_append]; rfl, ?_, fun y => ?_⟩
            · rw [List.nodup_append]
              refine ⟨hvn, by simp, fun c hc d hd e => ?_⟩
              rw [List.mem_singleton.mp hd] at e
              exact hm2 (e ▸ hc)
            · rw [List.mem_append, List.mem_singleton, hva y]
              unfold Tied
              rw [htk, List.mem_append, List.mem_append, List.mem_singleton, List.mem_singleton]
              constructor
              · rintro ((h | h) | rfl)
                · exact .inl (.inl h)
                · exact .inr (.inl h)
                · exact .inr (.inr rfl)
              · rintro ((h | h) | (h | h))
                · exact .inl (.inl h)
                · cases h; exact absurd rfl huv
                · exact .inl (.inr h)
                · cases h; exact .inr rfl
          · rw [if_neg hxv]
            by_cases hxu : x = u
            · subst hxu
              rw [if_pos rfl]
              refine ⟨by rw [upd_ne htuv.symm, upd_same, List.map_append]; rfl, ?_, fun y => ?_⟩
              · rw [List.nodup_append]
                refine ⟨hun, by simp, fun c hc d hd e => ?_⟩
                rw [List.mem_singleton.mp hd] at e
                exact hm (e ▸ hc)
              · rw [List.mem_append, List.mem_singleton, hua y]
                unfold Tied
                rw [htk, List.mem_append, List.mem_append, List.mem_singleton, List.mem_singleton]
                constructor
                · rintro ((h | h) | rfl)
                  · exact .inl (.inl h)
                  · exact .inr (.inl h)
                  · exact .inl (.inr rfl)
                · rintro ((h | h) | (h | h))
                  · exact .inl (.inl h)
                  · cases h; exact .inr rfl
                  · exact .inl (.inr h)
                  · cases h; exact absurd rfl huv
            · rw [if_neg hxu]
              obtain ⟨ex, hxn, hxa⟩ := hA x hx
              have h1 : ta x ≠ ta u := fun e => hxu (hinj x hx u hu e)
              have h2 : ta x ≠ ta v := fun e => hxv (hinj x hx v hv e)
              refine ⟨by rw [upd_ne h2, upd_ne h1]; exact ex, hxn, fun y => ?_⟩
              rw [hxa y]
              unfold Tied
              rw [htk, List.mem_append, List.mem_append, List.mem_singleton, List.mem_singleton]
              constructor
              · rintro (h | h)
                · exact .inl (.inl h)
                · exact .inr (.inl h)
              · rintro ((h | h) | (h | h))
                · exact .inl h
                · cases h; exact absurd rfl hxu
                · exact .inr h
                · cases h; exact absurd rfl hxv
    obtain ⟨⟨y3, y4, y5, rfl⟩, s, eD2, A, hA⟩ := hP
    rw [hps.length, List.take_of_length_le (Nat.le_refl _)] at hA
    repeat array_get_dec
    refine ⟨a, rfl, ⟨_, SqL.of (s _ _ ha)⟩, fun R nR => ?_⟩
    refine dc_list (xs := l.map V.str) (fun i H' => Same H2 H' ∧ ∃ (tb : Str → Addr) (B : Str → List Str), H' R = some (.dK (byN (l.take i) tb)) ∧ ∀ x ∈ l.take i, H' (tb x) = some (.lst ((B x).map V.str)) ∧ (B x).Perm (A x) ∧ tb x ≠ R ∧ sortedS (B x) = true)
      ⟨same_upd nR, fun _ => R, fun _ => [], upd_same, fun x hx => (nomatch hx)⟩ (fun i H' _ hP => SqL.of (hP.1 _ _ (s _ _ ha))) (fun i x H' hx hP => ?_) (fun H3 hP => ?_)
    · obtain ⟨s3, tb, B, eR, hB⟩ := hP
      rw [List.getElem?_map] at hx
      obtain ⟨z, hz, rfl⟩ : ∃ z, l[i]? = some z ∧ V.str z = x := by
        cases h : l[i]? with
        | none => rw [h] at hx; cases hx
        | some z => rw [h] at hx; exact ⟨z, rfl, Option.some.inj hx⟩
      have hzl := List.mem_of_getElem? hz
      obtain ⟨ez, hzn, hza⟩ := hA z hzl
      have hlz : (A z).length ≤ l.length := lists_sub hzn fun y hy => by
        rcases (hza y).mp hy with h | h
        · exact (hok _ h).2.1
        · exact (hok _ h).1
      have htk : l.take (i + 1) = l.take i ++ [z] := by rw [List.take_add_one, hz]; rfl
      have hnz : z ∉ l.take i := by
        have h1 : (l.take (i + 1)).Nodup := hnd.sublist (List.take_sublist _ _)
        rw [htk, List.nodup_append] at h1
        exact fun hm => h1.2.2 z hm z (List.mem_singleton.mpr rfl) rfl
      refine ⟨rfl, tyes ?_⟩
      repeat array_get_dec
      refine ⟨D, _, rfl, .inl ⟨_, Sum.inr z, .inl (s3 _ _ eD2), rfl, (valV_byN hzl).symm⟩, ?_⟩
      repeat array_get_dec
      refine ⟨ta z, A z, rfl, SqL.of (s3 _ _ ez), by omega, fun zs p hperm hsrt np => ?_⟩
      have hpR : p ≠ R := fun e => by rw [e, eR] at np; cases np
      refine ⟨_, Sum.inr z, rfl, (upd_ne hpR.symm).trans eR, ?_, ?_⟩
      · rw [byN_len, List.length_take]
        exact small1000 (by omega)
      · rw [putK_byN hnz, ← htk]
        refine ⟨fun q2 o e => ?_, _, fun y => if y = z then zs else B y, upd_same, fun y hy => ?_⟩
        · have h1 : q2 ≠ R := ne_of_none e nR
          have h2 : q2 ≠ p := ne_of_none (s3 _ _ e) np
          rw [upd_ne h1, upd_ne h2]
          exact s3 _ _ e
        · dsimp only
          by_cases hyz : y = z
          · rw [if_pos hyz, if_pos hyz, hyz]
            exact ⟨(upd_ne hpR).trans upd_same, hperm, hpR, hsrt⟩
          · rw [if_neg hyz, if_neg hyz]
            rw [htk] at hy
            rcases List.mem_append.mp hy with h | h
            · obtain ⟨h1, h2, h3, h4⟩ := hB y h
              exact ⟨(upd_ne h3).trans ((upd_ne (ne_of_none h1 np)).trans h1), h2, h3, h4⟩
            · exact absurd (List.mem_singleton.mp h) hyz
    obtain ⟨s3, tb, B, eR, hB⟩ := hP
    rw [hlen2, List.take_of_length_le (Nat.le_refl _)] at eR hB
    refine q R H3 B (s.trans s3) (s.free nR) ⟨tb, eR, fun x hx => (hB x hx).1⟩ (fun x hx => ?_) fun x hx => (hB x hx).2.2.2
    obtain ⟨_, hxn, hxa⟩ := hA x hx
    have hp := (hB x hx).2.1
    exact ⟨hp.nodup_iff.mpr hxn, fun y => (hp.mem_iff).trans (hxa y)⟩
abbrev N_Chart___init__ : List Str := ["self", "places", "ties", "outlets", "ordered", "name"]
theorem sc_Chart___init__ : FnScope N_Chart___init__ ["self", "places", "ties", "outlets"] (defScope s_Chart___init__) := ⟨rfl, rfl, rfl, by decide +kernel, rfl, by decide +kernel, by decide +kernel⟩
theorem ok_Chart___init__ {f : Addr} {fd : FuncData} {C CB : Addr} {dvs : List V} {kws : List (Str × V)} (HC : ChT K mg C) (F : FunD K "__init__" "Chart.__init__" (defArgs s_Chart___init__) (defBody s_Chart___init__) (defScope s_Chart___init__) dvs kws f fd) (T : Txt K mg) (C_check_places : Cal P w K mg base "check_places" 2 ["places"] (spPlacesY CB)) (C_check_ties : Cal P w K mg base "check_ties" 3 ["ties", "places"] (spTiesV K)) (C_check_listed : Cal P w K mg base "check_listed" 2 ["listed", "places"] (spListV K)) (C_tied_places : Cal P w K mg base "tied_places" 1 ["names", "ties"] (spTiedV K)) : FnOk P w K mg base CX0 4 f fd ["self", "places", "ties", "outlets"] (spChInitV K C CB) := by
  refine F.ok sc_Chart___init__ (fun vs H Q E h => ?_) (fun cdv A outer s H vs Q E hr h => ?_)
  · obtain ⟨y, dx, d, t, o, l, os, ba, lo, hi, ts, ps, rfl, hy, hd, hnd, hlen, hok, ht, hps, htok, ho, hok2, q⟩ := h
    rfl
  · obtain ⟨y, dx, d, t, o, l, os, ba, lo, hi, ts, ps, rfl, hy, hd, hnd, hlen, hok, ht, hps, htok, ho, hok2, q⟩ := h
    refine ⟨_, (pss_cons (ps_expr (pe_cal C_check_places (hr.mono (by decide)) (by rfl) (pa_cons (pv 1) pa_nil)))
    (pss_cons (ps_expr (pe_cal C_check_ties (hr.mono (by decide)) (by rfl) (pa_cons (pv 2) (pa_cons (pv 1) pa_nil))))
    (pss_cons (ps_expr (pe_cal C_check_listed (hr.mono (by decide)) (by rfl) (pa_cons (pv 3) (pa_cons (pv 1) pa_nil))))
    (pss_cons (ps_set (i := 4) sc_Chart___init__.nd rfl (.inl rfl) (pe_callB (call_sortedD rfl) (by rfl) T.m_sorted (by decide +kernel) (pa_cons (pv 1) pa_nil)))
    (pss_cons (ps_fld (pv 0) (pe_dc (own := [("name", 5)]) (g := gName 5) (tt := tYes) rfl sc_Chart___init__.nd (pi_list (pv 4)) (blkOk_by (N := N_Chart___init__) (sc := defScope s_Chart___init__) (by decide +kernel)) (fun _ _ _ _ _ => pg_name (i := 5) sc_Chart___init__.nd rfl (Or.inl rfl)) (fun _ _ _ _ _ => pts_nil) (fun _ _ _ _ _ => (pv 5)) (fun _ _ _ _ _ => (pe_dget (hu_of hr) (pv 1) (pv 5) (fun _ _ => rfl)))) rfl)
    (pss_cons (ps_fld (pv 0) (pe_cal C_tied_places (hr.mono (by decide)) (by rfl) (pa_cons (pv 4) (pa_cons (pv 2) pa_nil))) rfl)
    (pss_one (ps_fld (pv 0) (pe_lc (own := [("name", 5)]) (g := gName 5) rfl sc_Chart___init__.nd (pi_list (pv 4)) (blkOk_by (N := N_Chart___init__) (sc := defScope s_Chart___init__) (by decide +kernel)) (fun _ _ _ _ _ => pg_name (i := 5) sc_Chart___init__.nd rfl (Or.inl rfl)) (fun _ _ _ _ _ => pts_one (pt_cmpR (op_in_seqK (K' := K) rfl) (pv 5) (pv 3) (by rfl))) (fun _ _ _ _ _ => (pv 5))) rfl)))))))), ?_⟩
    repeat array_get_dec
    refine ⟨d, l, ba, rfl, hd, hlen, fun x hx => ?_, fun H1 s1 => ?_⟩
    · obtain ⟨h1, h2, ⟨dx', h3⟩, _⟩ := hok x hx
      exact ⟨h1, h2, dx', _, h3⟩
    repeat array_get_dec
    refine ⟨t, d, ts, ps, l, ba, rfl, ht.same s1, hps.same s1, s1 _ _ hd, htok, fun H2 s2 => ?_⟩
    have s2 := s1.trans s2
    repeat array_get_dec
    refine ⟨o, d, os, l, ba, rfl, ho.same s2, s2 _ _ hd, hok2, fun H3 s3 => ?_⟩
    have s3 := s2.trans s3
    repeat array_get_dec
    refine ⟨d, _, l, rfl, .inl (s3 _ _ hd), ?_, by omega, fun ns op hp hs nop => ?_⟩
    · unfold byN
      rw [List.map_map]
      rfl
    generalize hG : upd H3 op _ = H4
    have s4 : Same H3 H4 := by rw [← hG]; exact same_upd nop
    have e4 : H4 op = some (.lst (ns.map V.str)) := by rw [← hG]; exact upd_same
    have s4 := s3.trans s4
    clear hG
    have hnn : ns.Nodup := hp.nodup_iff.mpr hnd
    have hnl : ns.length = l.length := hp.length_eq
    have hmem : ∀ x, x ∈ ns ↔ x ∈ l := fun x => hp.mem_iff
    have hl2 : (ns.map V.str).length = ns.length := List.length_map _
    repeat array_get_dec
    refine ⟨op, rfl, ⟨_, SqL.of e4⟩, fun D nD => ?_⟩
    refine dc_list (xs := ns.map V.str) (fun i H' => Same H4 H' ∧ H' D = some (.dK (byN (ns.take i) ba))) ⟨same_upd nD, upd_same⟩ (fun i H' _ hP => SqL.of (hP.1 _ _ e4)) (fun i x H' hx hP => ?_) (fun H5 hP => ?_)
    · obtain ⟨s, eD⟩ := hP
      rw [List.getElem?_map] at hx
      obtain ⟨z, hz, rfl⟩ : ∃ z, ns[i]? = some z ∧ V.str z = x := by
        cases h : ns[i]? with
        | none => rw [h] at hx; cases hx
        | some z => rw [h] at hx; exact ⟨z, rfl, Option.some.inj hx⟩
      have hzl := (hmem z).mp (List.mem_of_getElem? hz)
      have htk : ns.take (i + 1) = ns.take i ++ [z] := by rw [List.take_add_one, hz]; rfl
      have hnz : z ∉ ns.take i := by
        have h1 : (ns.take (i + 1)).Nodup := hnn.sublist (List.take_sublist _ _)
        rw [htk, List.nodup_append] at h1
        exact fun hm => h1.2.2 z hm z (List.mem_singleton.mpr rfl) rfl
      refine ⟨rfl, tyes ?_⟩
      repeat array_get_dec
      refine ⟨d, _, rfl, .inl ⟨_, Sum.inr z, .inl (s _ _ (s4 _ _ hd)), rfl, (valV_byN hzl).symm⟩, ?_⟩
      refine ⟨_, Sum.inr z, rfl, eD, ?_, Same.at s nD, ?_⟩
      · rw [byN_len, List.length_take]
        exact small1000 (by omega)
      · rw [upd_same, htk]
        unfold byN
        rw [putK_new, List.map_append]
        · rfl
        · intro p hp2 e
          obtain ⟨w2, hw2, rfl⟩ := List.mem_map.mp hp2
          exact hnz (by rw [← Sum.inr.inj e]; exact hw2)
    obtain ⟨s5, eD⟩ := hP
    rw [hl2, List.take_of_length_le (Nat.le_refl _)] at eD
    have s5' := s5
    have s5 := s4.trans s5
    repeat array_get_dec
    refine ⟨y, C, dx, _, rfl, s5 _ _ hy, HC.c.cl, HC.nb, by show 0 < 1000; decide, ?_⟩
    have ey5 := s5 _ _ hy
    have hyk : ∀ q2 ob, H5 q2 = some ob → (∀ C2 dx2 fs2, ob ≠ .ins C2 dx2 fs2) → q2 ≠ y := fun q2 ob e hk z => by
      rw [z, ey5] at e
      cases e
      exact hk _ _ _ rfl
    have e4y := s5' _ _ e4
    generalize hG : upd H5 y _ = H6
    have ey6 : H6 y = some (.ins C dx [(("bounds_by_name" : Str), .ref D)]) := by rw [← hG]; exact upd_same
    have k6 : ∀ q2 ob, q2 ≠ y → H5 q2 = some ob → H6 q2 = some ob := fun q2 ob hne e => by rw [← hG]; exact (upd_ne hne).trans e
    clear hG
    have k6' : ∀ q2 ob, H5 q2 = some ob → (∀ C2 dx2 fs2, ob ≠ .ins C2 dx2 fs2) → H6 q2 = some ob := fun q2 ob e hk => k6 _ _ (hyk _ _ e hk) e
    have hl6 : ∀ q2 xs, H5 q2 = some (.lst xs) → H6 q2 = some (.lst xs) := fun q2 xs e => k6' _ _ e (fun _ _ _ z => nomatch z)
    have hnl6 : ns.length ≤ 60 := by omega
    repeat array_get_dec
    refine ⟨op, t, ns, ts, ps, rfl, hl6 _ _ e4y, hnn, hnl6, (ht.same s5).imp (fun e => hl6 _ _ e) id, (hps.same s5).keep (fun q2 xs e => k6 _ _ (hyk _ _ e (fun _ _ _ z => nomatch z)) e), fun p hp2 => ⟨(hmem _).mpr (htok p hp2).1, (hmem _).mpr (htok p hp2).2.1, (htok p hp2).2.2⟩, fun R H7 nbr s7 nR tR hT hTs => ?_⟩
    repeat array_get_dec
    refine ⟨y, C, dx, _, rfl, s7 _ _ ey6, HC.c.cl, HC.nt, by show 1 < 1000; decide, ?_⟩
    have ey7 := s7 _ _ ey6
    have hRy : R ≠ y := fun z => by rw [z, ey6] at nR; cases nR
    obtain ⟨ta, eR, eta⟩ := tR
    generalize hG : upd H7 y _ = H8
    have ey8 : H8 y = some (.ins C dx [(("bounds_by_name" : Str), .ref D), (("tied_by_name" : Str), .ref R)]) := by rw [← hG]; exact upd_same
    have k8 : ∀ q2 ob, q2 ≠ y → H7 q2 = some ob → H8 q2 = some ob := fun q2 ob hne e => by rw [← hG]; exact (upd_ne hne).trans e
    clear hG
    have hl8 : ∀ q2 xs, H7 q2 = some (.lst xs) → H8 q2 = some (.lst xs) := fun q2 xs e => k8 _ _ (fun z => by rw [z, ey7] at e; cases e) e
    have e48 := hl8 _ _ (s7 _ _ (hl6 _ _ e4y))
    have eo8 : SqV K H8 o (os.map V.str) := ho.imp (fun e => hl8 _ _ (s7 _ _ (hl6 _ _ (s5 _ _ e)))) id
    repeat array_get_dec
    refine ⟨op, rfl, ⟨_, SqL.of e48⟩, fun L nL => ?_⟩
    refine lc_list (xs := ns.map V.str) (fun i H' => Same H8 H' ∧ H' L = some (.lst (((ns.take i).filter fun x => decide (x ∈ os)).map V.str))) ⟨same_upd nL, upd_same⟩ (fun i H' _ hP => SqL.of (hP.1 _ _ e48)) (fun i x H' hx hP => ?_) (fun H9 hP => ?_)
    · obtain ⟨s, eL⟩ := hP
      rw [List.getElem?_map] at hx
      obtain ⟨z, hz, rfl⟩ : ∃ z, ns[i]? = some z ∧ V.str z = x := by
        cases h : ns[i]? with
        | none => rw [h] at hx; cases hx
        | some z => rw [h] at hx; exact ⟨z, rfl, Option.some.inj hx⟩
      have htk : ns.take (i + 1) = ns.take i ++ [z] := by rw [List.take_add_one, hz]; rfl
      refine ⟨rfl, ?_⟩
      repeat array_get_dec
      refine ⟨o, _, rfl, (eo8.same s).sq, rfl, L9.flat_strs _, ?_⟩
      rw [if_neg (by decide), inV_strs]
      refine w_isBl ?_
      by_cases hm : z ∈ os
      · rw [decide_eq_true hm]
        repeat array_get_dec
        refine ⟨_, eL, ?_, Same.at s nL, ?_⟩
        · rw [List.length_map]
          refine small1000 (Nat.le_trans (List.length_filter_le _ _) ?_)
          rw [List.length_take]
          omega
        · rw [upd_same, htk, List.filter_append]
          simp [hm]
      · rw [decide_eq_false hm]
        refine iteF ⟨s, ?_⟩
        rw [eL, htk, List.filter_append]
        simp [hm]
    obtain ⟨s9, eL⟩ := hP
    rw [hl2, List.take_of_length_le (Nat.le_refl _)] at eL
    repeat array_get_dec
    have ey9 := s9 _ _ ey8
    refine ⟨y, C, dx, _, rfl, ey9, HC.c.cl, HC.no, by show 2 < 1000; decide, ?_⟩
    have hLy : L ≠ y := fun z => by rw [z, ey9] at eL; cases eL
    generalize hG : upd H9 y _ = HA
    have eyA : HA y = some (.ins C dx (chf D R L)) := by rw [← hG]; exact upd_same
    have kA : ∀ q2 ob, q2 ≠ y → H9 q2 = some ob → HA q2 = some ob := fun q2 ob hne e => by rw [← hG]; exact (upd_ne hne).trans e
    clear hG
    have all : But y H HA := fun q2 ob hne e => kA _ _ hne (s9 _ _ (k8 _ _ hne (s7 _ _ (k6 _ _ hne (s5 _ _ e)))))
    have hDy : D ≠ y := fun z => by rw [z, ey5] at eD; cases eD
    have eDA : HA D = some (.dK (byN ns ba)) := kA _ _ hDy (s9 _ _ (k8 _ _ hDy (s7 _ _ (k6 _ _ hDy eD))))
    have eRA : HA R = some (.dK (byN ns ta)) := kA _ _ hRy (s9 _ _ (k8 _ _ hRy eR))
    have eLA := kA _ _ hLy eL
    have hch : ChAt C CB HA y ⟨ns, lo, hi, nbr, ns.filter fun x => decide (x ∈ os)⟩ := by
      refine ⟨dx, D, R, L, eyA, ⟨ba, eDA, fun x hx => ?_⟩, ⟨ta, eRA, fun x hx => ?_⟩, eLA⟩
      · obtain ⟨_, _, ⟨dx2, h3⟩, _⟩ := hok x ((hmem x).mp hx)
        by_cases z : ba x = y
        · rw [z, hy] at h3
          exact absurd h3 (by
            intro h4
            have h5 := HO.ins.inj (Option.some.inj h4)
            have h6 := h5.2.2
            unfold bf at h6
            cases h6)
        · exact ⟨dx2, all _ _ z h3⟩
      · have h1 := eta x hx
        have h2 : ta x ≠ y := fun z => by rw [z, ey7] at h1; cases h1
        exact kA _ _ h2 (s9 _ _ (k8 _ _ h2 h1))
    obtain ⟨r1, r2⟩ := mk_of (os := os) hnd hlen (fun x hx => (hok x hx).2.2.2) (fun x hx => ⟨(hok x hx).1, (hok x hx).2.1⟩) htok hp hs rfl rfl (fun x hx => hT x ((hmem x).mpr hx)) (fun x hx => hTs x ((hmem x).mpr hx)) rfl hch
    exact q HA all r1 r2
end
end K23

namespace K23
open PySem PySem.Spec PyProof.Rows L2 L9
def spNegB (CB : Addr) : Sp := fun vs H Q _ => ∃ (p : Addr) (l h : Int), vs = [.ref p] ∧ BndAt CB H p l h ∧ -MH ≤ l ∧ l ≤ h ∧ h ≤ MH ∧ ∀ (y : Addr) (H' : Hp), Same H H' → H y = none → BndAt CB H' y (-h) (-l) → Q (.ref y) H'
section
variable {P : Program} {w : World} {K : PySem.W.Frag} {mg : Str → Option Value} {base : Heap}
abbrev N_Chart_ties : List Str := ["self", "one", "other"]
theorem sc_Chart_ties : FnScope N_Chart_ties ["self"] (defScope s_Chart_ties) := ⟨rfl, rfl, rfl, by decide +kernel, rfl, by decide +kernel, by decide +kernel⟩
theorem ok_Chart_ties {f : Addr} {fd : FuncData} {C CB : Addr} (HC : ChT K mg C) (F : Fun K "ties" "Chart.ties" s_Chart_ties f fd) (T : Txt K mg) : FnOk P w K mg base CX0 1 f fd ["self"] (spTiesN C CB) := by
  refine F.ok sc_Chart_ties (fun vs H Q E h => ?_) (fun cdv A outer s H vs Q E hr h => ?_)
  · obtain ⟨p, c, rfl, _⟩ := h
    rfl
  · obtain ⟨p, c, rfl, hc, ok, irr, q⟩ := h
    have hc0 := hc
    obtain ⟨dx, b, t, o, hp, _, ⟨ta, et, eta⟩, _⟩ := hc
    refine ⟨_, (pss_one (ps_ret (pe_lock (pe_lc2 (own := [("one", 1), ("other", 2)]) (vs1 := [2]) (g := gName 1) (tt := tYes) (g1 := gName 2) rfl sc_Chart_ties.nd (pi_keys (pe_fld (pv 0) rfl)) (blkOk_by (N := N_Chart_ties) (sc := defScope s_Chart_ties) (by decide +kernel)) (by decide) (fun _ _ _ _ _ => pg_name (i := 1) sc_Chart_ties.nd rfl (Or.inl rfl)) (fun _ _ _ _ _ => pts_nil)
      (fun _ _ _ _ _ => pi_listK (K' := K) rfl (pe_dget (hu_of hr) (pe_fldK (K' := K) rfl (pv 0) rfl) (pv 1) (fun _ _ => rfl))) (fun _ _ _ _ _ => pg_name (i := 2) sc_Chart_ties.nd rfl (Or.inl rfl)) (fun _ _ _ _ _ => pts_one (pt_cmpR op_lt_str (pv 1) (pv 2) (nomark _))) (fun _ _ _ _ _ => pe_tup (pa_cons (pv 1) (pa_cons (pv 2) pa_nil))))))), ?_⟩
    have htp : t ≠ p := fun z => by rw [z, hp] at et; cases et
    repeat array_get_dec
    refine ⟨t, _, et, trivial, fun od => ?_⟩
    repeat array_get_dec
    refine ⟨_, rfl, ?_⟩
    refine ⟨p, C, dx, _, _, rfl, (upd_ne (Ne.symm htp)).trans hp, HC.c.cl, HC.nt, chf_t _ _ _, ?_⟩
    refine ⟨t, od, rfl, .inl ⟨_, upd_same, fun D nD => ?_⟩⟩
    generalize hL : upd H t (.frz od (.dK (byN c.names ta))) = H1 at nD ⊢
    have e1t : H1 t = some (.frz od (.dK (byN c.names ta))) := by rw [← hL]; exact upd_same
    have k1 : ∀ a o, a ≠ t → H a = some o → H1 a = some o := fun a o h e => by rw [← hL]; exact (upd_ne h).trans e
    have hDt : D ≠ t := fun z => by rw [z, e1t] at nD; cases nD
    refine lc2_out walk_keys (fun i H' => Same H1 H' ∧ ∃ ts, H' D = some (.lst ts) ∧ TxAll H' ts ((c.names.take i).flatMap (rowT c))) ⟨same_upd nD, [], upd_same, trivial⟩ (fun i H' _ hP => hP.1 _ _ e1t) (fun i x H2 H3 hi hP hY => ?_) (fun H2 hP => ?_)
    · obtain ⟨s2, ts, eT, hT⟩ := hP
      obtain ⟨rfl, k, v, hk, rfl⟩ := hY
      obtain ⟨u, hu, rfl⟩ : ∃ u, c.names[i]? = some u ∧ k = Sum.inr u := by
        unfold byN at hk
        rw [List.getElem?_map] at hk
        cases h : c.names[i]? with
        | none => rw [h] at hk; cases hk
        | some u => rw [h] at hk; injection hk with hk; injection hk with h1 h2; exact ⟨u, rfl, h1.symm⟩
      have hun := List.mem_of_getElem? hu
      have htk : c.names.take (i + 1) = c.names.take i ++ [u] := by rw [List.take_add_one, hu]; rfl
      have hut : ta u ≠ t := fun z => by
        have := eta u hun
        rw [z, et] at this
        cases this
      have eL : H1 (ta u) = some (.lst ((c.nbr u).map V.str)) := k1 _ _ hut (eta u hun)
      have ep1 : H1 p = some (.ins C dx (chf b t o)) := k1 _ _ (Ne.symm htp) hp
      have hnb60 : (c.nbr u).length ≤ 60 := Nat.le_trans (lists_sub (ok.nnd u hun) (ok.nin u hun)) ok.len
      refine ⟨rfl, tyes ?_⟩
      repeat array_get_dec
      refine ⟨p, C, dx, _, _, rfl, s2 _ _ ep1, HC.c.cl, HC.nt, chf_t _ _ _, ?_⟩
      repeat array_get_dec
      refine ⟨t, _, rfl, .inl ⟨_, Sum.inr u, .inr ⟨_, s2 _ _ e1t⟩, rfl, (valV_byN hun).symm⟩, ?_⟩
      refine ⟨ta u, rfl, ⟨_, SqL.of (s2 _ _ eL)⟩, ?_⟩
      refine lc2_in (xs := (c.nbr u).map V.str) (fun j H' => Same H1 H' ∧ ∃ ts, H' D = some (.lst ts) ∧ TxAll H' ts ((c.names.take i).flatMap (rowT c) ++ (((c.nbr u).take j).filter fun y => ltR (0, u) (0, y)).map fun y => (u, y))) ⟨s2, ts, eT, by simpa using hT⟩ (fun j H' _ hP => SqL.of (hP.1 _ _ eL)) (fun j x H' hx hP => ?_) (fun H' hP => ?_)
      · obtain ⟨s3, ts, eT, hT⟩ := hP
        rw [List.getElem?_map] at hx
        obtain ⟨z, hz, rfl⟩ : ∃ z, (c.nbr u)[j]? = some z ∧ V.str z = x := by
          cases h : (c.nbr u)[j]? with
          | none => rw [h] at hx; cases hx
          | some z => rw [h] at hx; exact ⟨z, rfl, Option.some.inj hx⟩
        have hjk : (c.nbr u).take (j + 1) = (c.nbr u).take j ++ [z] := by rw [List.take_add_one, hz]; rfl
        have hlen : ts.length < sizeLine := by
          have h1 := hT.length
          rw [List.length_append, List.length_map] at h1
          have h2 : (((c.nbr u).take j).filter fun y => ltR (0, u) (0, y)).length ≤ 60 := Nat.le_trans (List.length_filter_le _ _) (by rw [List.length_take]; omega)
          have h3 : ∀ l : List Str, (∀ x ∈ l, x ∈ c.names) → (l.flatMap (rowT c)).length ≤ 60 * l.length := fun l hl => by
            induction l with
            | nil => exact Nat.le_refl _
            | cons x l ih =>
              rw [List.flatMap_cons, List.length_append, List.length_cons]
              have a := ih fun y hy => hl y (List.mem_cons_of_mem _ hy)
              have b : (rowT c x).length ≤ 60 := by
                unfold rowT
                rw [List.length_map]
                exact Nat.le_trans (List.length_filter_le _ _) (Nat.le_trans (lists_sub (ok.nnd x (hl x List.mem_cons_self)) (ok.nin x (hl x List.mem_cons_self))) ok.len)
              omega
          have h4 := h3 (c.names.take i) fun x hx => List.mem_of_mem_take hx
          have h5 : (c.names.take i).length ≤ 60 := Nat.le_trans (by rw [List.length_take]; exact Nat.min_le_right _ _) ok.len
          have h6 := sizeLine_eq
          omega
        refine ⟨rfl, ?_⟩
        repeat array_get_dec
        refine ⟨u, z, rfl, rfl, ?_⟩
        by_cases hlt : u.cps.toList < z.cps.toList
        · rw [decide_eq_true hlt]
          have hl : ltR (0, u) (0, z) = true := ltR_iff.mpr (.inr ⟨rfl, hlt⟩)
          refine ⟨_, rfl, ?_⟩
          repeat array_get_dec
          refine ⟨by show 2 ≤ sizeLine; decide, fun p2 np => ?_⟩
          have hpD : D ≠ p2 := fun z => by rw [z, np] at eT; cases eT
          have eT5 := (upd_ne (o := HO.tup [V.str u, V.str z]) hpD).trans eT
          refine ⟨_, eT5, hlen, Same.at (s3.trans (same_upd np)) nD, ts ++ [.ref p2], upd_same, ?_⟩
          rw [hjk, List.filter_append, List.map_append, ← List.append_assoc]
          have one : ([z].filter fun y => ltR (0, u) (0, y)) = [z] := by simp [hl]
          rw [one]
          exact (TxAll.app (x := (u, z)) ⟨p2, rfl, upd_same⟩ (hT.same (same_upd np))).upd eT5
        · rw [decide_eq_false hlt]
          have hl : ltR (0, u) (0, z) = false := by
            cases h : ltR (0, u) (0, z) with
            | false => rfl
            | true =>
              rcases ltR_iff.mp h with h1 | ⟨_, h1⟩
              · exact absurd h1 (Int.lt_irrefl 0)
              · exact absurd h1 hlt
          refine ⟨_, rfl, ?_⟩
          repeat array_get_dec
          refine ⟨s3, ts, eT, ?_⟩
          rw [hjk, List.filter_append]
          simpa [hl] using hT
      · obtain ⟨s3, ts, eT, hT⟩ := hP
        refine ⟨s3, ts, eT, ?_⟩
        rw [List.length_map, List.take_of_length_le (Nat.le_refl _)] at hT
        rw [htk, List.flatMap_append, List.flatMap_cons, List.flatMap_nil, List.append_nil]
        exact hT
    · obtain ⟨s3, ts, eT, hT⟩ := hP
      rw [byN_len, List.take_of_length_le (Nat.le_refl _)] at hT
      have e2t := s3 _ _ e1t
      refine ⟨e2t, ?_⟩
      rw [← hL] at s3 nD
      have hmem : ∀ x y, (x, y) ∈ c.names.flatMap (rowT c) ↔ x ∈ c.names ∧ y ∈ c.nbr x ∧ ltR (0, x) (0, y) = true := fun x y => by
        rw [List.mem_flatMap]
        constructor
        · rintro ⟨z, hz, hm⟩
          obtain ⟨y2, hy, e⟩ := List.mem_map.mp hm
          injection e with e1 e2
          subst e1 e2
          obtain ⟨h1, h2⟩ := List.mem_filter.mp hy
          exact ⟨hz, h1, h2⟩
        · rintro ⟨h1, h2, h3⟩
          exact ⟨x, h1, List.mem_map.mpr ⟨y, List.mem_filter.mpr ⟨h2, h3⟩, rfl⟩⟩
      refine q D _ ts _ (unlock_same et s3) (by rw [upd_ne hDt] at nD; exact nD) ((upd_ne hDt).trans eT) (hT.keep fun p2 xs e => (upd_ne (fun z => by rw [z, e2t] at e; cases e)).trans e) (fun p2 hp2 => ?_) (fun x hx z => ?_)
      · obtain ⟨h1, h2, h3⟩ := (hmem p2.1 p2.2).mp hp2
        exact ⟨h1, ok.nin _ h1 _ h2, fun z => irr _ h1 (by rw [← z] at h2; exact h2)⟩
      · unfold Tied
        rw [hmem, hmem]
        constructor
        · rintro (⟨_, h, _⟩ | ⟨h1, h2, _⟩)
          · exact h
          · exact ok.sy z h1 x h2
        · intro h
          have hz := ok.nin x hx z h
          rcases ltR_tri (0, x) (0, z) with h1 | h1 | h1
          · exact .inl ⟨hx, h, h1⟩
          · injection h1 with _ h1
            exact absurd (h1 ▸ h) (irr x hx)
          · exact .inr ⟨hz, ok.sy x hx z h, h1⟩
abbrev N_Bounds___neg__ : List Str := ["self"]
theorem sc_Bounds___neg__ : FnScope N_Bounds___neg__ ["self"] (defScope s_Bounds___neg__) := ⟨rfl, rfl, rfl, by decide +kernel, rfl, by decide +kernel, by decide +kernel⟩
theorem ok_Bounds___neg__ {f : Addr} {fd : FuncData} {CB : Addr} (B : BnT K mg CB) (F : Fun K "__neg__" "Bounds.__neg__" s_Bounds___neg__ f fd) (T : Txt K mg) (I_Bounds : ICal P w K mg base "Bounds" CB 4 ["self", "low", "high"] (spBInitY CB)) : FnOk P w K mg base CX0 6 f fd ["self"] (spNegB CB) := by
  refine F.ok sc_Bounds___neg__ (fun vs H Q E h => ?_) (fun cdv A outer s H vs Q E hr h => ?_)
  · obtain ⟨p, l, h, rfl, hb, h1, h2, h3, q⟩ := h
    rfl
  · obtain ⟨p, l, h, rfl, hb, h1, h2, h3, q⟩ := h
    refine ⟨_, (pss_one (ps_ret (I_Bounds.pe (hr.mono (by decide)) (by rfl) (pa_cons (pe_un un_neg (pe_fld (pv 0) rfl)) (pa_cons (pe_un un_neg (pe_fld (pv 0) rfl)) pa_nil))))), ?_⟩
    obtain ⟨dx, e1⟩ := hb
    repeat array_get_dec
    refine ⟨p, CB, dx, _, _, rfl, e1, B.c.cl, B.nh, bf_high _ _, ?_⟩
    repeat array_get_dec
    refine ⟨p, CB, dx, _, _, rfl, e1, B.c.cl, B.nl, bf_low _ _, ?_⟩
    repeat array_get_dec
    intro y dy ny ndy hdy
    generalize hG : upd (upd H dy _) y _ = H1
    have s1 : Same H H1 := by
      rw [← hG]
      intro p o e
      rw [upd_ne (ne_of_none e ny), upd_ne (ne_of_none e ndy)]
      exact e
    have ey : H1 y = some (.ins CB dy []) := by rw [← hG]; exact upd_same
    clear hG
    have hb2 : ∀ z : Int, -MH ≤ z → z ≤ MH → heightB z = true := fun z a b => by
      unfold heightB
      rw [decide_eq_true a, decide_eq_true b]
      rfl
    refine ⟨y, dy, -h, -l, rfl, ey, hb2 _ (by omega) (by omega), hb2 _ (by omega) (by omega), by omega, rfl, ?_⟩
    exact q y _ (Same.at s1 ny) ny ⟨dy, upd_same⟩
end
end K23

namespace K23
open PySem PySem.Spec PyProof.Rows L2 L9
section
local macro_rules | `(tactic| array_get_dec) => `(tactic| first
  | with_reducible refine w_methK ?_
  | with_reducible refine w_items ?_
  | with_reducible refine w_iSeq ?_
  | with_reducible refine w_iKeys ?_
  | with_reducible refine w_orT ?_
  | with_reducible refine w_calN ?_)
section
local macro_rules | `(tactic| array_get_dec) => `(tactic| with_reducible refine w_gN (by first | (dsimp only [List.set_cons_zero, List.set_cons_succ]; done) | rfl) ?_)
section
variable {P : Program} {w : World} {K : PySem.W.Frag} {mg : Str → Option Value} {base : Heap}
abbrev N__law_names : List Str := ["_law_box_here", "_law_many", "_law_way", "_law_first", "_law_letters", "_law_base", "_law_size", "_law_k"]
theorem sc__law_names : FnScope N__law_names ["_law_box_here", "_law_many"] (defScope s__law_names) := ⟨rfl, rfl, rfl, by decide +kernel, rfl, by decide +kernel, by decide +kernel⟩
theorem ok__law_names {f : Addr} {fd : FuncData}  (F : Fun K "_law_names" "_law_names" s__law_names f fd) (T : Txt K mg) (C__law_take : Cal P w K mg base "_law_take" 1 ["_law_box_here", "_law_many"] spTake) (C__law_mixed : Cal P w K mg base "_law_mixed" 2 ["_law_box_here", "_law_some"] (spMixed K)) : FnOk P w K mg base CX0 3 f fd ["_law_box_here", "_law_many"] spNamesM := by
  refine F.ok sc__law_names (fun vs H Q E h => ?_) (fun cdv A outer s H vs Q E hr h => ?_)
  · obtain ⟨b, m, n, rfl, hb, hm1, hm2, hn, q⟩ := h
    rfl
  · obtain ⟨b, m, n, rfl, hb, hm1, hm2, hn, q⟩ := h
    refine ⟨_, (pss_cons (ps_asg (pe_tup (pa_cons (pe_cal C__law_take (hr.mono (by decide)) (by rfl) (pa_cons (pv 0) (pa_cons pe_int pa_nil))) (pa_cons (pe_cal C__law_take (hr.mono (by decide)) (by rfl) (pa_cons (pv 0) (pa_cons pe_int pa_nil))) pa_nil))) (pg_tup rfl (pgs_cons (pg_name (i := 2) sc__law_names.nd rfl (.inl rfl)) (pgs_cons (pg_name (i := 3) sc__law_names.nd rfl (.inr rfl)) pgs_nil))))
    (pss_cons (ps_set (i := 4) sc__law_names.nd rfl (.inr rfl) pe_str)
    (pss_cons (ps_set (i := 5) sc__law_names.nd rfl (.inr rfl) (pe_join pe_str (pe_lc (own := [("_law_k", 7)]) (g := gName 7) (tt := tYes) rfl sc__law_names.nd (pi_range1 (by rfl) T.m_range (pa_cons pe_int pa_nil)) (blkOk_by (N := N__law_names) (sc := defScope s__law_names) (by decide +kernel)) (fun _ _ _ _ _ => pg_name (i := 7) sc__law_names.nd rfl (Or.inl rfl)) (fun _ _ _ _ _ => pts_nil) (fun _ _ _ _ _ => (pe_ix ix_str (pv 4) (pe_op op_mod (pe_callTy call_int1 (by rfl) T.m_int (by decide +kernel) (pa_cons (pe_op op_add (pv 3) (pe_op op_mul pe_int (pv 7))) pa_nil)) pe_int) (fun _ _ => rfl))))))
    (pss_cons (ps_if (PW.pt (pw_and (pt_cmpR op_eq (pv 2) pe_int (nomark _)) (pw_and1 (pt_cmpR op_lt (pv 1) pe_int (nomark _))))) (pss_one (ps_ret (pe_cal C__law_mixed (hr.mono (by decide)) (by rfl) (pa_cons (pv 0) (pa_cons (pe_lc (own := [("_law_k", 7)]) (g := gName 7) (tt := tYes) rfl sc__law_names.nd (pi_range1 (by rfl) T.m_range (pa_cons (pv 1) pa_nil)) (blkOk_by (N := N__law_names) (sc := defScope s__law_names) (by decide +kernel)) (fun _ _ _ _ _ => pg_name (i := 7) sc__law_names.nd rfl (Or.inl rfl)) (fun _ _ _ _ _ => pts_nil) (fun _ _ _ _ _ => (pe_slice sl_str (pv 5) po_none (po_some (pe_op op_add (pv 7) pe_int))))) pa_nil))))) pss_nil)
    (pss_cons (ps_set (i := 6) sc__law_names.nd rfl (.inr rfl) (pe_cal C__law_take (hr.mono (by decide)) (by rfl) (pa_cons (pv 0) (pa_cons pe_int pa_nil))))
    (pss_cons (ps_if (pt_cmpR op_eq (pv 2) pe_int (nomark _)) (pss_one (ps_ret (pe_lc (own := [("_law_k", 7)]) (g := gName 7) (tt := tYes) rfl sc__law_names.nd (pi_range1 (by rfl) T.m_range (pa_cons (pv 1) pa_nil)) (blkOk_by (N := N__law_names) (sc := defScope s__law_names) (by decide +kernel)) (fun _ _ _ _ _ => pg_name (i := 7) sc__law_names.nd rfl (Or.inl rfl)) (fun _ _ _ _ _ => pts_nil) (fun _ _ _ _ _ => (pe_op op_add_str (pe_slice sl_str (pv 5) po_none (po_some (pv 6))) (pe_ix ix_str (pv 4) (pe_op op_mod (pe_callTy call_int1 (by rfl) T.m_int (by decide +kernel) (pa_cons (pe_op op_add (pv 3) (pe_op op_mul pe_int (pv 7))) pa_nil)) pe_int) (fun _ _ => rfl))))))) pss_nil)
    (pss_one (ps_ret (pe_lc (own := [("_law_k", 7)]) (g := gName 7) (tt := tYes) rfl sc__law_names.nd (pi_range1 (by rfl) T.m_range (pa_cons (pv 1) pa_nil)) (blkOk_by (N := N__law_names) (sc := defScope s__law_names) (by decide +kernel)) (fun _ _ _ _ _ => pg_name (i := 7) sc__law_names.nd rfl (Or.inl rfl)) (fun _ _ _ _ _ => pts_nil) (fun _ _ _ _ _ => (pe_op op_add_str (pe_ix ix_str (pv 4) (pe_op op_mod (pe_callTy call_int1 (by rfl) T.m_int (by decide +kernel) (pa_cons (pe_op op_add (pv 3) (pe_op op_mul pe_int (pv 7))) pa_nil)) pe_int) (fun _ _ => rfl)) (pe_slice sl_str (pv 5) po_none (po_some (pe_op op_mul (pv 6) (pe_op op_mod (pv 7) pe_int))))))))))))))), ?_⟩
    repeat array_get_dec
    refine go_take (Drw.refl hb) (by omega) (by omega) (by omega) fun r1 H1 l1 u1 d1 k1 => ?_
    repeat array_get_dec
    refine go_take d1 (by omega) (by omega) (by omega) fun r2 H2 l2 u2 d2 k2 => ?_
    repeat array_get_dec
    refine ⟨by show 2 ≤ sizeLine; decide, fun p np => ?_⟩
    generalize hG : upd H2 p _ = H3
    obtain ⟨hp, e3, s3, d3⟩ := d2.gen np hG
    clear hG
    obtain ⟨fi, rfl⟩ := Int.eq_ofNat_of_zero_le l2
    obtain ⟨way, rfl⟩ := Int.eq_ofNat_of_zero_le l1
    have hfi : fi < 26 := by omega
    repeat array_get_dec
    refine ⟨p, _, rfl, SqT.of e3, rfl, ?_⟩
    repeat array_get_dec
    refine ⟨⟨_, rfl⟩, ?_⟩
    repeat array_get_dec
    intro D nD
    have hDb := d3.ne nD
    have hDn := d3.free hDb nD
    refine lc_range (lo := 0) (fun j H' => Drw H H' b (n + 2) ∧ H' D = some (.lst (((List.range j).map fun k => 97 + (fi + 5 * k) % 26).map fun c => V.str (mkS [c])))) ⟨d3.new nD, upd_same⟩ (fun j H' hj hP => ?_) (fun H' hP => ?_)
    · obtain ⟨dj, hD⟩ := hP
      have hj : j < 8 := hj
      refine ⟨rfl, tyes ?_⟩
      repeat array_get_dec
      refine .inl ⟨_, rfl, ?_⟩
      repeat array_get_dec
      refine go_ixS (j := (fi + 5 * j) % 26) (by decide) ?_ (lets_at (Nat.mod_lt _ (by decide))) ?_
      · rw [Int.zero_add]
        push_cast
        rfl
      refine ⟨_, hD, ?_, dj.at hDb hDn, ?_⟩
      · rw [List.length_map, List.length_map, List.length_range]
        exact small1000 (by omega)
      · rw [upd_same, List.range_succ, List.map_append, List.map_append]
        rfl
    obtain ⟨d4, hD⟩ := hP
    have hbl : ∀ c ∈ ((List.range 8).map fun k => 97 + (fi + 5 * k) % 26), NL9.Let c := fun c hc => by
      obtain ⟨k, _, rfl⟩ := List.mem_map.mp hc
      have := Nat.mod_lt (fi + 5 * k) (show 0 < 26 by decide)
      exact ⟨by omega, by omega⟩
    have hb8 : ((List.range 8).map fun k => 97 + (fi + 5 * k) % 26).length = 8 := by rw [List.length_map, List.length_range]
    have hD : H' D = some (.lst (((((List.range 8).map fun k => 97 + (fi + 5 * k) % 26)).map fun c => mkS [c]).map V.str)) := by
      rw [List.map_map]
      exact hD
    generalize ((List.range 8).map fun k => 97 + (fi + 5 * k) % 26) = bs at hbl hb8 hD
    refine ⟨_, D, _, rfl, rfl, .inl (SqL.of hD), ?_, ?_⟩
    · rw [List.length_map]
      show _ + _ * 0 ≤ _
      have : ((bs.map fun c => mkS [c]).map (·.length)).sum = bs.length := sum_signs bs
      omega
    rw [mkS_join]
    clear hD
    repeat array_get_dec
    refine iteJ (fun h0 => ?a) (fun h0 => ?b)
    case' a =>
      repeat array_get_dec
      refine iteJ (fun h9 => ?c) (fun h9 => ?d)
    case c =>
      have h9 : m < 9 := by omega
      repeat array_get_dec
      intro D2 nD2
      have hD2b := d4.ne nD2
      have hD2n := d4.free hD2b nD2
      refine lc_range (lo := 0) (fun j H2 => Drw H H2 b (n + 2) ∧ H2 D2 = some (.lst (((nmA bs j).map mkS).map V.str))) ⟨d4.new nD2, upd_same⟩ (fun j H2 hj hP => ?_) (fun H2 hP => ?_)
      · obtain ⟨dj, e2⟩ := hP
        have hj : j < m := hj
        refine ⟨rfl, tyes ?_⟩
        repeat array_get_dec
        refine ⟨_, rfl, by rw [mkS_len, hb8]; decide, ?_⟩
        rw [show (0 + (j : Int)) + 1 = ((j + 1 : Nat) : Int) by omega, mkS_to]
        refine ⟨_, e2, ?_, dj.at hD2b hD2n, ?_⟩
        · unfold nmA
          rw [List.length_map, List.length_map, List.length_map, List.length_range]
          exact small1000 (by omega)
        · rw [upd_same]
          unfold nmA
          rw [List.range_succ, List.map_append, List.map_append, List.map_append]
          rfl
      obtain ⟨d5, e5⟩ := hP
      have e5 : H2 D2 = some (.lst (((nmA bs m).map mkS).map V.str)) := e5
      have hla : (nmA bs m).length = m := by unfold nmA; rw [List.length_map, List.length_range]
      repeat array_get_dec
      refine ⟨b, D2, _, _, rfl, d5.box, SqL.of e5, by rw [List.length_map, List.length_map, hla]; omega, by omega, fun p H6 ys d6 np6 ep6 hys => ?_⟩
      obtain ⟨ms, rfl, hms⟩ := perm_textsM hys
      have d26 : Drw H H6 b (n + 30) := (d5.cat d6).le (by rw [List.length_map, List.length_map, hla]; omega)
      exact q p H6 ms d26 (d5.free (d5.ne np6) np6) ep6 (by rw [hms.length_eq, List.length_map, hla]) (Labs.perm (labs_of (nmA_ok hb8 (by omega) hbl)) hms)
    all_goals (
      repeat array_get_dec
      refine go_take d4 (by omega) (by omega) (by omega) fun r7 H7 l7 u7 d7 k7 => ?_
      obtain ⟨sz, rfl⟩ := Int.eq_ofNat_of_zero_le l7
      repeat array_get_dec
      refine iteJ (fun h1 => ?_) (fun h1 => ?_)
      · repeat array_get_dec
        intro D2 nD2
        have hD2b := d7.ne nD2
        have hD2n := d7.free hD2b nD2
        refine lc_range (lo := 0) (fun j H2 => Drw H H2 b (n + 3) ∧ H2 D2 = some (.lst (((nmB bs fi sz j).map mkS).map V.str))) ⟨d7.new nD2, upd_same⟩ (fun j H2 hj hP => ?_) (fun H2 hP => ?_)
        · obtain ⟨dj, e2⟩ := hP
          have hj : j < m := hj
          refine ⟨rfl, tyes ?_⟩
          repeat array_get_dec
          refine ⟨_, rfl, by rw [mkS_len, hb8]; decide, ?_⟩
          rw [mkS_to]
          repeat array_get_dec
          refine .inl ⟨_, rfl, ?_⟩
          repeat array_get_dec
          refine go_ixS (j := (fi + 7 * j) % 26) (by decide) ?_ (lets_at (Nat.mod_lt _ (by decide))) ?_
          · rw [Int.zero_add]
            push_cast
            rfl
          refine ⟨_, _, rfl, rfl, ?_, ?_⟩
          · show (mkS (bs.take sz)).length + (mkS [97 + (fi + 7 * j) % 26]).length ≤ sizeLine
            rw [mkS_len, mkS_len, List.length_take]
            exact Nat.le_of_lt (small1000 (show _ + 1 ≤ 1000 by omega))
          refine ⟨_, e2, ?_, dj.at hD2b hD2n, ?_⟩
          · unfold nmB
            rw [List.length_map, List.length_map, List.length_map, List.length_range]
            exact small1000 (by omega)
          · rw [upd_same]
            unfold nmB
            rw [List.range_succ, List.map_append, List.map_append, List.map_append]
            show _ = some (HO.lst (_ ++ [V.str (mkS (bs.take sz ++ [sg7 fi j]))]))
            rw [← mkS_app]
            rfl
        obtain ⟨d8, e8⟩ := hP
        have e8 : H2 D2 = some (.lst (((nmB bs fi sz m).map mkS).map V.str)) := e8
        refine q D2 H2 _ (d8.le (by omega)) hD2n e8 ?_ (labs_of (nmB_ok hfi (by omega) hm2 hbl))
        unfold nmB
        rw [List.length_map, List.length_map, List.length_range]
      · repeat array_get_dec
        intro D2 nD2
        have hD2b := d7.ne nD2
        have hD2n := d7.free hD2b nD2
        refine lc_range (lo := 0) (fun j H2 => Drw H H2 b (n + 3) ∧ H2 D2 = some (.lst (((nmC bs fi sz j).map mkS).map V.str))) ⟨d7.new nD2, upd_same⟩ (fun j H2 hj hP => ?_) (fun H2 hP => ?_)
        · obtain ⟨dj, e2⟩ := hP
          have hj : j < m := hj
          refine ⟨rfl, tyes ?_⟩
          repeat array_get_dec
          refine .inl ⟨_, rfl, ?_⟩
          repeat array_get_dec
          refine go_ixS (j := (fi + 7 * j) % 26) (by decide) ?_ (lets_at (Nat.mod_lt _ (by decide))) ?_
          · rw [Int.zero_add]
            push_cast
            rfl
          repeat array_get_dec
          refine ⟨_, rfl, by rw [mkS_len, hb8]; decide, ?_⟩
          rw [show (sz : Int) * ((0 + (j : Int)) % 2) = ((sz * (j % 2) : Nat) : Int) by push_cast; rw [Int.zero_add], mkS_to]
          refine ⟨_, _, rfl, rfl, ?_, ?_⟩
          · show (mkS [97 + (fi + 7 * j) % 26]).length + (mkS (bs.take (sz * (j % 2)))).length ≤ sizeLine
            rw [mkS_len, mkS_len, List.length_take]
            exact Nat.le_of_lt (small1000 (show 1 + _ ≤ 1000 by omega))
          refine ⟨_, e2, ?_, dj.at hD2b hD2n, ?_⟩
          · unfold nmC
            rw [List.length_map, List.length_map, List.length_map, List.length_range]
            exact small1000 (by omega)
          · rw [upd_same]
            unfold nmC
            rw [List.range_succ, List.map_append, List.map_append, List.map_append]
            show _ = some (HO.lst (_ ++ [V.str (mkS ([sg7 fi j] ++ bs.take (sz * (j % 2))))]))
            rw [← mkS_app]
            rfl
        obtain ⟨d8, e8⟩ := hP
        have e8 : H2 D2 = some (.lst (((nmC bs fi sz m).map mkS).map V.str)) := e8
        refine q D2 H2 _ (d8.le (by omega)) hD2n e8 ?_ (labs_of (nmC_ok hfi (by omega) hm2 hbl))
        unfold nmC
        rw [List.length_map, List.length_map, List.length_range])
abbrev N__law_height : List Str := ["_law_box_here", "_law_way", "_law_small"]
theorem sc__law_height : FnScope N__law_height ["_law_box_here", "_law_way"] (defScope s__law_height) := ⟨rfl, rfl, rfl, by decide +kernel, rfl, by decide +kernel, by decide +kernel⟩
theorem ok__law_height {f : Addr} {fd : FuncData}  (F : Fun K "_law_height" "_law_height" s__law_height f fd) (T : Txt K mg) (C__law_take : Cal P w K mg base "_law_take" 1 ["_law_box_here", "_law_many"] spTake) : FnOk P w K mg base CX0 2 f fd ["_law_box_here", "_law_way"] spHeightM := by
  refine F.ok sc__law_height (fun vs H Q E h => ?_) (fun cdv A outer s H vs Q E hr h => ?_)
  · obtain ⟨b, wy, n, rfl, hb, hw0, hw1, hn, q⟩ := h
    rfl
  · obtain ⟨b, wy, n, rfl, hb, hw0, hw1, hn, q⟩ := h
    refine ⟨_, (pss_cons (ps_set (i := 2) sc__law_height.nd rfl (.inl rfl) (pe_cal C__law_take (hr.mono (by decide)) (by rfl) (pa_cons (pv 0) (pa_cons pe_int pa_nil))))
    (pss_cons (ps_if (pt_cmpR op_eq (pv 1) pe_int (nomark _)) (pss_one (ps_ret (pv 2))) pss_nil)
    (pss_cons (ps_if (pt_cmpR op_eq (pv 1) pe_int (nomark _)) (pss_one (ps_ret (pe_op op_add (pe_op op_sub (pe_op op_mul pe_int (pv 2)) pe_int) (pe_cal C__law_take (hr.mono (by decide)) (by rfl) (pa_cons (pv 0) (pa_cons pe_int pa_nil)))))) pss_nil)
    (pss_cons (ps_if (pt_cmpR op_eq (pv 1) pe_int (nomark _)) (pss_one (ps_ret (pe_ix ix_list (pe_lst (pa_cons (pe_un un_neg (pe_op op_pow pe_int pe_int)) (pa_cons (pe_op op_pow pe_int pe_int) (pa_cons pe_int (pa_cons pe_int (pa_cons (pe_op op_sub (pe_op op_pow pe_int pe_int) pe_int) (pa_cons (pe_op op_sub pe_int (pe_op op_pow pe_int pe_int)) pa_nil))))))) (pv 2) (fun _ _ => rfl)))) pss_nil)
    (pss_one (ps_ret (pe_op op_mod (pe_callTy call_int1 (by rfl) T.m_int (by decide +kernel) (pa_cons (pv 2) pa_nil)) pe_int))))))), ?_⟩
    repeat array_get_dec
    refine go_take (Drw.refl hb) (by omega) (by omega) (by omega) fun r1 H1 l1 u1 d1 k1 => ?_
    repeat array_get_dec
    refine iteJ (fun h0 => ?_) (fun h0 => ?_)
    · repeat array_get_dec
      exact q r1 H1 (d1.le (by omega)) (by unfold MH; omega) (by unfold MH; omega)
    repeat array_get_dec
    refine iteJ (fun h1 => ?_) (fun h1 => ?_)
    · repeat array_get_dec
      refine go_take d1 (by omega) (by omega) (by omega) fun r2 H2 l2 u2 d2 k2 => ?_
      repeat array_get_dec
      exact q (1000 * r1 - 2500 + r2) H2 (d2.le (by omega)) (by unfold MH; omega) (by unfold MH; omega)
    repeat array_get_dec
    refine iteJ (fun h2 => ?_) (fun h2 => ?_)
    · repeat array_get_dec
      refine ⟨by show 6 ≤ sizeLine; decide, fun p np => ?_⟩
      generalize hG : upd H1 p _ = H2
      obtain ⟨hp, e2, s2, d2⟩ := d1.gen np hG
      clear hG
      repeat array_get_dec
      obtain ⟨k1, rfl⟩ := Int.eq_ofNat_of_zero_le l1
      obtain ⟨z, hz, hz1, hz2⟩ : ∃ z, ([V.int (-10 ^ Int.toNat 12), V.int (10 ^ Int.toNat 12), V.int 0, V.int 1, V.int (10 ^ Int.toNat 12 - 1), V.int (1 - 10 ^ Int.toNat 12)])[k1]? = some (.int z) ∧ -MH ≤ z ∧ z ≤ MH := by
        have hj : k1 < 6 := by omega
        match k1, hj with
        | 0, _ => exact ⟨_, rfl, by decide +kernel, by decide +kernel⟩
        | 1, _ => exact ⟨_, rfl, by decide +kernel, by decide +kernel⟩
        | 2, _ => exact ⟨_, rfl, by decide +kernel, by decide +kernel⟩
        | 3, _ => exact ⟨_, rfl, by decide +kernel, by decide +kernel⟩
        | 4, _ => exact ⟨_, rfl, by decide +kernel, by decide +kernel⟩
        | 5, _ => exact ⟨_, rfl, by decide +kernel, by decide +kernel⟩
      refine go_ixL (SqL.of e2) rfl hz ?_
      exact q z H2 (d2.le (by omega)) hz1 hz2
    repeat array_get_dec
    refine .inl ⟨_, rfl, ?_⟩
    repeat array_get_dec
    have := Int.emod_nonneg r1 (show (2 : Int) ≠ 0 by decide)
    have := Int.emod_lt_of_pos r1 (show (0 : Int) < 2 by decide)
    exact q _ H1 (d1.le (by omega)) (by unfold MH; omega) (by unfold MH; omega)
end
end
end
end K23

namespace K23
open PySem PySem.Spec PyProof.Rows L2 L9
section
local macro_rules | `(tactic| array_get_dec) => `(tactic| first
  | with_reducible refine w_methK ?_
  | with_reducible refine w_items ?_
  | with_reducible refine w_iSeq ?_
  | with_reducible refine w_iKeys ?_
  | with_reducible refine w_orT ?_
  | with_reducible refine w_calN ?_)
section
local macro_rules | `(tactic| array_get_dec) => `(tactic| with_reducible refine w_gN (by first | (dsimp only [List.set_cons_zero, List.set_cons_succ]; done) | rfl) ?_)
section
variable {P : Program} {w : World} {K : PySem.W.Frag} {mg : Str → Option Value} {base : Heap}
abbrev N__law_model : List Str := ["_law_box_here", "_law_most", "_law_many", "_law_names_here", "_law_way", "_law_shape", "_law_model_here", "_law_drains", "_law_wide", "_law_k", "_law_name", "_law_one", "_law_other", "_law_least", "_law_far", "_law_lap", "_law_a", "_law_b"]
theorem sc__law_model : FnScope N__law_model ["_law_box_here", "_law_most"] (defScope s__law_model) := ⟨rfl, rfl, rfl, by decide +kernel, rfl, by decide +kernel, by decide +kernel⟩
theorem ok__law_model {f : Addr} {fd : FuncData}  (F : Fun K "_law_model" "_law_model" s__law_model f fd) (T : Txt K mg) (C__law_take : Cal P w K mg base "_law_take" 1 ["_law_box_here", "_law_many"] spTake) (C__law_names : Cal P w K mg base "_law_names" 3 ["_law_box_here", "_law_many"] spNamesM) (C__law_height : Cal P w K mg base "_law_height" 2 ["_law_box_here", "_law_way"] spHeightM) : FnOk P w K mg base CX0 4 f fd ["_law_box_here", "_law_most"] spModelF := by
  refine F.ok sc__law_model (fun vs H Q E h => ?_) (fun cdv A outer s H vs Q E hr h => ?_)
  · obtain ⟨b, m, n, rfl, hb, hm1, hm2, hn, q⟩ := h
    rfl
  · obtain ⟨b, m, n, rfl, hb, hm1, hm2, hn, q⟩ := h
    refine ⟨_, (pss_cons (ps_set (i := 2) sc__law_model.nd rfl (.inl rfl) (pe_op op_add pe_int (pe_cal C__law_take (hr.mono (by decide)) (by rfl) (pa_cons (pv 0) (pa_cons (pv 1) pa_nil)))))
    (pss_cons (ps_par3 (i := 3) (j := 4) (l := 5) (by rfl) sc__law_model.nd rfl rfl rfl (by decide) (by decide) (by decide) rfl rfl rfl (pa_cons (pe_cal C__law_names (hr.mono (by decide)) (by rfl) (pa_cons (pv 0) (pa_cons (pv 2) pa_nil))) (pa_cons (pe_cal C__law_take (hr.mono (by decide)) (by rfl) (pa_cons (pv 0) (pa_cons pe_int pa_nil))) (pa_cons (pe_cal C__law_take (hr.mono (by decide)) (by rfl) (pa_cons (pv 0) (pa_cons pe_int pa_nil))) pa_nil))) (by rfl))
    (pss_cons (ps_set (i := 6) sc__law_model.nd rfl (.inl rfl) (pe_disp (pps_cons pe_str pe_dnewK (pps_cons pe_str pe_dnewK (pps_cons pe_str (pe_lst pa_nil) (pps_cons pe_str (pe_lst pa_nil) pps_nil)))) (by rfl) (by rfl) (by simp) (by decide)))
    (pss_cons (ps_par (i := 7) (j := 8) (by rfl) sc__law_model.nd rfl rfl (by decide) rfl rfl (pa_cons (pe_cal C__law_take (hr.mono (by decide)) (by rfl) (pa_cons (pv 0) (pa_cons pe_int pa_nil))) (pa_cons (pe_ix ix_list (pe_lst (pa_cons pe_int (pa_cons pe_int (pa_cons pe_int (pa_cons pe_int pa_nil))))) (pe_cal C__law_take (hr.mono (by decide)) (by rfl) (pa_cons (pv 0) (pa_cons pe_int pa_nil))) (fun _ _ => rfl)) pa_nil)) (by rfl))
    (pss_cons (ps_for PassesOwn.never rfl (pi_enum (by rfl) T.m_enumerate (pa_cons (pv 3) pa_nil)) (pg_tup rfl (pgs_cons (pg_name (i := 9) sc__law_model.nd rfl (.inl rfl)) (pgs_cons (pg_name (i := 10) sc__law_model.nd rfl (.inl rfl)) pgs_nil)))
    (pss_cons (ps_par (i := 11) (j := 12) (by rfl) sc__law_model.nd rfl rfl (by decide) rfl rfl (pa_cons (pe_cal C__law_height (hr.mono (by decide)) (by rfl) (pa_cons (pv 0) (pa_cons (pv 4) pa_nil))) (pa_cons (pe_cal C__law_height (hr.mono (by decide)) (by rfl) (pa_cons (pv 0) (pa_cons (pv 4) pa_nil))) pa_nil)) (by rfl))
    (pss_cons (ps_par (i := 13) (j := 1) (by rfl) sc__law_model.nd rfl rfl (by decide) rfl rfl (pa_cons (pe_callB (call_min2 rfl) (by rfl) T.m_min (by decide +kernel) (pa_cons (pv 11) (pa_cons (pv 12) pa_nil))) (pa_cons (pe_callB (call_max2 rfl) (by rfl) T.m_max (by decide +kernel) (pa_cons (pv 11) (pa_cons (pv 12) pa_nil))) pa_nil)) (by rfl))
    (pss_cons (ps_if (pt_cmpR op_lt (pv 8) pe_int (nomark _)) (pss_one (ps_set (i := 1) sc__law_model.nd rfl (.inl rfl) (pe_callB (call_min2 rfl) (by rfl) T.m_min (by decide +kernel) (pa_cons (pe_op op_pow pe_int pe_int) (pa_cons (pe_op op_add (pv 13) (pe_cal C__law_take (hr.mono (by decide)) (by rfl) (pa_cons (pv 0) (pa_cons (pe_op op_add pe_int (pv 8)) pa_nil)))) pa_nil))))) pss_nil)
    (pss_cons (ps_asg (pe_tup (pa_cons (pv 13) (pa_cons (pv 1) pa_nil))) (pg_tup rfl (pgs_cons (pg_sub (pe_dget (hu_of hr) (pv 6) pe_str (fun _ _ => rfl)) (pv 10) (set_dict (hu_of hr))) (pgs_cons (pg_sub (pe_dget (hu_of hr) (pv 6) pe_str (fun _ _ => rfl)) (pv 10) (set_dict (hu_of hr))) pgs_nil))))
    (pss_cons (ps_set (i := 14) sc__law_model.nd rfl (.inl rfl) (pe_ix ix_list (pe_lst (pa_cons (pe_op op_sub (pv 9) pe_int) (pa_cons (pe_cal C__law_take (hr.mono (by decide)) (by rfl) (pa_cons (pv 0) (pa_cons (pe_callB (call_max2 rfl) (by rfl) T.m_max (by decide +kernel) (pa_cons pe_int (pa_cons (pv 9) pa_nil))) pa_nil))) (pa_cons pe_int (pa_cons (pe_cal C__law_take (hr.mono (by decide)) (by rfl) (pa_cons (pv 0) (pa_cons (pe_op op_add (pe_op op_mul pe_int (pv 9)) pe_int) pa_nil))) (pa_cons (pv 9) pa_nil)))))) (pv 5) (fun _ _ => rfl)))
    (pss_cons (ps_if (pt_chain op_le op_lt pe_int (pv 14) (pv 9)) (pss_one (ps_expr (pe_bm PySem.F.plainAttrs_list PySem.F.slot_list_append PySem.F.type_list_append mtr_append (pe_dget (hu_of hr) (pv 6) pe_str (fun _ _ => rfl)) (pa_cons (pe_tup (pa_cons (pe_ix ix_list (pv 3) (pv 14) (fun _ _ => rfl)) (pa_cons (pv 10) pa_nil))) pa_nil)))) pss_nil)
    (pss_one (ps_if (PW.pt (pw_or (PW.pt (pw_and (pt_cmpR op_eq (pv 7) pe_int (nomark _)) (pw_and1 (pt_cmpR op_eq (pe_cal C__law_take (hr.mono (by decide)) (by rfl) (pa_cons (pv 0) (pa_cons pe_int pa_nil))) pe_int (nomark _))))) (pw_or1 (PW.pt (pw_and (pt_cmpR op_eq (pv 7) pe_int (nomark _)) (pw_and1 (pt_cmpR op_eq (pv 9) pe_int (nomark _)))))))) (pss_one (ps_expr (pe_bm PySem.F.plainAttrs_list PySem.F.slot_list_append PySem.F.type_list_append mtr_append (pe_dget (hu_of hr) (pv 6) pe_str (fun _ _ => rfl)) (pa_cons (pv 10) pa_nil)))) pss_nil)))))))))
    (pss_cons (ps_for PassesOwn.never rfl (pi_range1 (by rfl) T.m_range (pa_cons (pe_cal C__law_take (hr.mono (by decide)) (by rfl) (pa_cons (pv 0) (pa_cons pe_int pa_nil))) pa_nil)) (pg_name (i := 15) sc__law_model.nd rfl (.inl rfl))
    (pss_cons (ps_par (i := 16) (j := 17) (by rfl) sc__law_model.nd rfl rfl (by decide) rfl rfl (pa_cons (pe_ix ix_list (pv 3) (pe_cal C__law_take (hr.mono (by decide)) (by rfl) (pa_cons (pv 0) (pa_cons (pv 2) pa_nil))) (fun _ _ => rfl)) (pa_cons (pe_ix ix_list (pv 3) (pe_cal C__law_take (hr.mono (by decide)) (by rfl) (pa_cons (pv 0) (pa_cons (pv 2) pa_nil))) (fun _ _ => rfl)) pa_nil)) (by rfl))
    (pss_one (ps_if (PW.pt (pw_and (pt_cmpR op_ne (pv 16) (pv 17) (nomark _)) (pw_and (pt_cmpR (op_notInT (α := Str × Str) (huD hr (by decide))) (pe_tup (pa_cons (pv 16) (pa_cons (pv 17) pa_nil))) (pe_dget (hu_of hr) (pv 6) pe_str (fun _ _ => rfl)) (by rfl)) (pw_and1 (pt_cmpR (op_notInT (α := Str × Str) (huD hr (by decide))) (pe_tup (pa_cons (pv 17) (pa_cons (pv 16) pa_nil))) (pe_dget (hu_of hr) (pv 6) pe_str (fun _ _ => rfl)) (by rfl)))))) (pss_one (ps_expr (pe_bm PySem.F.plainAttrs_list PySem.F.slot_list_append PySem.F.type_list_append mtr_append (pe_dget (hu_of hr) (pv 6) pe_str (fun _ _ => rfl)) (pa_cons (pe_tup (pa_cons (pv 16) (pa_cons (pv 17) pa_nil))) pa_nil)))) pss_nil))))
    (pss_one (ps_ret (pv 6))))))))), ?_⟩
    repeat array_get_dec
    refine go_take (Drw.refl hb) (by omega) (by omega) (by omega) fun r1 H1 l1 u1 d1 k1 => ?_
    obtain ⟨mm, rfl⟩ := Int.eq_ofNat_of_zero_le l1
    repeat array_get_dec
    refine ⟨b, 1 + mm, n + 1, by rw [show (1 : Int) + (mm : Int) = ((1 + mm : Nat) : Int) by omega]; rfl, d1.box, by omega, by omega, by omega, fun np H2 labs d2 nnp enp hlen hlabs => ?_⟩
    have D2 := d1.cat d2
    have hnpb : np ≠ b := d1.ne nnp
    repeat array_get_dec
    refine go_take D2 (by omega) (by omega) (by omega) fun r3 H3 l3 u3 d3 k3 => ?_
    repeat array_get_dec
    refine go_take d3 (by omega) (by omega) (by omega) fun r4 H4 l4 u4 d4 k4 => ?_
    repeat array_get_dec
    have enp4 := k4 _ _ hnpb (k3 _ _ hnpb enp)
    intro mp nmp
    have hmb : mp ≠ b := d4.ne nmp
    repeat array_get_dec
    generalize hG : upd H4 mp _ = H5
    obtain ⟨_, emp, s5, d5⟩ := d4.gen nmp hG
    clear hG
    refine fun lp nlp => ?_
    generalize hG : upd H5 lp _ = H6
    obtain ⟨hlb, elp, s6, d6⟩ := d5.gen nlp hG
    clear hG
    refine fun hp nhp => ?_
    generalize hG : upd H6 hp _ = H7
    obtain ⟨hhb, ehp, s7, d7⟩ := d6.gen nhp hG
    clear hG
    refine ⟨Nat.zero_le _, fun tp ntp => ?_⟩
    generalize hG : upd H7 tp _ = H8
    obtain ⟨htb, etp, s8, d8⟩ := d7.gen ntp hG
    clear hG
    refine ⟨Nat.zero_le _, fun op nop => ?_⟩
    generalize hG : upd H8 op _ = H9
    obtain ⟨hob, eop, s9, d9⟩ := d8.gen nop hG
    clear hG
    have s59 := ((s6.trans s7).trans s8).trans s9
    refine ⟨s59 _ _ emp, [(kS "low", .ref lp), (kS "high", .ref hp), (kS "ties", .ref tp), (kS "outlets", .ref op)], rfl, by show 4 ≤ 15; decide, ?_⟩
    generalize hG : upd H9 mp _ = H10
    have emp10 : H10 mp = some (.dK [(kS "low", .ref lp), (kS "high", .ref hp), (kS "ties", .ref tp), (kS "outlets", .ref op)]) := by
      rw [← hG, upd_same]
      rfl
    have d10 : Drw H H10 b (n + 100) := hG ▸ (d9.at hmb (d4.free hmb nmp)).le (by omega)
    have hml : mp ≠ lp := ne_of_none emp nlp
    have hmh : mp ≠ hp := ne_of_none (s6 _ _ emp) nhp
    have hmt : mp ≠ tp := ne_of_none (s7 _ _ (s6 _ _ emp)) ntp
    have hmo : mp ≠ op := ne_of_none (s8 _ _ (s7 _ _ (s6 _ _ emp))) nop
    have hlh : lp ≠ hp := ne_of_none elp nhp
    have hlt : lp ≠ tp := ne_of_none (s7 _ _ elp) ntp
    have hlo : lp ≠ op := ne_of_none (s8 _ _ (s7 _ _ elp)) nop
    have hht : hp ≠ tp := ne_of_none ehp ntp
    have hho : hp ≠ op := ne_of_none (s8 _ _ ehp) nop
    have hto : tp ≠ op := ne_of_none etp nop
    have elp10 : H10 lp = some (.dK []) := by rw [← hG, upd_ne hml.symm]; exact s9 _ _ (s8 _ _ (s7 _ _ elp))
    have ehp10 : H10 hp = some (.dK []) := by rw [← hG, upd_ne hmh.symm]; exact s9 _ _ (s8 _ _ ehp)
    have etp10 : H10 tp = some (.lst []) := by rw [← hG, upd_ne hmt.symm]; exact s9 _ _ etp
    have eop10 : H10 op = some (.lst []) := by rw [← hG, upd_ne hmo.symm]; exact eop
    have enp10 : H10 np = some (.lst (labs.map V.str)) := by
      rw [← hG, upd_ne (ne_of_none enp4 nmp)]
      exact s59 _ _ (s5 _ _ enp4)
    have hnm : np ≠ mp := ne_of_none enp4 nmp
    have hnl : np ≠ lp := ne_of_none (s5 _ _ enp4) nlp
    have hnh : np ≠ hp := ne_of_none (s6 _ _ (s5 _ _ enp4)) nhp
    have hnt : np ≠ tp := ne_of_none (s7 _ _ (s6 _ _ (s5 _ _ enp4))) ntp
    have hno : np ≠ op := ne_of_none (s8 _ _ (s7 _ _ (s6 _ _ (s5 _ _ enp4)))) nop
    have f4 := d4
    clear hG
    repeat array_get_dec
    refine go_take d10 (by omega) (by omega) (by omega) fun r5 H11 l5 u5 d11 k11 => ?_
    repeat array_get_dec
    refine ⟨by show 4 ≤ sizeLine; decide, fun q4 nq4 => ?_⟩
    generalize hG : upd H11 q4 _ = H12
    obtain ⟨hq4, eq4, s12, d12⟩ := d11.gen nq4 hG
    clear hG
    repeat array_get_dec
    refine go_take d12 (by omega) (by omega) (by omega) fun r6 H13 l6 u6 d13 k13 => ?_
    obtain ⟨k6, rfl⟩ := Int.eq_ofNat_of_zero_le l6
    obtain ⟨wd, hwd, hwd0, hwd7⟩ : ∃ z, ([V.int 0, V.int 1, V.int 3, V.int 7])[k6]? = some (.int z) ∧ 0 ≤ z ∧ z ≤ 7 := by
      have hj : k6 < 4 := by omega
      match k6, hj with
      | 0, _ => exact ⟨_, rfl, by decide, by decide⟩
      | 1, _ => exact ⟨_, rfl, by decide, by decide⟩
      | 2, _ => exact ⟨_, rfl, by decide, by decide⟩
      | 3, _ => exact ⟨_, rfl, by decide, by decide⟩
    refine go_ixL (SqL.of (k13 _ _ hq4 eq4)) rfl hwd ?_
    repeat array_get_dec
    have enp13 := k13 _ _ hnpb (s12 _ _ (k11 _ _ hnpb enp10))
    have P13 : Part labs 0 H13 mp lp hp tp op np (fun _ => 0) (fun _ => 0) [] [] [] := ⟨k13 _ _ hmb (s12 _ _ (k11 _ _ hmb emp10)), k13 _ _ hlb (s12 _ _ (k11 _ _ hlb elp10)), k13 _ _ hhb (s12 _ _ (k11 _ _ hhb ehp10)), k13 _ _ htb (s12 _ _ (k11 _ _ htb etp10)), trivial, k13 _ _ hob (s12 _ _ (k11 _ _ hob eop10)), enp13, (fun _ h => nomatch h), (fun _ h => nomatch h), List.Sublist.slnil⟩
    refine w_enum ?_
    repeat array_get_dec
    refine ⟨np, labs.map V.str, rfl, SqL.of enp13, ?_⟩
    refine for_enum (xs := labs.map V.str) (fun i σ H' => ∃ (x1 : Int) (y9 y10 y11 y12 y13 y14 : Option V) (lo hi : Str → Int) (ts : List (Str × Str)) (os : List Str) (vs : List V), σ = [some (.ref b), some (.int x1), some (.int (1 + mm)), some (.ref np), some (.int r3), some (.int r4), some (.ref mp), some (.int r5), some (.int wd), y9, y10, y11, y12, y13, y14, none, none, none] ∧
      Drw H H' b (n + 110 + 8 * i) ∧ Part labs i H' mp lp hp tp op np lo hi ts os vs ∧ ts.length ≤ i)
      ⟨m, none, none, none, none, none, none, _, _, [], [], [], rfl, d13.le (by omega), P13, Nat.le_refl 0⟩ (fun i σ H' _ hP => ?_) (fun i x σ H14 T hx hP hT => ?_) (fun σ H14 hP => ?_)
    · obtain ⟨_, _, _, _, _, _, _, _, _, _, _, _, _, _, hp', _⟩ := hP
      exact SqL.of hp'.n
    · obtain ⟨x1, y9, y10, y11, y12, y13, y14, lo, hi, ts, os, vs, rfl, d14, p14, htl⟩ := hP
      repeat array_get_dec
      rw [List.getElem?_map] at hx
      obtain ⟨z, hz, rfl⟩ : ∃ z, labs[i]? = some z ∧ V.str z = x := by
        cases h : labs[i]? with
        | none => rw [h] at hx; cases hx
        | some z => rw [h] at hx; exact ⟨z, rfl, Option.some.inj hx⟩
      have hil : i < labs.length := get_lt hz
      have hl26 : labs.length ≤ 26 := by omega
      have htk : labs.take (i + 1) = labs.take i ++ [z] := by rw [List.take_add_one, hz]; rfl
      have hzn : z ∉ labs.take i := by
        have h1 : (labs.take (i + 1)).Nodup := hlabs.nd.sublist (List.take_sublist _ _)
        rw [htk, List.nodup_append] at h1
        exact fun hm => h1.2.2 z hm z (List.mem_singleton.mpr rfl) rfl
      generalize hG : upd H14 T _ = H15
      obtain ⟨hTb, eT, s15, d15⟩ := d14.gen hT hG
      clear hG
      have c15 : Drw H14 H15 b (n + 110 + 8 * i) := (Drw.refl d14.box).go s15
      refine ⟨T, _, rfl, SqT.of eT, rfl, ?_⟩
      repeat array_get_dec
      refine ⟨b, r3, n + 110 + 8 * i, rfl, d15.box, l3, by omega, by omega, fun z1 H16 d16 a1 a2 => ?_⟩
      repeat array_get_dec
      refine ⟨b, r3, n + 110 + 8 * i + 2, rfl, d16.box, l3, by omega, by omega, fun z2 H17 d17 a3 a4 => ?_⟩
      have d417 : Drw H14 H17 b (n + 114 + 8 * i) := ((c15.cat d16).cat d17).le (by omega)
      repeat array_get_dec
      refine ⟨_, _, rfl, ?_⟩
      repeat array_get_dec
      refine ⟨_, _, rfl, ?_⟩
      obtain ⟨mn, hmn⟩ : ∃ v : Int, v = (if z2 < z1 then z2 else z1) := ⟨_, rfl⟩
      obtain ⟨mx, hmx⟩ : ∃ v : Int, v = (if z2 > z1 then z2 else z1) := ⟨_, rfl⟩
      rw [← hmn, ← hmx]
      have hmm1 : -MH ≤ mn ∧ mn ≤ mx ∧ mx ≤ MH := by
        rw [hmn, hmx]
        split <;> split <;> omega
      clear hmn hmx
      repeat (first | with_reducible refine w_seqG (fun σ' H' => ∃ hh : Int, σ' = [some (.ref b), some (.int hh), some (.int (1 + mm)), some (.ref np), some (.int r3), some (.int r4), some (.ref mp), some (.int r5), some (.int wd), some (.int (i : Nat)), some (.str z), some (.int z1), some (.int z2), some (.int mn), y14, none, none, none] ∧ Drw H14 H' b (n + 115 + 8 * i) ∧ mn ≤ hh ∧ hh ≤ MH) ?_ ?_ | array_get_dec)
      rotate_left
      · intro U hK
        repeat array_get_dec
        refine iteJ (fun hw => ?_) (fun hw => ?_)
        · repeat array_get_dec
          refine go_take d417 (by omega) (by omega) (by omega) fun r7 H18 l7 u7 d18 k18 => ?_
          repeat array_get_dec
          refine ⟨_, _, rfl, ?_⟩
          have ht12 : (10 : Int) ^ Int.toNat 12 = 1000000000000 := by decide +kernel
          have hMH : MH = 1000000000000 := rfl
          rw [ht12]
          repeat array_get_dec
          refine hK _ _ ⟨_, rfl, d18.le (by omega), ?_, ?_⟩
          · rw [hMH] at hmm1
            split <;> omega
          · rw [hMH]
            split <;> omega
        · repeat array_get_dec
          exact hK _ _ ⟨mx, rfl, d417.le (by omega), hmm1.2.1, hmm1.2.2⟩
      rintro σ' H18 ⟨hh, rfl, d418, hh1, hh2⟩
      repeat array_get_dec
      refine ⟨by show 2 ≤ sizeLine; decide, fun T2 hT2 => ?_⟩
      generalize hG : upd H18 T2 _ = H19
      obtain ⟨hT2b, eT2, s19, d19⟩ := d418.gen hT2 hG
      clear hG
      refine ⟨T2, _, rfl, SqT.of eT2, rfl, ?_⟩
      have p18 : Part labs i H19 mp lp hp tp op np lo hi ts os vs := p14.drw d19 d14.box hmb hlb hhb htb hob hnpb
      repeat array_get_dec
      refine w_gSubM ?_
      repeat array_get_dec
      refine ⟨mp, .ref lp, rfl, md_low p18.m, ?_⟩
      repeat array_get_dec
      refine ⟨lp, _, rfl, DPut.k (k := Sum.inr z) p18.l (by rw [byI_len, List.length_take]; exact small1000 (by omega)), ?_⟩
      rw [putK_at hzn]
      have D19 : Drw H H19 b (n + 115 + 8 * i) := d14.cat d19
      generalize hG : upd H19 lp _ = H20
      have D20 : Drw H H20 b (n + 115 + 8 * i) := hG ▸ D19.at hlb (d5.free hlb nlp)
      have elp20 : H20 lp = some (.dK (byI (labs.take i ++ [z]) fun y => if y = z then mn else lo y)) := by rw [← hG, upd_same]
      have o20 : ∀ p, p ≠ lp → H20 p = H19 p := fun p hp => by rw [← hG, upd_ne hp]
      clear hG
      refine ⟨_, _, rfl, ?_⟩
      refine w_gSubM ?_
      repeat array_get_dec
      refine ⟨mp, .ref hp, rfl, md_high ((o20 mp hml).trans p18.m), ?_⟩
      repeat array_get_dec
      refine ⟨hp, _, rfl, DPut.k (k := Sum.inr z) ((o20 hp hlh.symm).trans p18.h) (by rw [byI_len, List.length_take]; exact small1000 (by omega)), ?_⟩
      rw [putK_at hzn]
      generalize hG : upd H20 hp _ = H21
      have D21 : Drw H H21 b (n + 115 + 8 * i) := hG ▸ D20.at hhb (d6.free hhb nhp)
      have ehp21 : H21 hp = some (.dK (byI (labs.take i ++ [z]) fun y => if y = z then hh else hi y)) := by rw [← hG, upd_same]
      have o21 : ∀ p, p ≠ lp → p ≠ hp → H21 p = H19 p := fun p h1 h2 => by rw [← hG, upd_ne h2]; exact o20 p h1
      have elp21 : H21 lp = some (.dK (byI (labs.take i ++ [z]) fun y => if y = z then mn else lo y)) := by rw [← hG, upd_ne hlh]; exact elp20
      clear hG
      have P21 : Part labs (i + 1) H21 mp lp hp tp op np (fun y => if y = z then mn else lo y) (fun y => if y = z then hh else hi y) ts os vs := by
        refine ⟨(o21 _ hml hmh).trans p18.m, by rw [htk]; exact elp21, by rw [htk]; exact ehp21, (o21 _ hlt.symm hht.symm).trans p18.t, p18.ta.keep fun q xs e => ?_, (o21 _ hlo.symm hho.symm).trans p18.o, (o21 _ hnl hnh).trans p18.n, fun x hx => ?_, p18.tm, htk ▸ p18.os'.trans (List.sublist_append_left _ _)⟩
        · exact (o21 q (fun w => by rw [w, p18.l] at e; cases e) (fun w => by rw [w, p18.h] at e; cases e)).trans e
        · rw [htk] at hx
          by_cases hxz : x = z
          · subst hxz
            show -MH ≤ (if x = x then mn else lo x) ∧ _
            rw [if_pos rfl, if_pos rfl]
            exact ⟨hmm1.1, hh1, hh2⟩
          · have hx2 : x ∈ labs.take i := (List.mem_append.mp hx).elim id fun w => absurd (List.mem_singleton.mp w) hxz
            show -MH ≤ (if x = z then mn else lo x) ∧ _
            rw [if_neg hxz, if_neg hxz]
            exact p18.b x hx2
      repeat array_get_dec
      refine ⟨_, _, rfl, ?_⟩
      repeat array_get_dec
      refine go_take D21 (by split <;> omega) (by split <;> omega) (by omega) fun r8 H22 l8 u8 d22 k22 => ?_
      repeat array_get_dec
      refine go_take d22 (by omega) (by omega) (by omega) fun r9 H23 l9 u9 d23 k23 => ?_
      repeat array_get_dec
      refine ⟨by show 5 ≤ sizeLine; decide, fun fq nfq => ?_⟩
      generalize hG : upd H23 fq _ = H24
      obtain ⟨hfq, efq, s24, d24⟩ := d23.gen nfq hG
      clear hG
      obtain ⟨j4, rfl⟩ := Int.eq_ofNat_of_zero_le l4
      obtain ⟨far, hfar⟩ : ∃ z : Int, ([V.int ((i : Nat) - 1), V.int r8, V.int 0, V.int r9, V.int (i : Nat)])[j4]? = some (.int z) := by
        have hj : j4 < 5 := by omega
        match j4, hj with
        | 0, _ => exact ⟨_, rfl⟩
        | 1, _ => exact ⟨_, rfl⟩
        | 2, _ => exact ⟨_, rfl⟩
        | 3, _ => exact ⟨_, rfl⟩
        | 4, _ => exact ⟨_, rfl⟩
      repeat array_get_dec
      refine go_ixL (SqL.of efq) rfl hfar ?_
      have d2124 : Drw H21 H24 b (n + 117 + 8 * i) := ⟨fun q o hq e => s24 _ _ (k23 _ _ hq (k22 _ _ hq e)), (d24.le (by omega)).box⟩
      have P24 := P21.drw d2124 D21.box hmb hlb hhb htb hob hnpb
      have ST : L2.St := []
      repeat (first | with_reducible refine w_seqG (fun σ' H' => σ' = [some (.ref b), some (.int hh), some (.int (1 + mm)), some (.ref np), some (.int r3), some (.int (j4 : Nat)), some (.ref mp), some (.int r5), some (.int wd), some (.int (i : Nat)), some (.str z), some (.int z1), some (.int z2), some (.int mn), some (.int far), none, none, none] ∧ Drw H H' b (n + 117 + 8 * i) ∧ ∃ (ts2 : List (Str × Str)) (vs2 : List V), Part labs (i + 1) H' mp lp hp tp op np (fun y => if y = z then mn else lo y) (fun y => if y = z then hh else hi y) ts2 os vs2 ∧ ts2.length ≤ i + 1) ?_ ?_ | array_get_dec)
      rotate_left
      · intro U hK
        have no : U [some (.ref b), some (.int hh), some (.int (1 + mm)), some (.ref np), some (.int r3), some (.int (j4 : Nat)), some (.ref mp), some (.int r5), some (.int wd), some (.int (i : Nat)), some (.str z), some (.int z1), some (.int z2), some (.int mn), some (.int far), none, none, none] H24 := hK _ _ ⟨rfl, D21.trans d2124, ts, vs, P24, Nat.le_succ_of_le htl⟩
        repeat array_get_dec
        refine iteJ (fun hf0 => ?_) (fun hf0 => ?_)
        · repeat array_get_dec
          refine iteJ (fun hf1 => ?_) (fun hf1 => ?_)
          · repeat array_get_dec
            refine ⟨mp, .ref tp, rfl, md_ties P24.m, .inl ⟨rfl, _, SqL.of P24.t⟩, ?_⟩
            repeat array_get_dec
            obtain ⟨fj, rfl⟩ := Int.eq_ofNat_of_zero_le hf0
            have hfj : fj < i := by omega
            obtain ⟨x', hx'⟩ : ∃ x, labs[fj]? = some x := ⟨_, List.getElem?_eq_getElem (by omega)⟩
            refine go_ixL (j := fj) (v := .str x') (SqL.of P24.n) rfl (by rw [List.getElem?_map, hx']; rfl) ?_
            repeat array_get_dec
            refine ⟨by show 2 ≤ sizeLine; decide, fun tq ntq => ?_⟩
            generalize hG : upd H24 tq _ = H25
            obtain ⟨htq, etq, s25, d25⟩ := (D21.trans d2124).gen ntq hG
            clear hG
            have P25 := P24.drw ((Drw.refl d2124.box).go s25) d2124.box hmb hlb hhb htb hob hnpb
            have hxz : x' ≠ z := fun w => hzn (by
              rw [← w]
              exact List.mem_of_getElem? (i := fj) (by rw [List.getElem?_take, if_pos hfj]; exact hx'))
            have htq2 : tq ≠ tp := fun w => by rw [w, P24.t] at ntq; cases ntq
            refine ⟨tp, _, _, rfl, rfl, P25.t, by rw [P25.ta.length]; exact small1000 (by omega), ?_⟩
            refine hK _ _ ⟨rfl, d25.at htb (d7.free htb ntp), ts ++ [(x', z)], vs ++ [.ref tq], P25.tie (fun q o hq e => (upd_ne hq).trans e) upd_same ((upd_ne htq2).trans etq) hmt hlt hht hto.symm hnt (List.mem_of_getElem? hx') (List.mem_of_getElem? hz) hxz, ?_⟩
            rw [List.length_append]
            exact Nat.succ_le_succ htl
          · repeat array_get_dec
            exact no
        · repeat array_get_dec
          exact no
      rintro σ' H25 ⟨rfl, D25, ts2, vs2, P25, htl2⟩
      repeat array_get_dec
      refine iteJ (fun e1 => ?_) (fun e1 => ?_)
      · repeat array_get_dec
        refine go_take D25 (by omega) (by omega) (by omega) fun r10 H26 l10 u10 D26 k26 => ?_
        have P26 := P25.drw (⟨k26, D26.box⟩ : Drw H25 H26 b _) D25.box hmb hlb hhb htb hob hnpb
        repeat array_get_dec
        refine iteJ (fun e2 => ?_) (fun e2 => ?_)
        · repeat array_get_dec
          refine ⟨mp, .ref op, rfl, md_outs P26.m, .inl ⟨rfl, _, SqL.of P26.o⟩, ?_⟩
          repeat array_get_dec
          refine ⟨op, _, _, rfl, rfl, P26.o, ?_, ?_⟩
          · rw [List.length_map]
            exact small1000 (Nat.le_trans P26.os'.length_le (by rw [List.length_take]; omega))
          · refine ⟨hh, _, _, _, _, _, _, _, _, ts2, os ++ [z], vs2, rfl, (D26.at hob (d8.free hob nop)).le (by omega), P26.out (fun q o hq e => (upd_ne hq).trans e) (by rw [upd_same, List.map_append]; rfl) hmo hlo hho hto hno ?_, htl2⟩
            rw [htk]
            exact p18.os'.append (List.Sublist.refl _)
        · repeat array_get_dec
          refine iteJ (fun e3 => absurd (e1.symm.trans e3) (by simp)) (fun e3 => ?_)
          repeat array_get_dec
          exact ⟨hh, _, _, _, _, _, _, _, _, ts2, os, vs2, rfl, D26.le (by omega), P26, htl2⟩
      · repeat array_get_dec
        refine iteJ (fun e3 => ?_) (fun e3 => ?_)
        · repeat array_get_dec
          refine iteJ (fun e4 => ?_) (fun e4 => ?_)
          · repeat array_get_dec
            refine ⟨mp, .ref op, rfl, md_outs P25.m, .inl ⟨rfl, _, SqL.of P25.o⟩, ?_⟩
            repeat array_get_dec
            refine ⟨op, _, _, rfl, rfl, P25.o, ?_, ?_⟩
            · rw [List.length_map]
              exact small1000 (Nat.le_trans P25.os'.length_le (by rw [List.length_take]; omega))
            · refine ⟨hh, _, _, _, _, _, _, _, _, ts2, os ++ [z], vs2, rfl, (D25.at hob (d8.free hob nop)).le (by omega), P25.out (fun q o hq e => (upd_ne hq).trans e) (by rw [upd_same, List.map_append]; rfl) hmo hlo hho hto hno ?_, htl2⟩
              rw [htk]
              exact p18.os'.append (List.Sublist.refl _)
          · repeat array_get_dec
            exact ⟨hh, _, _, _, _, _, _, _, _, ts2, os, vs2, rfl, D25.le (by omega), P25, htl2⟩
        · repeat array_get_dec
          exact ⟨hh, _, _, _, _, _, _, _, _, ts2, os, vs2, rfl, D25.le (by omega), P25, htl2⟩
    · obtain ⟨x1, y9, y10, y11, y12, y13, y14, lo, hi, ts, os, vs, rfl, d14, p14, htl⟩ := hP
      rw [List.length_map] at d14 p14 htl
      have hl26 : labs.length ≤ 26 := by omega
      have d14 : Drw H H14 b (n + 320) := d14.le (by omega)
      repeat array_get_dec
      refine go_take d14 (by omega) (by omega) (by omega) fun r20 H20 l20 u20 d20 k20 => ?_
      have p20 := p14.drw (⟨k20, d20.box⟩ : Drw H14 H20 b _) d14.box hmb hlb hhb htb hob hnpb
      repeat array_get_dec
      refine for_range (lo := 0) (fun j σ H' => (∃ y15 y16 y17, σ = [some (.ref b), some (.int x1), some (.int (1 + mm)), some (.ref np), some (.int r3), some (.int r4), some (.ref mp), some (.int r5), some (.int wd), y9, y10, y11, y12, y13, y14, y15, y16, y17]) ∧ Drw H H' b (n + 321 + 2 * j) ∧ ∃ ts2 vs2, Part labs labs.length H' mp lp hp tp op np lo hi ts2 os vs2 ∧ ts2.length ≤ labs.length + j)
        ⟨⟨_, _, _, rfl⟩, d20, ts, vs, p20, htl⟩ (fun j σ H21 hj hP => ?_) (fun σ H21 hP => ?_)
      · obtain ⟨⟨y15, y16, y17, rfl⟩, d21, ts2, vs2, p21, htl2⟩ := hP
        have hj : j < 3 := by
          have h1 : j < Int.toNat r20 := hj
          omega
        repeat array_get_dec
        refine go_take d21 (by omega) (by omega) (by omega) fun ra H22 la ua d22 k22 => ?_
        obtain ⟨ka, rfl⟩ := Int.eq_ofNat_of_zero_le la
        have p22 := p21.drw (⟨k22, d22.box⟩ : Drw H21 H22 b _) d21.box hmb hlb hhb htb hob hnpb
        obtain ⟨xa, hxa⟩ : ∃ x, labs[ka]? = some x := ⟨_, List.getElem?_eq_getElem (by omega)⟩
        refine go_ixL (j := ka) (v := .str xa) (SqL.of p22.n) rfl (by rw [List.getElem?_map, hxa]; rfl) ?_
        repeat array_get_dec
        refine go_take d22 (by omega) (by omega) (by omega) fun rb H23 lb ub d23 k23 => ?_
        obtain ⟨kb, rfl⟩ := Int.eq_ofNat_of_zero_le lb
        have p23 := p22.drw (⟨k23, d23.box⟩ : Drw H22 H23 b _) d22.box hmb hlb hhb htb hob hnpb
        obtain ⟨xb, hxb⟩ : ∃ x, labs[kb]? = some x := ⟨_, List.getElem?_eq_getElem (by omega)⟩
        refine go_ixL (j := kb) (v := .str xb) (SqL.of p23.n) rfl (by rw [List.getElem?_map, hxb]; rfl) ?_
        have hma := List.mem_of_getElem? hxa
        have hmb2 := List.mem_of_getElem? hxb
        repeat array_get_dec
        have no : ∀ H', Drw H H' b (n + 321 + 2 * (j + 1)) → Part labs labs.length H' mp lp hp tp op np lo hi ts2 os vs2 → (∃ z15 z16 z17, ((([some (V.ref b), some (.int x1), some (.int (1 + mm)), some (.ref np), some (.int r3), some (.int r4), some (.ref mp), some (.int r5), some (.int wd), y9, y10, y11, y12, y13, y14, some (.int (0 + (j : Int))), y16, y17] : L2.St).set 16 (some (.str xa))).set 17 (some (.str xb))) = [some (.ref b), some (.int x1), some (.int (1 + mm)), some (.ref np), some (.int r3), some (.int r4), some (.ref mp), some (.int r5), some (.int wd), y9, y10, y11, y12, y13, y14, z15, z16, z17]) ∧ Drw H H' b (n + 321 + 2 * (j + 1)) ∧ ∃ ts2 vs2, Part labs labs.length H' mp lp hp tp op np lo hi ts2 os vs2 ∧ ts2.length ≤ labs.length + (j + 1) :=
          fun H' h1 h2 => ⟨⟨_, _, _, rfl⟩, h1, ts2, vs2, h2, by omega⟩
        by_cases hab : xa = xb
        · rw [if_neg (by simp [hab])]
          repeat array_get_dec
          exact no H23 (d23.le (by omega)) p23
        rw [if_pos (by simp [hab])]
        repeat array_get_dec
        refine ⟨by show 2 ≤ sizeLine; decide, fun t1 nt1 => ?_⟩
        generalize hG : upd H23 t1 _ = H24
        obtain ⟨ht1, et1, s24, d24⟩ := d23.gen nt1 hG
        clear hG
        have p24 := p23.drw ((Drw.refl d23.box).go s24) d23.box hmb hlb hhb htb hob hnpb
        repeat array_get_dec
        refine ⟨mp, .ref tp, rfl, md_ties p24.m, ?_⟩
        refine ⟨(xa, xb), ts2, tp, vs2, rfl, SqL.of p24.t, p24.ta.hd, hd_pair (SqT.of et1) (.str xa) (.str xb), ?_⟩
        refine w_isBl ?_
        refine ite_dec (fun h1 => ?_) (fun h1 => ?_)
        rotate_left
        · repeat array_get_dec
          exact no H24 (d24.le (by omega)) p24
        repeat array_get_dec
        refine ⟨by show 2 ≤ sizeLine; decide, fun t2 nt2 => ?_⟩
        generalize hG : upd H24 t2 _ = H25
        obtain ⟨ht2, et2, s25, d25⟩ := d24.gen nt2 hG
        clear hG
        have p25 := p24.drw ((Drw.refl d24.box).go s25) d24.box hmb hlb hhb htb hob hnpb
        repeat array_get_dec
        refine ⟨mp, .ref tp, rfl, md_ties p25.m, ?_⟩
        refine ⟨(xb, xa), ts2, tp, vs2, rfl, SqL.of p25.t, p25.ta.hd, hd_pair (SqT.of et2) (.str xb) (.str xa), ?_⟩
        refine w_isBl ?_
        refine ite_dec (fun h2 => ?_) (fun h2 => ?_)
        rotate_left
        · repeat array_get_dec
          exact no H25 (d25.le (by omega)) p25
        repeat array_get_dec
        refine ⟨mp, .ref tp, rfl, md_ties p25.m, .inl ⟨rfl, _, SqL.of p25.t⟩, ?_⟩
        repeat array_get_dec
        refine ⟨by show 2 ≤ sizeLine; decide, fun t3 nt3 => ?_⟩
        generalize hG : upd H25 t3 _ = H26
        obtain ⟨ht3, et3, s26, d26⟩ := d25.gen nt3 hG
        clear hG
        have p26 := p25.drw ((Drw.refl d25.box).go s26) d25.box hmb hlb hhb htb hob hnpb
        have ht32 : t3 ≠ tp := fun w => by rw [w, p25.t] at nt3; cases nt3
        refine ⟨tp, _, _, rfl, rfl, p26.t, by rw [p26.ta.length]; exact small1000 (by omega), ?_⟩
        refine ⟨⟨_, _, _, rfl⟩, (d26.at htb (d7.free htb ntp)).le (by omega), ts2 ++ [(xa, xb)], vs2 ++ [.ref t3], p26.tie (fun q o hq e => (upd_ne hq).trans e) upd_same ((upd_ne ht32).trans et3) hmt hlt hht hto.symm hnt hma hmb2 hab, ?_⟩
        rw [List.length_append]
        exact Nat.succ_le_succ htl2
      · obtain ⟨⟨y15, y16, y17, rfl⟩, d21, ts2, vs2, p21, htl2⟩ := hP
        have hj : r20.toNat ≤ 3 := by omega
        repeat array_get_dec
        have etk : labs.take labs.length = labs := List.take_of_length_le (Nat.le_refl _)
        refine q mp lp hp H21 ⟨labs, lo, hi, ts2, os⟩ (d21.le (by omega)) (d4.free hmb nmp) (d5.free hlb nlp) (d6.free hhb nhp) ⟨tp, op, vs2, p21.m, by have := p21.l; rw [etk] at this; exact this, by have := p21.h; rw [etk] at this; exact this, p21.t, p21.ta, p21.o, hmb, hlb, hhb, htb, hob, hlh⟩ ⟨hlabs, by rw [hlen]; omega, by rw [hlen]; omega, fun x hx => p21.b x (by rw [etk]; exact hx), p21.tm, by show ts2.length ≤ labs.length + 3; omega, by have := p21.os'; rw [etk] at this; exact this⟩
end
end
end
end K23

namespace K23
open PySem PySem.Spec PyProof.Rows L2 L9
section
local macro_rules | `(tactic| array_get_dec) => `(tactic| first
  | with_reducible refine w_methK ?_
  | with_reducible refine w_items ?_
  | with_reducible refine w_iSeq ?_
  | with_reducible refine w_iKeys ?_
  | with_reducible refine w_orT ?_
  | with_reducible refine w_calN ?_)
section
local macro_rules | `(tactic| array_get_dec) => `(tactic| with_reducible refine w_gN (by first | (dsimp only [List.set_cons_zero, List.set_cons_succ]; done) | rfl) ?_)
section
variable {P : Program} {w : World} {K : PySem.W.Frag} {mg : Str → Option Value} {base : Heap}
abbrev N__law_chart : List Str := ["_law_model_here", "_law_places", "_law_name", "_law_low"]
theorem sc__law_chart : FnScope N__law_chart ["_law_model_here"] (defScope s__law_chart) := ⟨rfl, rfl, rfl, by decide +kernel, rfl, by decide +kernel, by decide +kernel⟩
theorem ok__law_chart {f : Addr} {fd : FuncData} {C CB : Addr}  (F : Fun K "_law_chart" "_law_chart" s__law_chart f fd) (T : Txt K mg) (I_Bounds : ICal P w K mg base "Bounds" CB 4 ["self", "low", "high"] (spBInitY CB)) (I_Chart : IKal P w K mg base "Chart" C 4 ["self", "places", "ties", "outlets"] 2 ["outlets"] (fun vs zs => vs ++ zs) (spChInitV K C CB)) : FnOk P w K mg base CX0 6 f fd ["_law_model_here"] (spChartM C CB) := by
  refine F.ok sc__law_chart (fun vs H Q E h => ?_) (fun cdv A outer s H vs Q E hr h => ?_)
  · obtain ⟨mp, b, M, m, rfl, hM, hok, hm, q⟩ := h
    rfl
  · obtain ⟨mp, b, M, m, rfl, hM, hok, hm, q⟩ := h
    refine ⟨_, (pss_cons (ps_set (i := 1) sc__law_chart.nd rfl (.inl rfl) (pe_callTy (call_dictP rfl) (by rfl) T.m_dict (by decide +kernel) (pa_cons (pe_lock (pe_lc (own := [("_law_name", 2), ("_law_low", 3)]) (g := gTup _ 2 (gCons (gName 2) (gCons (gName 3) gNil))) (tt := tYes) rfl sc__law_chart.nd (pi_items (pe_dget (hu_of hr) (pv 0) pe_str (fun _ _ => rfl))) (blkOk_by (N := N__law_chart) (sc := defScope s__law_chart) (by decide +kernel)) (fun _ _ _ _ _ => pg_tup rfl (pgs_cons (pg_name (i := 2) sc__law_chart.nd rfl (Or.inl rfl)) (pgs_cons (pg_name (i := 3) sc__law_chart.nd rfl (Or.inl rfl)) pgs_nil))) (fun _ _ _ _ _ => pts_nil) (fun _ _ _ _ _ => (pe_tup (pa_cons (pv 2) (pa_cons (I_Bounds.pe (hr.mono (by decide)) (by rfl) (pa_cons (pv 3) (pa_cons (pe_dget (hu_of hr) (pe_dget (hu_of hr) (pv 0) pe_str (fun _ _ => rfl)) (pv 2) (fun _ _ => rfl)) pa_nil))) pa_nil)))))) pa_nil)))
    (pss_one (ps_ret (I_Chart.pk (hr.mono (by decide)) (by rfl) (pa_cons (pv 1) (pa_cons (pe_dget (hu_of hr) (pv 0) pe_str (fun _ _ => rfl)) pa_nil)) (pk_cons (pe_dget (hu_of hr) (pv 0) pe_str (fun _ _ => rfl)) pk_nil))))), ?_⟩
    obtain ⟨lp, hp, tp, op, vs, e1, e2, e3, e4, e5, e6, _, _, _, _, _, hlh⟩ := id hM
    have hl26 : M.nm.length ≤ 26 := Nat.le_trans hok.l2 hm
    repeat array_get_dec
    refine ⟨lp, _, e2, trivial, fun od => ?_⟩
    have hne1 : mp ≠ lp := fun z => by rw [z, e2] at e1; exact byI_md (HO.dK.inj (Option.some.inj e1))
    have k1 : ∀ a o, a ≠ lp → H a = some o → upd H lp (.frz od (.dK (byI M.nm M.lo))) a = some o := fun a o h e => (upd_ne h).trans e
    have eL : upd H lp (.frz od (.dK (byI M.nm M.lo))) lp = some (.frz od (.dK (byI M.nm M.lo))) := upd_same
    have nn : ∀ a, upd H lp (.frz od (.dK (byI M.nm M.lo))) a = none → H a = none := fun a e => by
      by_cases z : a = lp
      · rw [z, upd_same] at e; cases e
      · rwa [upd_ne z] at e
    generalize hL : upd H lp (.frz od (.dK (byI M.nm M.lo))) = H1 at k1 eL nn ⊢
    repeat array_get_dec
    refine ⟨mp, .ref lp, rfl, md_low (k1 _ _ hne1 e1), ?_⟩
    refine ⟨lp, od, _, rfl, eL, ?_⟩
    intro D nD
    have hl : (byI M.nm M.lo).length = M.nm.length := byI_len _ _
    have d1 := k1 _ _ hne1 e1
    have d3 := k1 _ _ hlh.symm e3
    refine lc_it walk_items (fun i H' => Same H1 H' ∧ ∃ (ps : List Addr) (ba : Str → Addr), H' D = some (.lst (ps.map V.ref)) ∧ ps.length = i ∧ (∀ j x p, M.nm[j]? = some x → ps[j]? = some p → H' p = some (.tup [.str x, .ref (ba x)])) ∧ ∀ x ∈ M.nm.take i, BndAt CB H' (ba x) (M.lo x) (M.hi x))
      ⟨same_upd nD, [], fun _ => D, upd_same, rfl, (fun j x p _ h => by rw [List.getElem?_nil] at h; cases h), fun x hx => nomatch hx⟩ (fun i H' _ hP => hP.1 _ _ eL) (fun i x H2 H3 hi hP hY => ?_) (fun H' hP => ?_)
    · obtain ⟨s, ps, ba, eD, hlen, hps, hba⟩ := hP
      obtain ⟨T, k, v, rfl, nT, rfl, hk, hv⟩ := hY
      rw [hl] at hi
      obtain ⟨x, hx⟩ : ∃ x, M.nm[i]? = some x := ⟨_, List.getElem?_eq_getElem hi⟩
      have hxi : (byI M.nm M.lo)[i]? = some ((Sum.inr x : L2.Key), V.int (M.lo x)) := by unfold byI; rw [List.getElem?_map, hx]; rfl
      have hk : ((byI M.nm M.lo)[i]?.map fun kv => kV kv.1) = some k := hk
      have hv : ((byI M.nm M.lo)[i]?.map Prod.snd) = some v := hv
      rw [hxi] at hk hv
      cases hk
      cases hv
      have hxl := List.mem_of_getElem? hx
      have htk : M.nm.take (i + 1) = M.nm.take i ++ [x] := by rw [List.take_add_one, hx]; rfl
      have hnz : x ∉ M.nm.take i := by
        have h1 : (M.nm.take (i + 1)).Nodup := hok.labs.nd.sublist (List.take_sublist _ _)
        rw [htk, List.nodup_append] at h1
        exact fun hm => h1.2.2 x hm x (List.mem_singleton.mpr rfl) rfl
      have sT : Same H2 (upd H2 T (.tup [kV (Sum.inr x), .int (M.lo x)])) := same_upd nT
      generalize hG : upd H2 T _ = H4 at sT
      have eT : H4 T = some (.tup [.str x, .int (M.lo x)]) := by rw [← hG]; exact upd_same
      clear hG
      have s4 := s.trans sT
      refine ⟨T, _, rfl, SqT.of eT, rfl, ?_⟩
      repeat array_get_dec
      refine ⟨rfl, tyes ?_⟩
      repeat array_get_dec
      refine ⟨mp, .ref hp, rfl, md_high (s4 _ _ d1), ?_⟩
      repeat array_get_dec
      refine ⟨hp, _, rfl, .inl ⟨_, Sum.inr x, .inl (s4 _ _ d3), rfl, (valV_byI hxl).symm⟩, ?_⟩
      repeat array_get_dec
      refine go_bnd (hok.bnd x hxl) fun y H5 s5 ny hb5 => ?_
      refine ⟨by show 2 ≤ sizeLine; decide, fun q2 nq2 => ?_⟩
      have s6 := sT.trans s5
      have eD5 := s6 _ _ eD
      have hqD : q2 ≠ D := fun z => by rw [z, eD5] at nq2; cases nq2
      have up : ∀ {z : Addr} {ob ob2 : HO}, H5 z = some ob → (∀ us, ob ≠ .lst us) → upd (upd H5 q2 ob2) D (.lst (ps.map V.ref ++ [.ref q2])) z = some ob := fun {z} {ob} {ob2} e hk => by
        rw [upd_ne (fun w => by rw [w, eD5] at e; exact hk _ (Option.some.inj e).symm), upd_ne (ne_of_none e nq2)]
        exact e
      refine ⟨_, (upd_ne hqD.symm).trans eD5, ?_, ?_, ps ++ [q2], fun z => if z = x then y else ba z, ?_, ?_, fun j x2 p h1 h2 => ?_, fun z hz => ?_⟩
      · rw [List.length_map, hlen]
        exact small1000 (by omega)
      · exact fun a o e => by
          rw [upd_ne (ne_of_none e nD), upd_ne (ne_of_none (s6 _ _ (s _ _ e)) nq2)]
          exact s6 _ _ (s _ _ e)
      · rw [upd_same, List.map_append]
        rfl
      · rw [List.length_append, hlen]
        rfl
      · by_cases hj : j < i
        · rw [List.getElem?_append_left (by omega)] at h2
          have hx2 : x2 ≠ x := fun z => hnz (by
            rw [← z]
            exact List.mem_of_getElem? (i := j) (by rw [List.getElem?_take, if_pos hj]; exact h1))
          dsimp only
          rw [if_neg hx2]
          exact up (s6 _ _ (hps j x2 p h1 h2)) (fun us z => nomatch z)
        · have hj2 : j = i := by
            have := get_lt h2
            rw [List.length_append, hlen] at this
            have : j < i + 1 := this
            omega
          subst hj2
          rw [List.getElem?_append_right (by omega), hlen, Nat.sub_self] at h2
          cases h2
          rw [hx] at h1
          cases h1
          dsimp only
          rw [if_pos rfl, upd_ne hqD, upd_same]
      · dsimp only
        rw [htk] at hz
        by_cases hzx : z = x
        · rw [if_pos hzx, hzx]
          obtain ⟨d, e⟩ := hb5
          exact ⟨d, up e (fun us z => nomatch z)⟩
        · rw [if_neg hzx]
          rcases List.mem_append.mp hz with g | g
          · obtain ⟨d, e⟩ := hba z g
            exact ⟨d, up (s6 _ _ e) (fun us z => nomatch z)⟩
          · exact absurd (List.mem_singleton.mp g) hzx
    · obtain ⟨s, ps, ba, eD, hlen, hps, hba⟩ := hP
      rw [hl] at hlen hba
      rw [List.take_of_length_le (Nat.le_refl _)] at hba
      refine ⟨s _ _ eL, ?_⟩
      generalize hG : upd H' lp (.dK (byI M.nm M.lo)) = H3
      have s3 : Same H H3 := fun a ob e => by
        rw [← hG]
        by_cases z : a = lp
        · rw [z, upd_same, ← e2, ← z]
          exact e
        · rw [upd_ne z]
          exact s _ _ (k1 _ _ z e)
      have k3 : ∀ a ob, H' a = some ob → (∀ od kv, ob ≠ .frz od kv) → H3 a = some ob := fun a ob e hk => by
        rw [← hG, upd_ne (fun z => by rw [z, s _ _ eL] at e; exact hk _ _ (Option.some.inj e).symm)]
        exact e
      clear hG
      have eD3 := k3 _ _ eD (fun _ _ z => nomatch z)
      have hps3 : ∀ (j : Nat) (x : Str) (p : Addr), M.nm[j]? = some x → ps[j]? = some p → H3 p = some (.tup [.str x, .ref (ba x)]) := fun j x p h1 h2 => k3 _ _ (hps j x p h1 h2) (fun _ _ z => nomatch z)
      have hba3 : ∀ x ∈ M.nm, BndAt CB H3 (ba x) (M.lo x) (M.hi x) := fun x hx => by
        obtain ⟨d, e⟩ := hba x hx
        exact ⟨d, k3 _ _ e (fun _ _ z => nomatch z)⟩
      repeat array_get_dec
      refine ⟨D, ps, byN M.nm ba, rfl, SqL.of eD3, pairs_byN hlen hps3, fun pl npl => ?_⟩
      rw [mergeN _ _ hok.labs.nd]
      generalize hG : upd H3 pl _ = H5
      have s5 : Same H3 H5 := by rw [← hG]; exact same_upd npl
      have e5' : H5 pl = some (.dK (byN M.nm ba)) := by rw [← hG]; exact upd_same
      clear hG
      have s05 := s3.trans s5
      repeat array_get_dec
      refine ⟨mp, .ref tp, rfl, md_ties (s05 _ _ e1), ?_⟩
      repeat array_get_dec
      refine ⟨mp, .ref op, rfl, md_outs (s05 _ _ e1), rfl, rfl, ?_⟩
      repeat array_get_dec
      refine go_chart e5' hok.labs.nd (by omega) (fun x hx => ⟨(hok.labs.nm x hx).1, (hok.labs.nm x hx).2.1, (hba3 x hx).mono s5, hok.bnd x hx⟩) (.inl (s05 _ _ e4)) (e5.same s05) hok.ts (.inl (s05 _ _ e6)) (fun x hx => hok.os.subset hx) fun y H6 s6 ny hch hcan => ?_
      exact q y H6 (s05.trans s6) (s05.free ny) hch hcan
end
end
end
end K23

namespace K23
open PySem PySem.Spec PyProof.Rows L2 L9
section
local macro_rules | `(tactic| array_get_dec) => `(tactic| first
  | with_reducible refine w_methK ?_
  | with_reducible refine w_items ?_
  | with_reducible refine w_iSeq ?_
  | with_reducible refine w_iKeys ?_
  | with_reducible refine w_orT ?_
  | with_reducible refine w_calN ?_)
section
local macro_rules | `(tactic| array_get_dec) => `(tactic| with_reducible refine w_gN (by first | (dsimp only [List.set_cons_zero, List.set_cons_succ]; done) | rfl) ?_)
section
variable {P : Program} {w : World} {K : PySem.W.Frag} {mg : Str → Option Value} {base : Heap}
abbrev N__law_heights : List Str := ["_law_box_here", "_law_model_here", "_law_way", "_law_found", "_law_name", "_law_low", "_law_wide", "_law_some"]
theorem sc__law_heights : FnScope N__law_heights ["_law_box_here", "_law_model_here"] (defScope s__law_heights) := ⟨rfl, rfl, rfl, by decide +kernel, rfl, by decide +kernel, by decide +kernel⟩
theorem ok__law_heights {f : Addr} {fd : FuncData}  (F : Fun K "_law_heights" "_law_heights" s__law_heights f fd) (T : Txt K mg) (C__law_take : Cal P w K mg base "_law_take" 1 ["_law_box_here", "_law_many"] spTake) (C__law_mixed : Cal P w K mg base "_law_mixed" 2 ["_law_box_here", "_law_some"] (spMixed K)) : FnOk P w K mg base CX0 3 f fd ["_law_box_here", "_law_model_here"] spHeightsM := by
  refine F.ok sc__law_heights (fun vs H Q E h => ?_) (fun cdv A outer s H vs Q E hr h => ?_)
  · obtain ⟨b, mp, M, n, m, rfl, hb, hM, hok, hm, hn, q⟩ := h
    rfl
  · obtain ⟨b, mp, M, n, m, rfl, hb, hM, hok, hm, hn, q⟩ := h
    refine ⟨_, (pss_cons (ps_par (i := 2) (j := 3) (by rfl) sc__law_heights.nd rfl rfl (by decide) rfl rfl (pa_cons (pe_cal C__law_take (hr.mono (by decide)) (by rfl) (pa_cons (pv 0) (pa_cons pe_int pa_nil))) (pa_cons pe_dnewK pa_nil)) (by rfl))
    (pss_cons (ps_for PassesOwn.never rfl (pi_list (pe_cal C__law_mixed (hr.mono (by decide)) (by rfl) (pa_cons (pv 0) (pa_cons (pe_callTy (call_listD rfl) (by rfl) T.m_list (by decide +kernel) (pa_cons (pe_dget (hu_of hr) (pv 1) pe_str (fun _ _ => rfl)) pa_nil)) pa_nil)))) (pg_name (i := 4) sc__law_heights.nd rfl (.inl rfl))
    (pss_cons (ps_set (i := 5) sc__law_heights.nd rfl (.inl rfl) (pe_dget (hu_of hr) (pe_dget (hu_of hr) (pv 1) pe_str (fun _ _ => rfl)) (pv 4) (fun _ _ => rfl)))
    (pss_cons (ps_set (i := 6) sc__law_heights.nd rfl (.inl rfl) (pe_op op_sub (pe_dget (hu_of hr) (pe_dget (hu_of hr) (pv 1) pe_str (fun _ _ => rfl)) (pv 4) (fun _ _ => rfl)) (pv 5)))
    (pss_cons (ps_set (i := 7) sc__law_heights.nd rfl (.inl rfl) (pe_lst (pa_cons pe_int (pa_cons (pv 6) (pa_cons (pe_cal C__law_take (hr.mono (by decide)) (by rfl) (pa_cons (pv 0) (pa_cons (pe_op op_add (pv 6) pe_int) pa_nil))) (pa_cons (pe_op op_fdivW (pv 6) pe_int) (pa_cons (pe_op op_mul (pv 6) (pe_cal C__law_take (hr.mono (by decide)) (by rfl) (pa_cons (pv 0) (pa_cons pe_int pa_nil)))) pa_nil)))))))
    (pss_one (ps_dput (hu_of hr) (pv 3) (pv 4) (pe_op op_add (pv 5) (pe_ix ix_list (pv 7) (pv 2) (fun _ _ => rfl))) rfl))))))
    (pss_one (ps_ret (pv 3))))), ?_⟩
    have hl26 : M.nm.length ≤ 26 := Nat.le_trans hok.l2 hm
    repeat array_get_dec
    refine go_take (Drw.refl hb) (by omega) (by omega) (by omega) fun r1 H1 l1 u1 d1 k1 => ?_
    obtain ⟨way, rfl⟩ := Int.eq_ofNat_of_zero_le l1
    repeat array_get_dec
    intro fp nfp
    generalize hG : upd H1 fp _ = H2
    obtain ⟨hfb, efp, s2, d2⟩ := d1.gen nfp hG
    clear hG
    repeat array_get_dec
    have hM2 := hM.drw d2 hb
    obtain ⟨lp, hp, tp, op, vs, m1, m2, m3, m4, m5, m6, mb1, mb2, mb3, mb4, mb5, hlh⟩ := id hM2
    refine ⟨mp, .ref lp, rfl, md_low m1, ?_⟩
    repeat array_get_dec
    refine ⟨lp, _, rfl, .inl m2, fun r3 n3 => ?_⟩
    generalize hG : upd H2 r3 _ = H3
    obtain ⟨hrb, e3, s3, d3⟩ := d2.gen n3 hG
    clear hG
    have e3 : H3 r3 = some (.lst (M.nm.map V.str)) := by
      rw [e3]
      unfold byI
      rw [List.map_map]
      rfl
    repeat array_get_dec
    refine ⟨b, r3, M.nm.map V.str, n + 1, rfl, d3.box, SqL.of e3, by rw [List.length_map]; omega, by omega, fun r4 H4 ys d4 n4 e4 hys => ?_⟩
    obtain ⟨ms, rfl, hms⟩ := perm_textsM hys
    rw [List.length_map] at d4
    have D4 := d3.cat d4
    have hr4b : r4 ≠ b := d3.ne n4
    have hmem : ∀ x, x ∈ ms ↔ x ∈ M.nm := fun x => hms.mem_iff
    have hml : ms.length = M.nm.length := hms.length_eq
    have hmn : ms.Nodup := hms.nodup_iff.mpr hok.labs.nd
    have efp4 := d4.keep _ _ hfb (s3 _ _ efp)
    have hM4 := (hM2.mono s3).drw d4 d3.box
    clear hys
    refine ⟨r4, rfl, ⟨_, SqL.of e4⟩, ?_⟩
    refine for_list (xs := ms.map V.str) (fun i σ H' => (∃ y4 y5 y6 y7, σ = [some (.ref b), some (.ref mp), some (.int (way : Nat)), some (.ref fp), y4, y5, y6, y7]) ∧ Drw H H' b (n + 1 + M.nm.length + 2 * i) ∧ H' r4 = some (.lst (ms.map V.str)) ∧ ∃ hf : Str → Int, H' fp = some (.dK (byI (ms.take i) hf)) ∧ ∀ x ∈ ms.take i, M.lo x ≤ hf x ∧ hf x ≤ M.hi x)
      ⟨⟨_, _, _, _, rfl⟩, D4, e4, fun _ => 0, efp4, fun x hx => nomatch hx⟩ (fun i σ H' _ hP => SqL.of hP.2.2.1) (fun i x σ H5 hx hP => ?_) (fun σ H5 hP => ?_)
    · obtain ⟨⟨y4, y5, y6, y7, rfl⟩, D5, e5, hf, ef5, hb5⟩ := hP
      have hM5 := hM.drw D5 hb
      rw [List.getElem?_map] at hx
      obtain ⟨z, hz, rfl⟩ : ∃ z, ms[i]? = some z ∧ V.str z = x := by
        cases h : ms[i]? with
        | none => rw [h] at hx; cases hx
        | some z => rw [h] at hx; exact ⟨z, rfl, Option.some.inj hx⟩
      have hil : i < ms.length := get_lt hz
      have htk : ms.take (i + 1) = ms.take i ++ [z] := by rw [List.take_add_one, hz]; rfl
      have hzn : z ∉ ms.take i := by
        have h1 : (ms.take (i + 1)).Nodup := hmn.sublist (List.take_sublist _ _)
        rw [htk, List.nodup_append] at h1
        exact fun hm => h1.2.2 z hm z (List.mem_singleton.mpr rfl) rfl
      have hzM := (hmem z).mp (List.mem_of_getElem? hz)
      have hbz := hok.bnd z hzM
      have hMH : MH = 1000000000000 := by unfold MH; decide +kernel
      rw [hMH] at hbz
      obtain ⟨lp5, hp5, tp5, op5, vs5, g1, g2, g3, g4, g5, g6, gb1, gb2, gb3, gb4, gb5, _⟩ := id hM5
      repeat array_get_dec
      refine ⟨mp, .ref lp5, rfl, md_low g1, ?_⟩
      repeat array_get_dec
      refine ⟨lp5, _, rfl, .inl ⟨_, Sum.inr z, .inl g2, rfl, (valV_byI hzM).symm⟩, ?_⟩
      repeat array_get_dec
      refine ⟨mp, .ref hp5, rfl, md_high g1, ?_⟩
      repeat array_get_dec
      refine ⟨hp5, _, rfl, .inl ⟨_, Sum.inr z, .inl g3, rfl, (valV_byI hzM).symm⟩, ?_⟩
      repeat array_get_dec
      refine go_take D5 (by omega) (by omega) (by omega) fun r6 H6 l6 u6 D6 k6 => ?_
      repeat array_get_dec
      refine go_take D6 (by omega) (by omega) (by omega) fun r7 H7 l7 u7 D7 k7 => ?_
      obtain ⟨wd, hwd⟩ : ∃ v : Int, v = (M.hi z - M.lo z) * r7 := ⟨_, rfl⟩
      have hwd2 : 0 ≤ wd ∧ wd ≤ M.hi z - M.lo z := by
        have : r7 = 0 ∨ r7 = 1 := by omega
        rcases this with rfl | rfl
        · rw [hwd, Int.mul_zero]; omega
        · rw [hwd, Int.mul_one]; omega
      repeat array_get_dec
      rw [← hwd]
      refine ⟨by show 5 ≤ sizeLine; decide, fun q8 n8 => ?_⟩
      generalize hG : upd H7 q8 _ = H8
      obtain ⟨hq8, e8, s8, D8⟩ := D7.gen n8 hG
      clear hG
      have k58 : ∀ q o, q ≠ b → H5 q = some o → H8 q = some o := fun q o hq e => s8 _ _ (k7 _ _ hq (k6 _ _ hq e))
      have d58 : Drw H5 H8 b (n + 1 + M.nm.length + 2 * i + 2) := ⟨k58, D8.box⟩
      obtain ⟨add, hadd, ha0, ha1⟩ : ∃ v : Int, ([V.int 0, V.int (M.hi z - M.lo z), V.int r6, V.int ((M.hi z - M.lo z) / 2), V.int wd])[way]? = some (.int v) ∧ 0 ≤ v ∧ v ≤ M.hi z - M.lo z := by
        have hj : way < 5 := by omega
        match way, hj with
        | 0, _ => exact ⟨_, rfl, by omega, by omega⟩
        | 1, _ => exact ⟨_, rfl, by omega, by omega⟩
        | 2, _ => exact ⟨_, rfl, by omega, by omega⟩
        | 3, _ => exact ⟨_, rfl, by omega, by omega⟩
        | 4, _ => exact ⟨_, rfl, by omega, by omega⟩
      repeat array_get_dec
      refine go_ixL (SqL.of e8) rfl hadd ?_
      repeat array_get_dec
      have ef8 := k58 _ _ hfb ef5
      refine ⟨fp, _, rfl, DPut.k (k := Sum.inr z) ef8 (by rw [byI_len, List.length_take]; exact small1000 (by omega)), ?_⟩
      rw [putK_at hzn]
      have hr4f : r4 ≠ fp := fun w => by rw [w, ef5] at e5; cases e5
      refine ⟨⟨_, _, _, _, rfl⟩, (D8.at hfb (d1.free hfb nfp)).le (by omega), (upd_ne hr4f).trans (k58 _ _ hr4b e5), fun y => if y = z then M.lo z + add else hf y, by rw [upd_same, htk], fun x hx => ?_⟩
      · rw [htk] at hx
        show M.lo x ≤ (if x = z then M.lo z + add else hf x) ∧ (if x = z then M.lo z + add else hf x) ≤ M.hi x
        by_cases hxz : x = z
        · rw [if_pos hxz, hxz]
          omega
        · rw [if_neg hxz]
          exact hb5 x ((List.mem_append.mp hx).elim id fun w => absurd (List.mem_singleton.mp w) hxz)
    · obtain ⟨⟨y4, y5, y6, y7, rfl⟩, D5, e5, hf, ef5, hb5⟩ := hP
      rw [List.length_map] at D5 ef5 hb5
      rw [List.take_of_length_le (Nat.le_refl _)] at ef5 hb5
      repeat array_get_dec
      exact q fp H5 ms hf (D5.le (by omega)) (d1.free hfb nfp) ef5 hms fun x hx => hb5 x ((hmem x).mpr hx)
end
end
end
end K23

namespace K23
open PySem PySem.Spec PyProof.Rows L2 L9
section
variable {P : Program} {w : World} {K : PySem.W.Frag} {mg : Str → Option Value} {base : Heap}
end
end K23

namespace K23
open PySem PySem.Spec PyProof.Rows L2 L9
section
variable {P : Program} {w : World} {K : PySem.W.Frag} {mg : Str → Option Value} {base : Heap}
abbrev N_Land_heights : List Str := ["self"]
theorem sc_Land_heights : FnScope N_Land_heights ["self"] (defScope s_Land_heights) := ⟨rfl, rfl, rfl, by decide +kernel, rfl, by decide +kernel, by decide +kernel⟩
theorem ok_Land_heights {f : Addr} {fd : FuncData} {CL C CB : Addr} (HL : LdT K mg CL) (F : Fun K "heights" "Land.heights" s_Land_heights f fd) (T : Txt K mg) : FnOk P w K mg base CX0 1 f fd ["self"] (spLdHs CL C CB) := by
  refine F.ok sc_Land_heights (fun vs H Q E h => ?_) (fun cdv A outer s H vs Q E hr h => ?_)
  · obtain ⟨q, c, h, rfl, _⟩ := h
    rfl
  · obtain ⟨q, c, h, rfl, ⟨dx, cp, hp, e1, e2, e3⟩, hl, k⟩ := h
    refine ⟨_, (pss_one (ps_ret (pe_callTy call_dictD (by rfl) T.m_dict (by decide +kernel) (pa_cons (pe_fld (pv 0) rfl) pa_nil)))), ?_⟩
    repeat array_get_dec
    refine ⟨q, CL, dx, _, _, rfl, e1, HL.c.cl, HL.nh, ldf_h _ _, ?_⟩
    repeat array_get_dec
    exact ⟨hp, _, rfl, .inl e3, fun p np => k p _ (same_upd np) np upd_same⟩
end
end K23

namespace K23
open PySem PySem.Spec PyProof.Rows L2 L9
section
variable {P : Program} {w : World} {K : PySem.W.Frag} {mg : Str → Option Value} {base : Heap}
abbrev N_Bounds___eq__ : List Str := ["self", "other"]
theorem sc_Bounds___eq__ : FnScope N_Bounds___eq__ ["self", "other"] (defScope s_Bounds___eq__) := ⟨rfl, rfl, rfl, by decide +kernel, rfl, by decide +kernel, by decide +kernel⟩
theorem ok_Bounds___eq__ {f : Addr} {fd : FuncData} {CB : Addr} (B : BnT K mg CB) (F : Fun K "__eq__" "Bounds.__eq__" s_Bounds___eq__ f fd) (T : Txt K mg) (gBounds : GlV mg "Bounds" (.ref CB)) : FnOk P w K mg base CX0 1 f fd ["self", "other"] (spBEq CB) := by
  refine F.ok sc_Bounds___eq__ (fun vs H Q E h => ?_) (fun cdv A outer s H vs Q E hr h => ?_)
  · obtain ⟨p, q, l, h, l2, h2, rfl, ⟨dx, e1⟩, ⟨dy, e2⟩, qq⟩ := h
    rfl
  · obtain ⟨p, q, l, h, l2, h2, rfl, ⟨dx, e1⟩, ⟨dy, e2⟩, qq⟩ := h
    refine ⟨_, (pss_one (ps_ret (pe_and (pe_callB call_isi (by rfl) T.m_isinstance (by decide +kernel) (pa_cons (pv 1) (pa_cons (pe_gl gBounds) pa_nil))) (pe_and (pe_cmpR op_eq (pe_fld (pv 0) rfl) (pe_fld (pv 1) rfl) (nomark _)) (pe_one (pe_cmpR op_eq (pe_fld (pv 0) rfl) (pe_fld (pv 1) rfl) (nomark _))))))), ?_⟩
    repeat array_get_dec
    refine ⟨_, _, _, _, true, rfl, .own CB, B.c.ty e2, B.c.kb, ?_⟩
    repeat array_get_dec
    refine ⟨p, CB, dx, _, _, rfl, e1, B.c.cl, B.nl, bf_low _ _, ?_⟩
    repeat array_get_dec
    refine ⟨q, CB, dy, _, _, rfl, e2, B.c.cl, B.nl, bf_low _ _, ?_⟩
    refine ⟨rfl, _, rfl, ?_⟩
    by_cases a1 : l = l2
    · rw [decide_eq_true a1] at qq
      rw [show decide (V.int l = V.int l2) = true from decide_eq_true (by rw [a1])]
      repeat array_get_dec
      refine ⟨p, CB, dx, _, _, rfl, e1, B.c.cl, B.nh, bf_high _ _, ?_⟩
      repeat array_get_dec
      refine ⟨q, CB, dy, _, _, rfl, e2, B.c.cl, B.nh, bf_high _ _, ?_⟩
      refine ⟨rfl, ?_⟩
      have e : decide (V.int h = V.int h2) = decide (h = h2) := decide_eq_decide.mpr ⟨fun z => V.int.inj z, fun z => by rw [z]⟩
      show Q (.bl (decide (V.int h = V.int h2))) H
      rw [e]
      exact qq
    · rw [decide_eq_false a1] at qq
      rw [show decide (V.int l = V.int l2) = false from decide_eq_false (fun z => a1 (V.int.inj z))]
      repeat array_get_dec
      exact qq
abbrev N_Chart___eq__ : List Str := ["self", "other"]
theorem sc_Chart___eq__ : FnScope N_Chart___eq__ ["self", "other"] (defScope s_Chart___eq__) := ⟨rfl, rfl, rfl, by decide +kernel, rfl, by decide +kernel, by decide +kernel⟩
theorem ok_Chart___eq__ {f : Addr} {fd : FuncData} {C CB : Addr} (HC : ChT K mg C) (F : Fun K "__eq__" "Chart.__eq__" s_Chart___eq__ f fd) (T : Txt K mg) (gChart : GlV mg "Chart" (.ref C)) (B_eq : OCal P w K mg base CB "__eq__" 1 ["self", "other"] (spBEq CB)) : FnOk P w K mg base CX0 3 f fd ["self", "other"] (spChEqq C CB) := by
  refine F.ok sc_Chart___eq__ (fun vs H Q E h => ?_) (fun cdv A outer s H vs Q E hr h => ?_)
  · obtain ⟨p, r, c, rfl, hc, hc2, ok, q⟩ := h
    rfl
  · obtain ⟨p, r, c, rfl, hc, hc2, ok, q⟩ := h
    refine ⟨_, (pss_cons (ps_if (pt_not (pt_val (pe_callB call_isi (by rfl) T.m_isinstance (by decide +kernel) (pa_cons (pv 1) (pa_cons (pe_gl gChart) pa_nil))))) (pss_one (ps_ret pe_bl)) pss_nil)
    (pss_cons (ps_if (pt_cmpR (op_neDictO (bnd_valEq B_eq) (hr.mono (by decide))) (pe_fld (pv 0) rfl) (pe_fld (pv 1) rfl) (nomark _)) (pss_one (ps_ret pe_bl)) pss_nil)
    (pss_one (ps_ret (pe_and (pe_cmpR (op_eqV (hu64 hr)) (pe_fld (pv 0) rfl) (pe_fld (pv 1) rfl) (nomark _)) (pe_one (pe_cmpR (op_eqV (hu64 hr)) (pe_fld (pv 0) rfl) (pe_fld (pv 1) rfl) (nomark _)))))))), ?_⟩
    obtain ⟨dx, b, t, o, hp, ⟨ba, eb, hba⟩, ⟨ta, et, hta⟩, eo⟩ := hc
    obtain ⟨dx2, b2, t2, o2, hp2, ⟨ba2, eb2, hba2⟩, ⟨ta2, et2, hta2⟩, eo2⟩ := hc2
    repeat array_get_dec
    refine ⟨_, _, _, _, true, rfl, .own C, HC.c.ty hp2, HC.c.kb, ?_⟩
    repeat array_get_dec
    refine ⟨p, C, dx, _, _, rfl, hp, HC.c.cl, HC.nb, chf_b _ _ _, ?_⟩
    repeat array_get_dec
    refine ⟨r, C, dx2, _, _, rfl, hp2, HC.c.cl, HC.nb, chf_b _ _ _, ?_⟩
    refine ⟨b, b2, _, _, fun _ => true, rfl, rfl, eb, eb2, fun k v w hm hv H' hH => ?_, ?_⟩
    · obtain ⟨x, hx, e⟩ := List.mem_map.mp hm
      cases e
      rw [valV_byN hx] at hv
      cases hv
      have k1 : ∀ {z : Addr} {l h : Int}, BndAt CB H z l h → BndAt CB H' z l h := fun {z} {l} {h} ⟨d, e⟩ => ⟨d, hH _ _ (fun y => by rw [y, eb] at e; cases e) (fun y => by rw [y, eb2] at e; cases e) e⟩
      exact ⟨_, _, _, _, _, _, rfl, rfl, k1 (hba x hx), k1 (hba2 x hx), by simp⟩
    rw [show (xor true ((byN c.names ba).length == (byN c.names ba2).length && dictB (fun _ => true) (byN c.names ba) (byN c.names ba2))) = false by rw [dictB_byN, byN_len, byN_len]; simp]
    repeat array_get_dec
    refine ⟨p, C, dx, _, _, rfl, hp, HC.c.cl, HC.nt, chf_t _ _ _, ?_⟩
    repeat array_get_dec
    refine ⟨r, C, dx2, _, _, rfl, hp2, HC.c.cl, HC.nt, chf_t _ _ _, ?_⟩
    have all : ∀ (n : Nat) (l : List Str), Paired (EqV K H (n + 1)) (l.map V.str) (l.map V.str) := fun n l => by
      induction l with
      | nil => exact .nil
      | cons x l ih => exact .cons (.inl ⟨rfl, rfl⟩) ih
    refine ⟨2, by decide, .inr ⟨t, t2, _, _, rfl, rfl, et, et2, by rw [byN_len, byN_len], fun z hz => ?_⟩, ?_⟩
    · obtain ⟨y, hy, rfl⟩ := List.mem_map.mp hz
      exact ⟨_, valV_byN hy, .inr (.inr (.inl ⟨_, _, _, _, rfl, rfl, SqL.of (hta y hy), SqL.of (hta2 y hy), all 0 _⟩))⟩
    repeat array_get_dec
    refine ⟨p, C, dx, _, _, rfl, hp, HC.c.cl, HC.no, chf_o _ _ _, ?_⟩
    repeat array_get_dec
    refine ⟨r, C, dx2, _, _, rfl, hp2, HC.c.cl, HC.no, chf_o _ _ _, ?_⟩
    refine ⟨1, by decide, .inl ⟨o, o2, _, _, rfl, rfl, SqL.of eo, SqL.of eo2, all 0 _⟩, ?_⟩
    exact q
abbrev N_check_land : List Str := ["land"]
theorem sc_check_land : FnScope N_check_land ["land"] (defScope s_check_land) := ⟨rfl, rfl, rfl, by decide +kernel, rfl, by decide +kernel, by decide +kernel⟩
theorem ok_check_land {f : Addr} {fd : FuncData} {CL C CB : Addr} (HL : LdT K mg CL) (F : Fun K "check_land" "check_land" s_check_land f fd) (T : Txt K mg) (gLand : GlV mg "Land" (.ref CL)) : FnOk P w K mg base CX0 1 f fd ["land"] (spCheckL CL C CB) := by
  refine F.ok sc_check_land (fun vs H Q E h => ?_) (fun cdv A outer s H vs Q E hr h => ?_)
  · obtain ⟨q, c, h, rfl, hl, qq⟩ := h
    rfl
  · obtain ⟨q, c, h, rfl, hl, qq⟩ := h
    refine ⟨_, (pss_one (ps_if (pt_not (pt_val (pe_callB call_isi (by rfl) T.m_isinstance (by decide +kernel) (pa_cons (pv 0) (pa_cons (pe_gl gLand) pa_nil))))) (pss_one ps_never) pss_nil)), ?_⟩
    obtain ⟨dx, cp, hp, e1, _⟩ := hl
    repeat array_get_dec
    refine ⟨_, _, _, _, true, rfl, .own CL, HL.c.ty e1, HL.c.kb, ?_⟩
    repeat array_get_dec
    exact qq
abbrev N_Land___eq__ : List Str := ["self", "other"]
theorem sc_Land___eq__ : FnScope N_Land___eq__ ["self", "other"] (defScope s_Land___eq__) := ⟨rfl, rfl, rfl, by decide +kernel, rfl, by decide +kernel, by decide +kernel⟩
theorem ok_Land___eq__ {f : Addr} {fd : FuncData} {CL C CB : Addr} (HL : LdT K mg CL) (HC : ChT K mg C) (nfC : PySem.W.notFirst K C (.ref C) = true) (F : Fun K "__eq__" "Land.__eq__" s_Land___eq__ f fd) (T : Txt K mg) (gLand : GlV mg "Land" (.ref CL)) (M_eq : OCal P w K mg base C "__eq__" 3 ["self", "other"] (spChEqq C CB)) : FnOk P w K mg base CX0 4 f fd ["self", "other"] (spLdEq CL C CB) := by
  refine F.ok sc_Land___eq__ (fun vs H Q E h => ?_) (fun cdv A outer s H vs Q E hr h => ?_)
  · obtain ⟨p, r, cp, c, h1, h2, rfl, _⟩ := h
    rfl
  · obtain ⟨p, r, cp, c, h1, h2, rfl, ⟨dx1, p1, e1, hc, f1⟩, ⟨dx2, p2, e2, _, f2⟩, ok, heq, q⟩ := h
    refine ⟨_, (pss_cons (ps_if (pt_not (pt_val (pe_callB call_isi (by rfl) T.m_isinstance (by decide +kernel) (pa_cons (pv 1) (pa_cons (pe_gl gLand) pa_nil))))) (pss_one (ps_ret pe_bl)) pss_nil)
    (pss_one (ps_ret (pe_and (pe_cmpR (M_eq.eqq (hr.mono (by decide))) (pe_fld (pv 0) rfl) (pe_fld (pv 1) rfl) (nomark _)) (pe_one (pe_cmpR (op_eq_dictA (Nat.lt_of_le_of_lt (Nat.le_add_right _ 64) (hu64 hr))) (pe_fld (pv 0) rfl) (pe_fld (pv 1) rfl) (nomark _))))))), ?_⟩
    repeat array_get_dec
    refine ⟨_, _, _, _, true, rfl, .own CL, HL.c.ty e2, HL.c.kb, ?_⟩
    repeat array_get_dec
    have hc0 := hc
    obtain ⟨dx, b, t, o, hp, _⟩ := hc0
    refine ⟨p, CL, dx1, _, _, rfl, e1, HL.c.cl, HL.nc, ldf_c _ _, ?_⟩
    repeat array_get_dec
    refine ⟨r, CL, dx2, _, _, rfl, e2, HL.c.cl, HL.nc, ldf_c _ _, ?_⟩
    refine ⟨cp, dx, _, _, rfl, hp, HC.c.ty hp, nfC, cp, cp, c, rfl, hc, hc, ok, ?_⟩
    repeat array_get_dec
    refine ⟨p, CL, dx1, _, _, rfl, e1, HL.c.cl, HL.nh, ldf_h _ _, ?_⟩
    repeat array_get_dec
    refine ⟨r, CL, dx2, _, _, rfl, e2, HL.c.cl, HL.nh, ldf_h _ _, ?_⟩
    refine ⟨p1, p2, _, _, rfl, rfl, f1, f2, by rw [byI_len, byI_len], fun z hz => ?_, ?_⟩
    · obtain ⟨y, hy, rfl⟩ := List.mem_map.mp hz
      exact ⟨by rw [valV_byI hy, heq y hy], rfl⟩
    exact q
end
end K23

namespace K23
open PySem PySem.Spec PyProof.Rows L2 L9
section
local macro_rules | `(tactic| array_get_dec) => `(tactic| first
  | with_reducible refine w_methK ?_
  | with_reducible refine w_items ?_
  | with_reducible refine w_iSeq ?_
  | with_reducible refine w_iKeys ?_
  | with_reducible refine w_orT ?_
  | with_reducible refine w_calN ?_)
section
local macro_rules | `(tactic| array_get_dec) => `(tactic| with_reducible refine w_gN (by first | (dsimp only [List.set_cons_zero, List.set_cons_succ]; done) | rfl) ?_)
section
variable {P : Program} {w : World} {K : PySem.W.Frag} {mg : Str → Option Value} {base : Heap}
abbrev N_check_bounds : List Str := ["bounds"]
theorem sc_check_bounds : FnScope N_check_bounds ["bounds"] (defScope s_check_bounds) := ⟨rfl, rfl, rfl, by decide +kernel, rfl, by decide +kernel, by decide +kernel⟩
theorem ok_check_bounds {f : Addr} {fd : FuncData} {CB : Addr} (B : BnT K mg CB)  (F : Fun K "check_bounds" "check_bounds" s_check_bounds f fd) (T : Txt K mg) (gBounds : GlV mg "Bounds" (.ref CB)) : FnOk P w K mg base CX0 1 f fd ["bounds"] (spCheckB CB) := by
  refine F.ok sc_check_bounds (fun vs H Q E h => ?_) (fun cdv A outer s H vs Q E hr h => ?_)
  · obtain ⟨p, l, h, rfl, ⟨dx, hp⟩, q⟩ := h
    rfl
  · obtain ⟨p, l, h, rfl, ⟨dx, hp⟩, q⟩ := h
    refine ⟨_, (pss_one (ps_if (pt_not (pt_val (pe_callB call_isi (by rfl) T.m_isinstance (by decide +kernel) (pa_cons (pv 0) (pa_cons (pe_gl gBounds) pa_nil))))) (pss_one ps_never) pss_nil)), ?_⟩
    repeat array_get_dec
    refine ⟨_, _, _, _, true, rfl, .own CB, B.c.ty hp, B.c.kb, ?_⟩
    repeat array_get_dec
    exact q
abbrev N_Chart_with_bounds : List Str := ["self", "name", "bounds"]
theorem sc_Chart_with_bounds : FnScope N_Chart_with_bounds ["self", "name", "bounds"] (defScope s_Chart_with_bounds) := ⟨rfl, rfl, rfl, by decide +kernel, rfl, by decide +kernel, by decide +kernel⟩
theorem ok_Chart_with_bounds {f : Addr} {fd : FuncData} {C CB : Addr} (HC : ChT K mg C)  (F : Fun K "with_bounds" "Chart.with_bounds" s_Chart_with_bounds f fd) (T : Txt K mg) (C_check_place : Cal P w K mg base "check_place" 3 ["chart", "name"] (spCheckPl C CB)) (C_check_bounds : Cal P w K mg base "check_bounds" 1 ["bounds"] (spCheckB CB)) (M_ties : MCal P w K mg base C "ties" 1 ["self"] (spTiesN C CB)) (M_outlets : MCal P w K mg base C "outlets" 1 ["self"] (spOutsM C CB)) (I_Chart : IKal P w K mg base "Chart" C 4 ["self", "places", "ties", "outlets"] 2 ["outlets"] (fun vs zs => vs ++ zs) (spChInitV K C CB)) : FnOk P w K mg base CX0 6 f fd ["self", "name", "bounds"] (spWithK C CB) := by
  refine F.ok sc_Chart_with_bounds (fun vs H Q E h => ?_) (fun cdv A outer s H vs Q E hr h => ?_)
  · obtain ⟨p, bb, x, c, l, h, rfl, hc, kk, hx, hB, a1, a2, a3, q⟩ := h
    rfl
  · obtain ⟨p, bb, x, c, l, h, rfl, hc, kk, hx, hB, a1, a2, a3, q⟩ := h
    refine ⟨_, (pss_cons (ps_expr (pe_cal C_check_place (hr.mono (by decide)) (by rfl) (pa_cons (pv 0) (pa_cons (pv 1) pa_nil))))
    (pss_cons (ps_expr (pe_cal C_check_bounds (hr.mono (by decide)) (by rfl) (pa_cons (pv 2) pa_nil)))
    (pss_one (ps_ret (I_Chart.pk (hr.mono (by decide)) (by rfl) (pa_cons (pe_dstar (pe_fld (pv 0) rfl) (pps_cons (pv 1) (pv 2) pps_nil) (by rfl) (by rfl) (by simp) (by decide)) (pa_cons (M_ties.pe0 HC.c.cl (hr.mono (by decide)) (pv 0)) pa_nil)) (pk_cons (M_outlets.pe0 HC.c.cl (hr.mono (by decide)) (pv 0)) pk_nil)))))), ?_⟩
    have ok := kk.ok
    repeat array_get_dec
    refine ⟨p, x, c, rfl, hc, hx, ?_⟩
    repeat array_get_dec
    refine ⟨bb, l, h, rfl, hB, ?_⟩
    repeat array_get_dec
    intro dp ndp
    have hc0 := hc
    obtain ⟨dx, b, t, o, hp, ⟨ba, eb, hba⟩, _⟩ := hc0
    have hpd : p ≠ dp := fun z => by rw [z, ndp] at hp; cases hp
    have hbd : b ≠ dp := fun z => by rw [z, ndp] at eb; cases eb
    repeat array_get_dec
    refine ⟨p, C, dx, _, _, rfl, (upd_ne hpd).trans hp, HC.c.cl, HC.nb, chf_b _ _ _, ?_⟩
    refine ⟨b, _, rfl, hbd, upd_same, (upd_ne hbd).trans eb, fun q2 nq2 => ?_⟩
    have hqd : dp ≠ q2 := fun z => by rw [z, upd_same] at nq2; cases nq2
    refine ⟨_, rfl, _, rfl, upd_same, (upd_ne hqd).trans upd_same, [(Sum.inr x, .ref bb)], rfl, by show 1 ≤ 15; decide, ?_, ?_⟩
    · rw [mergeN _ _ ok.nd, byN_len]
      have h6 := sizeLine_eq
      have h7 := ok.len
      show c.names.length + 1 < sizeLine
      omega
    rw [mergeN _ _ ok.nd]
    have e1 : mergeK (byN c.names ba) (mergeK [] [((Sum.inr x : L2.Key), V.ref bb)]) = byN c.names (fun y => if y = x then bb else ba y) := putN_old hx
    rw [e1]
    generalize hG : upd (upd (upd (upd (upd H dp _) dp _) q2 _) q2 _) dp _ = H5
    have nq0 : H q2 = none := by
      rw [upd_ne (Ne.symm hqd), upd_ne (Ne.symm hqd)] at nq2
      exact nq2
    have s5 : Same H H5 := by
      rw [← hG]
      intro a ob e
      have h1 := ne_of_none e ndp
      have h2 := ne_of_none e nq0
      rw [upd_ne h1, upd_ne h2, upd_ne h2, upd_ne h1, upd_ne h1]
      exact e
    have e5 : H5 dp = some (.dK (byN c.names fun y => if y = x then bb else ba y)) := by rw [← hG]; exact upd_same
    clear hG
    repeat array_get_dec
    refine ⟨p, dx, _, rfl, s5 _ _ hp, chf_no (by decide +kernel) (by decide +kernel) (by decide +kernel), ?_⟩
    refine ⟨p, c, rfl, hc.mono s5, ok, kk.irr, fun r H6 ts ps s6 nr er hT hps htied => ?_⟩
    have s06 := s5.trans s6
    repeat array_get_dec
    refine ⟨p, dx, _, rfl, s06 _ _ hp, chf_no (by decide +kernel) (by decide +kernel) (by decide +kernel), ?_⟩
    refine ⟨p, c, rfl, hc.mono s06, fun op H7 s7 nop eop => ?_⟩
    have s07 := s06.trans s7
    repeat array_get_dec
    refine ⟨rfl, rfl, ?_⟩
    have s57 := s6.trans s7
    refine go_chart (lo := fun y => if y = x then l else c.lo y) (hi := fun y => if y = x then h else c.hi y) (s57 _ _ e5) ok.nd ok.len (fun y hy => ⟨(kk.nm y hy).1, (kk.nm y hy).2, ?_, (kk.withB (x := x) (l := l) (h := h) ⟨a1, a2, a3⟩).ok.bnd y hy⟩) (.inl (s7 _ _ er)) (hT.same s7) hps (.inl eop) ok.oin fun cp H8 s8 ncp hch hcan => ?_
    · show BndAt CB H7 (if y = x then bb else ba y) (if y = x then l else c.lo y) (if y = x then h else c.hi y)
      by_cases e : y = x
      · rw [if_pos e, if_pos e, if_pos e]
        exact hB.mono s07
      · rw [if_neg e, if_neg e, if_neg e]
        exact (hba y hy).mono s07
    exact q cp H8 (s07.trans s8) (s07.free ncp) (bound_of kk htied hch)
abbrev N_Bounds_exact : List Str := ["cls", "height"]
theorem sc_Bounds_exact : FnScope N_Bounds_exact ["cls", "height"] (defScope s_Bounds_exact) := ⟨rfl, rfl, rfl, by decide +kernel, rfl, by decide +kernel, by decide +kernel⟩
theorem ok_Bounds_exact {f : Addr} {fd : FuncData} {CB : Addr}  (F : Fun K "exact" "Bounds.exact" s_Bounds_exact f fd) (T : Txt K mg) (I_Bounds : ICal P w K mg base "Bounds" CB 4 ["self", "low", "high"] (spBInitY CB)) : FnOk P w K mg base CX0 6 f fd ["cls", "height"] (spExactN CB) := by
  refine F.ok sc_Bounds_exact (fun vs H Q E h => ?_) (fun cdv A outer s H vs Q E hr h => ?_)
  · obtain ⟨x, rfl, hx, q⟩ := h
    rfl
  · obtain ⟨x, rfl, hx, q⟩ := h
    refine ⟨_, (pss_one (ps_ret (I_Bounds.peL (i := 0) (hr.mono (by decide)) rfl (Or.inl rfl) (pa_cons (pv 1) (pa_cons (pv 1) pa_nil))))), ?_⟩
    refine w_ret ?_
    refine w_makeL rfl ?_
    repeat array_get_dec
    intro y dy ny ndy hdy
    refine ⟨y, dy, x, x, rfl, upd_same, hx, hx, Int.le_refl _, rfl, ?_⟩
    refine q y _ (fun p o e => ?_) ny ⟨dy, upd_same⟩
    rw [upd_ne (ne_of_none e ny), upd_ne (ne_of_none e ny), upd_ne (ne_of_none e ndy)]
    exact e
abbrev N_Land_pinned : List Str := ["self", "places", "name"]
theorem sc_Land_pinned : FnScope N_Land_pinned ["self"] (defScope s_Land_pinned) := ⟨rfl, rfl, rfl, by decide +kernel, rfl, by decide +kernel, by decide +kernel⟩
theorem ok_Land_pinned {f : Addr} {fd : FuncData} {CL C CB : Addr} (HL : LdT K mg CL) (HC : ChT K mg C)  (F : Fun K "pinned" "Land.pinned" s_Land_pinned f fd) (T : Txt K mg) (E_exact : CCal P w K mg base "Bounds" CB "exact" 6 ["cls", "height"] (spExactN CB)) (M_ties : MCal P w K mg base C "ties" 1 ["self"] (spTiesN C CB)) (M_outlets : MCal P w K mg base C "outlets" 1 ["self"] (spOutsM C CB)) (I_Chart : IKal P w K mg base "Chart" C 4 ["self", "places", "ties", "outlets"] 2 ["outlets"] (fun vs zs => vs ++ zs) (spChInitV K C CB)) : FnOk P w K mg base CX0 8 f fd ["self"] (spPinnedK CL C CB) := by
  refine F.ok sc_Land_pinned (fun vs H Q E h => ?_) (fun cdv A outer s H vs Q E hr h => ?_)
  · obtain ⟨q, c, h, rfl, hl, kk, hb, qq⟩ := h
    rfl
  · obtain ⟨q, c, h, rfl, hl, kk, hb, qq⟩ := h
    refine ⟨_, (pss_cons (ps_lock (ps_setDc (i := 1) (own := [("name", 2)]) (g := gName 2) (tt := tYes) rfl sc_Land_pinned.nd rfl rfl (sw_dict rfl rfl rfl (by decide +kernel)) (pi_keys (pe_fld (pv 0) rfl)) (blkOk_by (N := N_Land_pinned) (sc := defScope s_Land_pinned) (by decide +kernel)) (fun _ _ _ _ _ => pg_name (i := 2) sc_Land_pinned.nd rfl (Or.inl rfl)) (fun _ _ _ _ _ => pts_nil) (fun _ _ _ _ _ => (pv 2)) (fun _ _ _ _ _ => (E_exact.pe (hr.mono (by decide)) (by rfl) (pa_cons (pe_dget (hu_of hr) (pe_fldK (K' := K) rfl (pv 0) rfl) (pv 2) (fun _ _ => rfl)) pa_nil)))))
    (pss_one (ps_ret (I_Chart.pk (hr.mono (by decide)) (by rfl) (pa_cons (pv 1) (pa_cons (M_ties.pe0 HC.c.cl (hr.mono (by decide)) (pe_fld (pv 0) rfl)) pa_nil)) (pk_cons (M_outlets.pe0 HC.c.cl (hr.mono (by decide)) (pe_fld (pv 0) rfl)) pk_nil))))), ?_⟩
    have ok := kk.ok
    have hh : ∀ x ∈ c.names, heightB (h x) = true := fun x hx => by
      have a := hb x hx
      have d := ok.bnd x hx
      unfold heightB
      rw [decide_eq_true (by omega), decide_eq_true (by omega)]
      rfl
    have hl0 := hl
    obtain ⟨dx, cp, hp, e1, hc, e3⟩ := hl0
    have hc0 := hc
    obtain ⟨dxc, b, t, o, ec, _⟩ := hc0
    have hlen := ok.len
    refine w_seq ?_
    refine ⟨hp, _, e3, trivial, fun od => ?_⟩
    have hq : q ≠ hp := fun z => by
      rw [z, e3] at e1
      cases e1
    refine w_asg ?_
    refine ⟨_, rfl, ?_⟩
    refine ⟨q, CL, dx, _, _, rfl, (upd_ne hq).trans e1, HL.c.cl, HL.nh, ldf_h _ _, ?_⟩
    refine ⟨hp, od, rfl, .inl ⟨_, upd_same, fun D nD => ?_⟩⟩
    generalize hL : upd H hp (.frz od (.dK (byI c.names h))) = H1 at nD ⊢
    have e1t : H1 hp = some (.frz od (.dK (byI c.names h))) := by rw [← hL]; exact upd_same
    have k1 : ∀ a o, a ≠ hp → H a = some o → H1 a = some o := fun a o h e => by rw [← hL]; exact (upd_ne h).trans e
    have hDt : D ≠ hp := fun z => by rw [z, e1t] at nD; cases nD
    have e11 := k1 _ _ hq e1
    refine dc_it walk_keys (fun i H' => Same H1 H' ∧ ∃ ba : Str → Addr, H' D = some (.dK (byN (c.names.take i) ba)) ∧ ∀ x ∈ c.names.take i, BndAt CB H' (ba x) (h x) (h x)) ⟨same_upd nD, fun _ => D, upd_same, fun x hx => nomatch hx⟩ (fun i H' _ hP => hP.1 _ _ e1t) (fun i x H2 H3 hi hP hY => ?_) (fun H' hP => ?_)
    · obtain ⟨s, ba, eD, hba⟩ := hP
      obtain ⟨rfl, k, v, hk, rfl⟩ := hY
      obtain ⟨x, hx, rfl, rfl⟩ := byV_get (g := fun x => V.int (h x)) hk
      have hxl := List.mem_of_getElem? hx
      have htk : c.names.take (i + 1) = c.names.take i ++ [x] := by rw [List.take_add_one, hx]; rfl
      have hnz : x ∉ c.names.take i := by
        have h1 : (c.names.take (i + 1)).Nodup := ok.nd.sublist (List.take_sublist _ _)
        rw [htk, List.nodup_append] at h1
        exact fun hm => h1.2.2 x hm x (List.mem_singleton.mpr rfl) rfl
      refine ⟨rfl, tyes ?_⟩
      repeat array_get_dec
      refine w_cm ?_
      repeat array_get_dec
      refine ⟨rfl, ?_⟩
      repeat array_get_dec
      refine ⟨q, CL, dx, _, _, rfl, s _ _ e11, HL.c.cl, HL.nh, ldf_h _ _, ?_⟩
      repeat array_get_dec
      refine ⟨hp, _, rfl, .inl ⟨_, Sum.inr x, .inr ⟨_, s _ _ e1t⟩, rfl, (valV_byI hxl).symm⟩, ?_⟩
      repeat array_get_dec
      refine ⟨h x, rfl, hh x hxl, fun y H5 s5 ny hb => ?_⟩
      have eD5 := s5 _ _ eD
      have up : ∀ {z : Addr} {l u : Int} {ob : HO}, BndAt CB H5 z l u → BndAt CB (L2.upd H5 D ob) z l u := fun {z} {l} {u} {ob} ⟨d, e⟩ => ⟨d, (upd_ne (fun w => by rw [w, eD5] at e; cases e)).trans e⟩
      refine ⟨_, Sum.inr x, rfl, eD5, ?_, Same.at (s.trans s5) nD, fun z => if z = x then y else ba z, ?_, fun z hz => ?_⟩
      · rw [byN_len, List.length_take]
        exact small1000 (by omega)
      · rw [putK_byN hnz, ← htk, upd_same]
      · dsimp only
        by_cases hzx : z = x
        · rw [if_pos hzx, hzx]
          exact up hb
        · rw [if_neg hzx]
          rw [htk] at hz
          rcases List.mem_append.mp hz with g | g
          · exact up ((hba z g).mono s5)
          · exact absurd (List.mem_singleton.mp g) hzx
    obtain ⟨s2, ba, eD, hba⟩ := hP
    rw [byI_len, List.take_of_length_le (Nat.le_refl _)] at eD hba
    refine w_gName ?_
    refine ⟨s2 _ _ e1t, ?_⟩
    have hDh : D ≠ hp := hDt
    generalize hG : upd H' hp (.dK (byI c.names h)) = H3
    have s3 : Same H H3 := fun a ob e => by
      rw [← hG]
      by_cases z : a = hp
      · rw [z, upd_same, ← e3, ← z]
        exact e
      · rw [upd_ne z]
        exact s2 _ _ (k1 _ _ z e)
    have eD3 : H3 D = some (.dK (byN c.names ba)) := by rw [← hG]; exact (upd_ne hDh).trans eD
    have hb3 : ∀ x ∈ c.names, BndAt CB H3 (ba x) (h x) (h x) := fun x hx => by
      obtain ⟨d, e⟩ := hba x hx
      refine ⟨d, ?_⟩
      rw [← hG]
      exact (upd_ne (fun w => by rw [w, s2 _ _ e1t] at e; cases e)).trans e
    have nD3 : H D = none := by
      cases hz : H D with
      | none => rfl
      | some ob =>
        have := k1 D ob hDt hz
        rw [this] at nD
        cases nD
    clear hG
    repeat array_get_dec
    refine ⟨q, CL, dx, _, _, rfl, s3 _ _ e1, HL.c.cl, HL.nc, ldf_c _ _, ?_⟩
    repeat array_get_dec
    refine ⟨cp, dxc, _, rfl, s3 _ _ ec, chf_no (by decide +kernel) (by decide +kernel) (by decide +kernel), ?_⟩
    refine ⟨cp, c, rfl, hc.mono s3, ok, kk.irr, fun r H6 ts ps s6 nr er hT hps htied => ?_⟩
    have s06 := s3.trans s6
    repeat array_get_dec
    refine ⟨q, CL, dx, _, _, rfl, s06 _ _ e1, HL.c.cl, HL.nc, ldf_c _ _, ?_⟩
    repeat array_get_dec
    refine ⟨cp, dxc, _, rfl, s06 _ _ ec, chf_no (by decide +kernel) (by decide +kernel) (by decide +kernel), ?_⟩
    refine ⟨cp, c, rfl, hc.mono s06, fun op H7 s7 nop eop => ?_⟩
    have s07 := s06.trans s7
    repeat array_get_dec
    refine ⟨rfl, rfl, ?_⟩
    have s37 := s6.trans s7
    refine go_chart (lo := h) (hi := h) (s37 _ _ eD3) ok.nd ok.len (fun y hy => ⟨(kk.nm y hy).1, (kk.nm y hy).2, (hb3 y hy).mono s37, (kk.pin hb).ok.bnd y hy⟩) (.inl (s7 _ _ er)) (hT.same s7) hps (.inl eop) ok.oin fun yp H8 s8 nyp hch hcan => ?_
    exact qq yp H8 (s07.trans s8) (s07.free nyp) (bound_of kk htied hch)
abbrev N_nearest_height : List Str := ["bounds", "level"]
theorem sc_nearest_height : FnScope N_nearest_height ["bounds", "level"] (defScope s_nearest_height) := ⟨rfl, rfl, rfl, by decide +kernel, rfl, by decide +kernel, by decide +kernel⟩
theorem ok_nearest_height {f : Addr} {fd : FuncData} {CB : Addr} (B : BnT K mg CB)  (F : Fun K "nearest_height" "nearest_height" s_nearest_height f fd) (T : Txt K mg) : FnOk P w K mg base CX0 1 f fd ["bounds", "level"] (spNearB CB) := by
  refine F.ok sc_nearest_height (fun vs H Q E h => ?_) (fun cdv A outer s H vs Q E hr h => ?_)
  · obtain ⟨b, l, h, t, rfl, ⟨dx, e1⟩, q⟩ := h
    rfl
  · obtain ⟨b, l, h, t, rfl, ⟨dx, e1⟩, q⟩ := h
    refine ⟨_, (pss_one (ps_ret (pe_callB (call_max2 rfl) (by rfl) T.m_max (by decide +kernel) (pa_cons (pe_fld (pv 0) rfl) (pa_cons (pe_callB (call_min2 rfl) (by rfl) T.m_min (by decide +kernel) (pa_cons (pe_fld (pv 0) rfl) (pa_cons (pv 1) pa_nil))) pa_nil))))), ?_⟩
    repeat array_get_dec
    refine ⟨b, CB, dx, _, _, rfl, e1, B.c.cl, B.nl, bf_low _ _, ?_⟩
    repeat array_get_dec
    refine ⟨b, CB, dx, _, _, rfl, e1, B.c.cl, B.nh, bf_high _ _, ?_⟩
    repeat array_get_dec
    refine ⟨_, _, rfl, ?_⟩
    repeat array_get_dec
    refine ⟨_, _, rfl, ?_⟩
    exact q
abbrev N_Land_clipped : List Str := ["cls", "chart", "level", "name"]
theorem sc_Land_clipped : FnScope N_Land_clipped ["cls", "chart", "level"] (defScope s_Land_clipped) := ⟨rfl, rfl, rfl, by decide +kernel, rfl, by decide +kernel, by decide +kernel⟩
theorem ok_Land_clipped {f : Addr} {fd : FuncData} {CL C CB : Addr} (HC : ChT K mg C)  (F : Fun K "clipped" "Land.clipped" s_Land_clipped f fd) (T : Txt K mg) (C_check_chart : Cal P w K mg base "check_chart" 1 ["chart"] (spCheckC C CB)) (C_check_height : Cal P w K mg base "check_height" 3 ["value"] spCheckH) (I_Land : ICal P w K mg base "Land" CL 7 ["self", "chart", "heights"] (spLdInitC CL C CB)) (C_nearest_height : Cal P w K mg base "nearest_height" 1 ["bounds", "level"] (spNearB CB)) (G_item : OCal P w K mg base C "__getitem__" 4 ["self", "name"] (spItem C CB)) (M_names : MCal P w K mg base C "names" 1 ["self"] (spNames C CB)) : FnOk P w K mg base CX0 9 f fd ["cls", "chart", "level"] (spClipped CL C CB) := by
  refine F.ok sc_Land_clipped (fun vs H Q E h => ?_) (fun cdv A outer s H vs Q E hr h => ?_)
  · obtain ⟨p, c, t, rfl, hc, ok, ht, q⟩ := h
    rfl
  · obtain ⟨p, c, t, rfl, hc, ok, ht, q⟩ := h
    refine ⟨_, (pss_cons (ps_expr (pe_cal C_check_chart (hr.mono (by decide)) (by rfl) (pa_cons (pv 1) pa_nil)))
    (pss_cons (ps_expr (pe_cal C_check_height (hr.mono (by decide)) (by rfl) (pa_cons (pv 2) pa_nil)))
    (pss_one (ps_ret (I_Land.peL (i := 0) (hr.mono (by decide)) rfl (Or.inl rfl) (pa_cons (pv 1) (pa_cons (pe_dc (own := [("name", 3)]) (g := gName 3) (tt := tYes) rfl sc_Land_clipped.nd (pi_list (M_names.pe0 HC.c.cl (hr.mono (by decide)) (pv 1))) (blkOk_by (N := N_Land_clipped) (sc := defScope s_Land_clipped) (by decide +kernel)) (fun _ _ _ _ _ => pg_name (i := 3) sc_Land_clipped.nd rfl (Or.inl rfl)) (fun _ _ _ _ _ => pts_nil) (fun _ _ _ _ _ => (pv 3)) (fun _ _ _ _ _ => (pe_cal C_nearest_height (hr.mono (by decide)) (by rfl) (pa_cons (G_item.sub (hr.mono (by decide)) (pv 1) (pv 3) (fun _ _ => rfl)) (pa_cons (pv 2) pa_nil))))) pa_nil))))))), ?_⟩
    obtain ⟨dx, b, tt, o, e0, _⟩ := id hc
    repeat array_get_dec
    refine ⟨p, c, rfl, hc, ?_⟩
    repeat array_get_dec
    refine ⟨t, rfl, ht, ?_⟩
    repeat array_get_dec
    refine w_makeL rfl ?_
    repeat array_get_dec
    refine ⟨p, dx, _, rfl, e0, chf_no (by decide +kernel) (by decide +kernel) (by decide +kernel), ?_⟩
    refine ⟨p, c, rfl, hc, fun r H1 s1 nr er => ?_⟩
    repeat array_get_dec
    refine ⟨r, rfl, ⟨_, SqL.of er⟩, fun D nD => ?_⟩
    have hl2 : (c.names.map V.str).length = c.names.length := List.length_map _
    have hlen := ok.len
    refine dc_list (xs := c.names.map V.str) (fun i H' => Same H1 H' ∧ H' D = some (.dK (byI (c.names.take i) fun x => nearI (c.lo x) (c.hi x) t))) ⟨same_upd nD, upd_same⟩ (fun i H' _ hP => SqL.of (hP.1 _ _ er)) (fun i x H' hx hP => ?_) (fun H2 hP => ?_)
    · obtain ⟨s, eD⟩ := hP
      obtain ⟨z, hz, rfl⟩ := strs_get hx
      obtain ⟨htk, hnz, hzl, _⟩ := take_at ok.nd hz
      have hc3 := hc.mono (s1.trans s)
      obtain ⟨dx3, b3, t3, o3, hp3, _⟩ := id hc3
      refine ⟨rfl, tyes ?_⟩
      repeat array_get_dec
      refine ⟨p, dx3, _, rfl, hp3, p, z, c, rfl, hc3, hzl, fun a ha => ?_⟩
      repeat array_get_dec
      refine ⟨a, _, _, t, rfl, ha, ?_⟩
      refine ⟨_, Sum.inr z, rfl, eD, ?_, Same.at s nD, ?_⟩
      · rw [byI_len, List.length_take]
        exact small1000 (by omega)
      · rw [upd_same, htk]
        have := putK_byI (f := fun x => nearI (c.lo x) (c.hi x) t) hnz
        exact congrArg some (congrArg HO.dK this)
    obtain ⟨s, eD⟩ := hP
    rw [hl2, List.take_of_length_le (Nat.le_refl _)] at eD
    have s12 := s1.trans s
    repeat array_get_dec
    refine go_land (hc.mono s12) ok eD ok.nd (fun x => Iff.rfl) (fun x hx => nearI_in (ok.bnd x hx).2.1) fun y H3 s3 n3 hl => ?_
    exact q y H3 (s12.trans s3) (s12.free n3) hl
abbrev N_least_pass : List Str := ["chart", "heights", "one", "other"]
theorem sc_least_pass : FnScope N_least_pass ["chart", "heights", "one", "other"] (defScope s_least_pass) := ⟨rfl, rfl, rfl, by decide +kernel, rfl, by decide +kernel, by decide +kernel⟩
theorem ok_least_pass {f : Addr} {fd : FuncData} {C CB : Addr}  (F : Fun K "least_pass" "least_pass" s_least_pass f fd) (T : Txt K mg) {pE : Addr} (D_levels_from : CalD P w K mg base "levels_from" 6 ["chart", "heights", "starts", "stops"] [V.ref pE] (spLevF K C CB)) (hE : ∀ H : Hp, SqT K H pE []) : FnOk P w K mg base CX0 7 f fd ["chart", "heights", "one", "other"] (spLeastP C CB) := by
  refine F.ok sc_least_pass (fun vs H Q E h => ?_) (fun cdv A outer s H vs Q E hr h => ?_)
  · obtain ⟨p, a, x, y, c, f, rfl, hc, ok, ha, hx, q⟩ := h
    rfl
  · obtain ⟨p, a, x, y, c, f, rfl, hc, ok, ha, hx, q⟩ := h
    refine ⟨_, (pss_one (ps_ret (pe_dget1 (hu_of hr) (pe_calD D_levels_from (hr.mono (by decide)) (by rfl) (pa_cons (pv 0) (pa_cons (pv 1) (pa_cons (pe_disp (pps_cons (pv 2) (pe_dget (hu_of hr) (pv 1) (pv 2) (fun _ _ => rfl)) pps_nil) (by rfl) (by rfl) (by simp) (by decide)) pa_nil)))) (pv 3) ⟨rfl, rfl, rfl, rfl⟩))), ?_⟩
    repeat array_get_dec
    refine w_dget1 ?_
    repeat array_get_dec
    refine fun sp nsp => ?_
    refine ⟨_, rfl, _, rfl, _, rfl, a, _, rfl, .inl ⟨_, Sum.inr x, .inl ((same_upd nsp) _ _ ha), rfl, (valV_byI hx).symm⟩, upd_same, [(Sum.inr x, .int (f x))], rfl, by show 1 ≤ 15; decide, ?_⟩
    rw [upd_upd]
    generalize hG : upd H sp _ = H2
    have s2 : Same H H2 := by rw [← hG]; exact same_upd nsp
    have e2 : H2 sp = some (.dK (byI [x] f)) := by rw [← hG]; exact upd_same
    clear hG
    repeat array_get_dec
    refine ⟨p, a, sp, pE, c, f, [x], f, [], rfl, hc.mono s2, ok, s2 _ _ ha, e2, by simp, (fun y hy => by rw [List.mem_singleton.mp hy]; exact hx), .inr (hE _), fun lq H3 ks lv s3 nlq elq hL => ?_⟩
    have s03 := s2.trans s3
    refine ⟨lq, rfl, .inl ⟨_, .inl elq⟩, ?_⟩
    repeat array_get_dec
    obtain ⟨hkn, hkm, hkF⟩ := hL
    have hps : ∀ o : Option Int, (∀ t, (∃ d, o = some d ∧ d ≤ t) ↔ (y ∈ ks ∧ lv y ≤ t)) → PassS c f x y o := fun o ho t => (ho t).trans ((hkF t y).trans (fl_rch ok hx))
    by_cases hy : y ∈ ks
    · refine ⟨_, dget_byI elq y, ?_⟩
      rw [if_pos hy]
      exact q (some (lv y)) H3 s03 (hps _ fun t => ⟨fun ⟨d, hd, hdt⟩ => by cases hd; exact ⟨hy, hdt⟩, fun h => ⟨_, rfl, h.2⟩⟩)
    · refine ⟨_, dget_byI elq y, ?_⟩
      rw [if_neg hy]
      exact q none H3 s03 (hps _ fun t => ⟨fun ⟨d, hd, _⟩ => (nomatch hd), fun h => absurd h.1 hy⟩)
abbrev N_check_passes : List Str := ["chart", "one", "other"]
theorem sc_check_passes : FnScope N_check_passes ["chart", "one", "other"] (defScope s_check_passes) := ⟨rfl, rfl, rfl, by decide +kernel, rfl, by decide +kernel, by decide +kernel⟩
theorem ok_check_passes {f : Addr} {fd : FuncData} {C CB : Addr}  (F : Fun K "check_passes" "check_passes" s_check_passes f fd) (T : Txt K mg) (C_check_chart : Cal P w K mg base "check_chart" 1 ["chart"] (spCheckC C CB)) (C_check_place : Cal P w K mg base "check_place" 3 ["chart", "name"] (spCheckPl C CB)) : FnOk P w K mg base CX0 4 f fd ["chart", "one", "other"] (spCheckPs C CB) := by
  refine F.ok sc_check_passes (fun vs H Q E h => ?_) (fun cdv A outer s H vs Q E hr h => ?_)
  · obtain ⟨p, x, y, c, rfl, hc, hx, hy, q⟩ := h
    rfl
  · obtain ⟨p, x, y, c, rfl, hc, hx, hy, q⟩ := h
    refine ⟨_, (pss_cons (ps_expr (pe_cal C_check_chart (hr.mono (by decide)) (by rfl) (pa_cons (pv 0) pa_nil)))
    (pss_cons (ps_expr (pe_cal C_check_place (hr.mono (by decide)) (by rfl) (pa_cons (pv 0) (pa_cons (pv 1) pa_nil))))
    (pss_one (ps_expr (pe_cal C_check_place (hr.mono (by decide)) (by rfl) (pa_cons (pv 0) (pa_cons (pv 2) pa_nil))))))), ?_⟩
    repeat array_get_dec
    refine ⟨p, c, rfl, hc, ?_⟩
    repeat array_get_dec
    refine ⟨p, x, c, rfl, hc, hx, ?_⟩
    repeat array_get_dec
    exact ⟨p, y, c, rfl, hc, hy, q⟩
abbrev N_pass_level : List Str := ["land", "one", "other"]
theorem sc_pass_level : FnScope N_pass_level ["land", "one", "other"] (defScope s_pass_level) := ⟨rfl, rfl, rfl, by decide +kernel, rfl, by decide +kernel, by decide +kernel⟩
theorem ok_pass_level {f : Addr} {fd : FuncData} {CL C CB : Addr} (HL : LdT K mg CL)  (F : Fun K "pass_level" "pass_level" s_pass_level f fd) (T : Txt K mg) (C_check_land : Cal P w K mg base "check_land" 1 ["land"] (spCheckL CL C CB)) (C_check_passes : Cal P w K mg base "check_passes" 4 ["chart", "one", "other"] (spCheckPs C CB)) (C_least_pass : Cal P w K mg base "least_pass" 7 ["chart", "heights", "one", "other"] (spLeastP C CB)) (M_heights : MCal P w K mg base CL "heights" 1 ["self"] (spLdHs CL C CB)) : FnOk P w K mg base CX0 8 f fd ["land", "one", "other"] (spPassL CL C CB) := by
  refine F.ok sc_pass_level (fun vs H Q E h => ?_) (fun cdv A outer s H vs Q E hr h => ?_)
  · obtain ⟨qp, x, y, c, h, rfl, hl, ok, hx, hy, q⟩ := h
    rfl
  · obtain ⟨qp, x, y, c, h, rfl, hl, ok, hx, hy, q⟩ := h
    refine ⟨_, (pss_cons (ps_expr (pe_cal C_check_land (hr.mono (by decide)) (by rfl) (pa_cons (pv 0) pa_nil)))
    (pss_cons (ps_expr (pe_cal C_check_passes (hr.mono (by decide)) (by rfl) (pa_cons (pe_fld (pv 0) rfl) (pa_cons (pv 1) (pa_cons (pv 2) pa_nil)))))
    (pss_one (ps_ret (pe_cal C_least_pass (hr.mono (by decide)) (by rfl) (pa_cons (pe_fld (pv 0) rfl) (pa_cons (M_heights.pe0 HL.c.cl (hr.mono (by decide)) (pv 0)) (pa_cons (pv 1) (pa_cons (pv 2) pa_nil))))))))), ?_⟩
    obtain ⟨dx, cp, hp, e1, hc, e2⟩ := id hl
    repeat array_get_dec
    refine ⟨qp, c, h, rfl, hl, ?_⟩
    repeat array_get_dec
    refine ⟨qp, CL, dx, _, _, rfl, e1, HL.c.cl, HL.nc, ldf_c _ _, ?_⟩
    repeat array_get_dec
    refine ⟨cp, x, y, c, rfl, hc, hx, hy, ?_⟩
    repeat array_get_dec
    refine ⟨qp, CL, dx, _, _, rfl, e1, HL.c.cl, HL.nc, ldf_c _ _, ?_⟩
    repeat array_get_dec
    refine ⟨qp, dx, _, rfl, e1, ldf_no (by decide +kernel) (by decide +kernel), ?_⟩
    refine ⟨qp, c, h, rfl, hl, ok.len, fun r H1 s1 n1 er => ?_⟩
    repeat array_get_dec
    exact ⟨cp, r, x, y, c, h, rfl, hc.mono s1, ok, er, hx, fun o H2 s2 hp => q o H2 (s1.trans s2) hp⟩
abbrev N_low_pass : List Str := ["chart", "one", "other"]
theorem sc_low_pass : FnScope N_low_pass ["chart", "one", "other"] (defScope s_low_pass) := ⟨rfl, rfl, rfl, by decide +kernel, rfl, by decide +kernel, by decide +kernel⟩
theorem ok_low_pass {f : Addr} {fd : FuncData} {C CB : Addr}  (F : Fun K "low_pass" "low_pass" s_low_pass f fd) (T : Txt K mg) (C_check_passes : Cal P w K mg base "check_passes" 4 ["chart", "one", "other"] (spCheckPs C CB)) (C_least_pass : Cal P w K mg base "least_pass" 7 ["chart", "heights", "one", "other"] (spLeastP C CB)) (C_low_heights : Cal P w K mg base "low_heights" 6 ["chart"] (spEndsD C CB true)) : FnOk P w K mg base CX0 8 f fd ["chart", "one", "other"] (spPassC C CB true) := by
  refine F.ok sc_low_pass (fun vs H Q E h => ?_) (fun cdv A outer s H vs Q E hr h => ?_)
  · obtain ⟨p, x, y, c, rfl, hc, ok, hx, hy, q⟩ := h
    rfl
  · obtain ⟨p, x, y, c, rfl, hc, ok, hx, hy, q⟩ := h
    refine ⟨_, (pss_cons (ps_expr (pe_cal C_check_passes (hr.mono (by decide)) (by rfl) (pa_cons (pv 0) (pa_cons (pv 1) (pa_cons (pv 2) pa_nil)))))
    (pss_one (ps_ret (pe_cal C_least_pass (hr.mono (by decide)) (by rfl) (pa_cons (pv 0) (pa_cons (pe_cal C_low_heights (hr.mono (by decide)) (by rfl) (pa_cons (pv 0) pa_nil)) (pa_cons (pv 1) (pa_cons (pv 2) pa_nil)))))))), ?_⟩
    repeat array_get_dec
    refine ⟨p, x, y, c, rfl, hc, hx, hy, ?_⟩
    repeat array_get_dec
    refine ⟨p, c, rfl, hc, ok, fun r H1 s1 n1 er => ?_⟩
    repeat array_get_dec
    exact ⟨p, r, x, y, c, _, rfl, hc.mono s1, ok, er, hx, fun o H2 s2 hp => q o H2 (s1.trans s2) hp⟩
abbrev N_high_pass : List Str := ["chart", "one", "other"]
theorem sc_high_pass : FnScope N_high_pass ["chart", "one", "other"] (defScope s_high_pass) := ⟨rfl, rfl, rfl, by decide +kernel, rfl, by decide +kernel, by decide +kernel⟩
theorem ok_high_pass {f : Addr} {fd : FuncData} {C CB : Addr}  (F : Fun K "high_pass" "high_pass" s_high_pass f fd) (T : Txt K mg) (C_check_passes : Cal P w K mg base "check_passes" 4 ["chart", "one", "other"] (spCheckPs C CB)) (C_least_pass : Cal P w K mg base "least_pass" 7 ["chart", "heights", "one", "other"] (spLeastP C CB)) (C_high_heights : Cal P w K mg base "high_heights" 6 ["chart"] (spEndsD C CB false)) : FnOk P w K mg base CX0 8 f fd ["chart", "one", "other"] (spPassC C CB false) := by
  refine F.ok sc_high_pass (fun vs H Q E h => ?_) (fun cdv A outer s H vs Q E hr h => ?_)
  · obtain ⟨p, x, y, c, rfl, hc, ok, hx, hy, q⟩ := h
    rfl
  · obtain ⟨p, x, y, c, rfl, hc, ok, hx, hy, q⟩ := h
    refine ⟨_, (pss_cons (ps_expr (pe_cal C_check_passes (hr.mono (by decide)) (by rfl) (pa_cons (pv 0) (pa_cons (pv 1) (pa_cons (pv 2) pa_nil)))))
    (pss_one (ps_ret (pe_cal C_least_pass (hr.mono (by decide)) (by rfl) (pa_cons (pv 0) (pa_cons (pe_cal C_high_heights (hr.mono (by decide)) (by rfl) (pa_cons (pv 0) pa_nil)) (pa_cons (pv 1) (pa_cons (pv 2) pa_nil)))))))), ?_⟩
    repeat array_get_dec
    refine ⟨p, x, y, c, rfl, hc, hx, hy, ?_⟩
    repeat array_get_dec
    refine ⟨p, c, rfl, hc, ok, fun r H1 s1 n1 er => ?_⟩
    repeat array_get_dec
    exact ⟨p, r, x, y, c, _, rfl, hc.mono s1, ok, er, hx, fun o H2 s2 hp => q o H2 (s1.trans s2) hp⟩
abbrev N_part_around : List Str := ["chart", "start", "names", "found", "waiting", "here", "name"]
theorem sc_part_around : FnScope N_part_around ["chart", "start", "names"] (defScope s_part_around) := ⟨rfl, rfl, rfl, by decide +kernel, rfl, by decide +kernel, by decide +kernel⟩
theorem ok_part_around {f : Addr} {fd : FuncData} {C CB : Addr} (HC : ChT K mg C)  (F : Fun K "part_around" "part_around" s_part_around f fd) (T : Txt K mg) (M_neighbours : MCal P w K mg base C "neighbours" 4 ["self", "name"] (spNbrs C CB)) : FnOk P w K mg base CX0 5 f fd ["chart", "start", "names"] (spPartL C CB) := by
  refine F.ok sc_part_around (fun vs H Q E h => ?_) (fun cdv A outer s H vs Q E hr h => ?_)
  · obtain ⟨p, n, s, c, l, rfl, hc, ok, hn, hs, hnd, hl, q⟩ := h
    rfl
  · obtain ⟨p, n, s, c, l, rfl, hc, ok, hn, hs, hnd, hl, q⟩ := h
    refine ⟨_, (pss_cons (ps_set (i := 3) sc_part_around.nd rfl (.inl rfl) (pe_disp (pps_cons (pv 1) pe_bl pps_nil) (by rfl) (by rfl) (by simp) (by decide)))
    (pss_cons (ps_set (i := 4) sc_part_around.nd rfl (.inl rfl) (pe_lst (pa_cons (pv 1) pa_nil)))
    (pss_cons (ps_while PassesOwn.never (pt_truth (pv 4) (by intro _; rfl)) (pss_cons (ps_set (i := 5) sc_part_around.nd rfl (.inl rfl) (pe_bm0 PySem.F.plainAttrs_list PySem.F.slot_list_pop PySem.F.type_list_pop mtr_pop (pv 4)))
    (pss_one (ps_for PassesOwn.never rfl (pi_list (M_neighbours.pe HC.c.cl (hr.mono (by decide)) (pv 0) (pa_cons (pv 5) pa_nil))) (pg_name (i := 6) sc_part_around.nd rfl (.inl rfl))
    (pss_one (ps_if (PW.pt (pw_and (pt_cmpR op_in_seq (pv 6) (pv 2) (by rfl)) (pw_and1 (pt_cmp (pc_dnotin (hu_of hr) (pv 6) (pv 3)))))) (pss_cons (ps_dput (hu_of hr) (pv 3) (pv 6) pe_bl rfl)
    (pss_one (ps_expr (pe_bm PySem.F.plainAttrs_list PySem.F.slot_list_append PySem.F.type_list_append mtr_append (pv 4) (pa_cons (pv 6) pa_nil))))) pss_nil))))))
    (pss_one (ps_ret (pe_callB (call_sortedD rfl) (by rfl) T.m_sorted (by decide +kernel) (pa_cons (pv 3) pa_nil))))))), ?_⟩
    repeat array_get_dec
    refine fun fd nfd => ?_
    refine ⟨_, rfl, upd_same, [(Sum.inr s, .bl true)], rfl, by show 1 ≤ 15; decide, ?_⟩
    rw [upd_upd]
    generalize hG : upd H fd _ = H1
    have s1 : Same H H1 := by rw [← hG]; exact same_upd nfd
    have e1 : H1 fd = some (.dK (byT [s])) := by rw [← hG]; exact upd_same
    clear hG
    repeat array_get_dec
    refine ⟨by show 1 ≤ sizeLine; decide, fun wp nwp => ?_⟩
    generalize hG : upd H1 wp _ = H2
    have s2 : Same H1 H2 := by rw [← hG]; exact same_upd nwp
    have e2 : H2 wp = some (.lst (([s] : List Str).map V.str)) := by rw [← hG]; exact upd_same
    clear hG
    have e1 := s2 _ _ e1
    have s2 := s1.trans s2
    have nwp : H wp = none := s1.free nwp
    have hwf : wp ≠ fd := fun z => by rw [z, e1] at e2; cases e2
    repeat array_get_dec
    obtain ⟨W, hW⟩ : ∃ W : Nat → L2.St → Hp → Prop, W = fun m σ H' => ∃ (F Wt : List Str) (y5 y6 : Option V), σ = [some (.ref p), some (.str s), some (.ref n), some (.ref fd), some (.ref wp), y5, y6] ∧ Same H H' ∧ H' fd = some (.dK (byT F)) ∧ H' wp = some (.lst (Wt.map V.str)) ∧ F.Nodup ∧ Wt.Nodup ∧ s ∈ F ∧ (∀ x ∈ F, M9.Rch (Adj c) (· ∈ l) s x) ∧ (∀ x ∈ Wt, x ∈ F) ∧ (∀ x ∈ F, x ∉ Wt → ∀ y, Adj c x y → y ∈ l → y ∈ F) ∧ m = 2 * (l.length - F.length) + Wt.length := ⟨_, rfl⟩
    refine ⟨W, ⟨_, by rw [hW]; exact ⟨[s], [s], _, _, rfl, s2, e1, e2, by simp, by simp, by simp, fun x hx => by rw [List.mem_singleton.mp hx]; exact .refl hs, fun _ h => h, fun x hx hn => absurd hx hn, rfl⟩⟩, fun m σ H' hw => ?_⟩
    rw [hW] at hw
    obtain ⟨F, Wt, y5, y6, rfl, sH, eF, eW, hFn, hWn, hsF, hFr, hWF, hcl, rfl⟩ := hw
    have hFl : ∀ x ∈ F, x ∈ l := fun x hx => (hFr x hx).last
    have hFlen : F.length ≤ l.length := lists_sub hFn hFl
    have hF60 : F.length ≤ 60 := Nat.le_trans (lists_sub hFn fun x hx => hl x (hFl x hx)) ok.len
    have hW60 : Wt.length ≤ 60 := Nat.le_trans (lists_sub hWn hWF) hF60
    refine w_var rfl ?_
    refine ⟨_, .inl ⟨_, SqL.of eW, rfl⟩, ?_⟩
    rcases List.eq_nil_or_concat Wt with hw | ⟨Wt', here, hw⟩
    · subst hw
      refine iteF ?_
      repeat array_get_dec
      refine ⟨fd, _, F, rfl, .inl eF, ?_, by omega, fun ys r hp hsr nr => ?_⟩
      · unfold byT
        rw [List.map_map]
        rfl
      have hyn : ys.Nodup := hp.nodup_iff.mpr hFn
      refine q r _ ys (sH.trans (same_upd nr)) (sH.free nr) upd_same hyn hsr fun y => ?_
      rw [hp.mem_iff]
      exact ⟨hFr y, fun h => h.closed hsF fun a b ha hab hb => hcl a ha (fun h => nomatch h) b hab hb⟩
    · have hw : Wt = Wt' ++ [here] := by simpa using hw
      subst hw
      rw [if_pos (by simp)]
      refine ⟨fun σ' H' => ∃ m', m' < 2 * (l.length - F.length) + (Wt' ++ [here]).length ∧ W m' σ' H', fun _ _ h => h, ?_⟩
      have hhF : here ∈ F := hWF here (by simp)
      have hh := hl here (hFl here hhF)
      rw [List.nodup_append] at hWn
      have hhW : here ∉ Wt' := fun h => hWn.2.2 here h here (by simp) rfl
      repeat array_get_dec
      refine ⟨.inl ⟨rfl, _, SqL.of eW⟩, ?_⟩
      refine ⟨wp, _, .str here, rfl, rfl, eW, ?_, ?_⟩
      · rw [List.length_map, List.getElem?_map, List.length_append]
        show Option.map _ ((Wt' ++ [here])[Wt'.length + 1 - 1]?) = _
        rw [Nat.add_sub_cancel, List.getElem?_append_right (Nat.le_refl _), Nat.sub_self]
        rfl
      rw [List.map_append, List.map_singleton, List.dropLast_concat]
      generalize hG : upd H' wp _ = H3
      have s3 : Same H H3 := by rw [← hG]; exact Same.at sH nwp
      have e3 : H3 wp = some (.lst (Wt'.map V.str)) := by rw [← hG]; exact upd_same
      have eF3 : H3 fd = some (.dK (byT F)) := by rw [← hG]; exact (upd_ne hwf.symm).trans eF
      clear hG
      have hc3 := hc.mono s3
      have hc4 := hc3
      obtain ⟨dx3, b3, t3, o3, hp3, _⟩ := hc4
      repeat array_get_dec
      refine ⟨p, dx3, _, rfl, hp3, chf_no (by decide +kernel) (by decide +kernel) (by decide +kernel), ?_⟩
      repeat array_get_dec
      refine ⟨p, here, c, rfl, hc3, hh, fun r H4 s4 nr er => ?_⟩
      have hrw : r ≠ wp := fun z => by rw [z, e3] at nr; cases nr
      have hrf : r ≠ fd := fun z => by rw [z, eF3] at nr; cases nr
      repeat array_get_dec
      refine ⟨r, rfl, ⟨_, SqL.of er⟩, ?_⟩
      refine for_list (xs := (c.nbr here).map V.str) (fun i σ H' => ∃ (F2 W2 : List Str) (y6 : Option V), σ = [some (.ref p), some (.str s), some (.ref n), some (.ref fd), some (.ref wp), some (.str here), y6] ∧ Same H H' ∧ H' r = some (.lst ((c.nbr here).map V.str)) ∧ H' fd = some (.dK (byT F2)) ∧ H' wp = some (.lst (W2.map V.str)) ∧ F2.Nodup ∧ W2.Nodup ∧ s ∈ F2 ∧ here ∈ F2 ∧ (∀ x ∈ F2, M9.Rch (Adj c) (· ∈ l) s x) ∧ (∀ x ∈ W2, x ∈ F2) ∧ (∀ x ∈ F2, x ∉ W2 → x ≠ here → ∀ y, Adj c x y → y ∈ l → y ∈ F2) ∧ (∀ y ∈ (c.nbr here).take i, y ∈ l → y ∈ F2) ∧ 2 * (l.length - F2.length) + W2.length < 2 * (l.length - F.length) + (Wt' ++ [here]).length)
        ⟨F, Wt', _, rfl, s3.trans s4, er, s4 _ _ eF3, s4 _ _ e3, hFn, hWn.1, hsF, hhF, hFr, fun x hx => hWF x (List.mem_append.mpr (.inl hx)), fun x hx hxW hxh => hcl x hx (fun h => by
          rcases List.mem_append.mp h with h | h
          · exact hxW h
          · exact hxh (List.mem_singleton.mp h)), fun y hy => (nomatch hy), by rw [List.length_append]; show _ < _ + (Wt'.length + 1); omega⟩
        (fun i σ H' _ hP => by
          obtain ⟨_, _, _, _, _, er2, _⟩ := hP
          exact SqL.of er2) (fun i x σ H' hx hP => ?_) (fun σ H' hP => ?_)
      · obtain ⟨F2, W2, y6, rfl, s5, er2, eF5, eW5, h1, h2, h3, h4, h5, h6, h7, h8, h9⟩ := hP
        rw [List.getElem?_map] at hx
        obtain ⟨z, hz, rfl⟩ : ∃ z, (c.nbr here)[i]? = some z ∧ V.str z = x := by
          cases h : (c.nbr here)[i]? with
          | none => rw [h] at hx; cases hx
          | some z => rw [h] at hx; exact ⟨z, rfl, Option.some.inj hx⟩
        have hzm := List.mem_of_getElem? hz
        have htk : (c.nbr here).take (i + 1) = (c.nbr here).take i ++ [z] := by rw [List.take_add_one, hz]; rfl
        have hF2l : ∀ x ∈ F2, x ∈ l := fun x hx => (h5 x hx).last
        have hF2len : F2.length ≤ l.length := lists_sub h1 hF2l
        have hF260 : F2.length ≤ 60 := Nat.le_trans (lists_sub h1 fun x hx => hl x (hF2l x hx)) ok.len
        have hW260 : W2.length ≤ 60 := Nat.le_trans (lists_sub h2 h6) hF260
        repeat array_get_dec
        refine ⟨n, _, rfl, .inl (SqL.of (s5 _ _ hn)), rfl, L9.flat_strs _, ?_⟩
        rw [if_neg (by decide), inV_strs]
        refine w_isBl ?_
        by_cases hzl : z ∈ l
        · rw [decide_eq_true hzl]
          repeat array_get_dec
          refine ⟨fd, _, rfl, .inl ⟨_, Sum.inr z, .inl eF5, rfl, rfl⟩, ?_⟩
          rw [valV_byT]
          by_cases hzF : z ∈ F2
          · rw [decide_eq_true hzF]
            repeat array_get_dec
            refine ⟨F2, W2, _, rfl, s5, er2, eF5, eW5, h1, h2, h3, h4, h5, h6, h7, fun y hy hyl => ?_, h9⟩
            rw [htk] at hy
            rcases List.mem_append.mp hy with h | h
            · exact h8 y h hyl
            · rw [List.mem_singleton.mp h]; exact hzF
          · rw [decide_eq_false hzF]
            repeat array_get_dec
            refine ⟨fd, _, rfl, DPut.k (k := Sum.inr z) eF5 (by rw [byT_len]; exact small1000 (by omega)), ?_⟩
            repeat array_get_dec
            have eW6 := (upd_ne (o := HO.dK (putK (byT F2) (Sum.inr z) (V.bl true))) hwf).trans eW5
            refine ⟨.inl ⟨rfl, _, SqL.of eW6⟩, ?_⟩
            repeat array_get_dec
            refine ⟨wp, _, _, rfl, rfl, eW6, by rw [List.length_map]; exact small1000 (by omega), ?_⟩
            have hlt : F2.length < l.length := by
              have h10 : (z :: F2).length ≤ l.length := lists_sub (List.nodup_cons.mpr ⟨hzF, h1⟩) fun x hx => by
                rcases List.mem_cons.mp hx with h | h
                · rw [h]; exact hzl
                · exact hF2l x h
              exact h10
            refine ⟨F2 ++ [z], W2 ++ [z], _, rfl, Same.at (Same.at s5 nfd) nwp, ?_, ?_, ?_, ?_, ?_, ?_, ?_, ?_, ?_, ?_, ?_, ?_⟩
            · rw [upd_ne hrw, upd_ne hrf]; exact er2
            · rw [upd_ne hwf.symm, upd_same, putK_byT hzF]
            · rw [upd_same, List.map_append]; rfl
            · rw [List.nodup_append]
              exact ⟨h1, by simp, fun a ha b hb e => hzF (by rw [← List.mem_singleton.mp hb, ← e]; exact ha)⟩
            · rw [List.nodup_append]
              exact ⟨h2, by simp, fun a ha b hb e => hzF (by rw [← List.mem_singleton.mp hb, ← e]; exact h6 a ha)⟩
            · exact List.mem_append.mpr (.inl h3)
            · exact List.mem_append.mpr (.inl h4)
            · intro x hx
              rcases List.mem_append.mp hx with h | h
              · exact h5 x h
              · rw [List.mem_singleton.mp h]
                exact .step (h5 here h4) ⟨hh, hzm⟩ hzl
            · intro x hx
              rcases List.mem_append.mp hx with h | h
              · exact List.mem_append.mpr (.inl (h6 x h))
              · exact List.mem_append.mpr (.inr h)
            · intro x hx hxW hxh y hxy hyl
              rcases List.mem_append.mp hx with h | h
              · exact List.mem_append.mpr (.inl (h7 x h (fun h2 => hxW (List.mem_append.mpr (.inl h2))) hxh y hxy hyl))
              · exact absurd (List.mem_append.mpr (.inr h)) hxW
            · intro y hy hyl
              rw [htk] at hy
              rcases List.mem_append.mp hy with h | h
              · exact List.mem_append.mpr (.inl (h8 y h hyl))
              · exact List.mem_append.mpr (.inr h)
            · rw [List.length_append, List.length_append (as := W2)]
              show 2 * (l.length - (F2.length + 1)) + (W2.length + 1) < _
              omega
        · rw [decide_eq_false hzl]
          repeat array_get_dec
          refine ⟨F2, W2, _, rfl, s5, er2, eF5, eW5, h1, h2, h3, h4, h5, h6, h7, fun y hy hyl => ?_, h9⟩
          rw [htk] at hy
          rcases List.mem_append.mp hy with h | h
          · exact h8 y h hyl
          · rw [List.mem_singleton.mp h] at hyl; exact absurd hyl hzl
      · obtain ⟨F2, W2, y6, rfl, s5, er2, eF5, eW5, h1, h2, h3, h4, h5, h6, h7, h8, h9⟩ := hP
        refine ⟨_, h9, ?_⟩
        rw [hW]
        refine ⟨F2, W2, _, _, rfl, s5, eF5, eW5, h1, h2, h3, h5, h6, fun x hx hxW y hxy hyl => ?_, rfl⟩
        by_cases hxh : x = here
        · subst hxh
          refine h8 y ?_ hyl
          rw [List.length_map, List.take_of_length_le (Nat.le_refl _)]
          exact hxy.2
        · exact h7 x hx hxW hxh y hxy hyl

abbrev N_check_rim : List Str := ["chart", "name", "level"]
theorem sc_check_rim : FnScope N_check_rim ["chart", "name", "level"] (defScope s_check_rim) := ⟨rfl, rfl, rfl, by decide +kernel, rfl, by decide +kernel, by decide +kernel⟩
theorem ok_check_rim {f : Addr} {fd : FuncData} {C CB : Addr}  (F : Fun K "check_rim" "check_rim" s_check_rim f fd) (T : Txt K mg) (C_check_chart : Cal P w K mg base "check_chart" 1 ["chart"] (spCheckC C CB)) (C_check_place : Cal P w K mg base "check_place" 3 ["chart", "name"] (spCheckPl C CB)) (C_check_height : Cal P w K mg base "check_height" 3 ["value"] spCheckH) : FnOk P w K mg base CX0 4 f fd ["chart", "name", "level"] (spCheckRim C CB) := by
  refine F.ok sc_check_rim (fun vs H Q E h => ?_) (fun cdv A outer s H vs Q E hr h => ?_)
  · obtain ⟨p, x, t, c, rfl, hc, hx, ht, q⟩ := h
    rfl
  · obtain ⟨p, x, t, c, rfl, hc, hx, ht, q⟩ := h
    refine ⟨_, (pss_cons (ps_expr (pe_cal C_check_chart (hr.mono (by decide)) (by rfl) (pa_cons (pv 0) pa_nil)))
    (pss_cons (ps_expr (pe_cal C_check_place (hr.mono (by decide)) (by rfl) (pa_cons (pv 0) (pa_cons (pv 1) pa_nil))))
    (pss_one (ps_expr (pe_cal C_check_height (hr.mono (by decide)) (by rfl) (pa_cons (pv 2) pa_nil)))))), ?_⟩
    repeat array_get_dec
    refine ⟨p, c, rfl, hc, ?_⟩
    repeat array_get_dec
    refine ⟨p, x, c, rfl, hc, hx, ?_⟩
    repeat array_get_dec
    exact ⟨t, rfl, ht, q⟩
abbrev N_rim : List Str := ["chart", "name", "level", "below", "other"]
theorem sc_rim : FnScope N_rim ["chart", "name", "level"] (defScope s_rim) := ⟨rfl, rfl, rfl, by decide +kernel, rfl, by decide +kernel, by decide +kernel⟩
theorem ok_rim {f : Addr} {fd : FuncData} {C CB : Addr} (HC : ChT K mg C) (B : BnT K mg CB)  (F : Fun K "rim" "rim" s_rim f fd) (T : Txt K mg) (C_check_rim : Cal P w K mg base "check_rim" 4 ["chart", "name", "level"] (spCheckRim C CB)) (C_part_around : Cal P w K mg base "part_around" 5 ["chart", "start", "names"] (spPartL C CB)) (G_item : OCal P w K mg base C "__getitem__" 4 ["self", "name"] (spItem C CB)) (M_names : MCal P w K mg base C "names" 1 ["self"] (spNames C CB)) : FnOk P w K mg base CX0 6 f fd ["chart", "name", "level"] (spRim C CB) := by
  refine F.ok sc_rim (fun vs H Q E h => ?_) (fun cdv A outer s H vs Q E hr h => ?_)
  · obtain ⟨p, x, t, c, rfl, hc, ok, hx, ht, q⟩ := h
    rfl
  · obtain ⟨p, x, t, c, rfl, hc, ok, hx, ht, q⟩ := h
    refine ⟨_, (pss_cons (ps_expr (pe_cal C_check_rim (hr.mono (by decide)) (by rfl) (pa_cons (pv 0) (pa_cons (pv 1) (pa_cons (pv 2) pa_nil)))))
    (pss_cons (ps_setLc (i := 3) (own := [("other", 4)]) (g := gName 4) rfl sc_rim.nd rfl rfl (sw_true rfl rfl rfl (by decide +kernel)) (pi_list (M_names.pe0 HC.c.cl (hr.mono (by decide)) (pv 0))) (blkOk_by (N := N_rim) (sc := defScope s_rim) (by decide +kernel)) (fun _ _ _ _ _ => pg_name (i := 4) sc_rim.nd rfl (Or.inl rfl)) (fun _ _ _ _ _ => pts_one (pt_cmpR op_lt (pe_fldK (K' := K) rfl (G_item.sub (hr.mono (by decide)) (pv 0) (pv 4) (fun _ _ => rfl)) rfl) (pv 2) (nomark _))) (fun _ _ _ _ _ => (pv 4)))
    (pss_one (ps_ret (pe_ifExp (pt_cmpR op_in_seq (pv 1) (pv 3) (by rfl)) (pe_cal C_part_around (hr.mono (by decide)) (by rfl) (pa_cons (pv 0) (pa_cons (pv 1) (pa_cons (pv 3) pa_nil)))) (pe_lst pa_nil)))))), ?_⟩
    repeat array_get_dec
    refine ⟨p, x, t, c, rfl, hc, hx, ht, ?_⟩
    repeat array_get_dec
    obtain ⟨dx, b, tt, o, e0, _⟩ := id hc
    refine ⟨p, dx, _, rfl, e0, chf_no (by decide +kernel) (by decide +kernel) (by decide +kernel), ?_⟩
    refine ⟨p, c, rfl, hc, fun r1 H1 s1 n1 e1 => ?_⟩
    refine ⟨r1, rfl, ⟨_, SqL.of e1⟩, fun D nD => ?_⟩
    have hl2 : (c.names.map V.str).length = c.names.length := List.length_map _
    have hlen := ok.len
    refine lc_list (xs := c.names.map V.str) (fun i H' => Same H1 H' ∧ H' D = some (.lst (((c.names.take i).filter fun z => decide (c.lo z < t)).map V.str))) ⟨same_upd nD, upd_same⟩ (fun i H' _ hP => SqL.of (hP.1 _ _ e1)) (fun i x H' hx hP => ?_) (fun H2 hP => ?_)
    · obtain ⟨s, eD⟩ := hP
      obtain ⟨z, hz, rfl⟩ := strs_get hx
      obtain ⟨htk, hnz, hzl, hil⟩ := take_at ok.nd hz
      have hc3 := hc.mono (s1.trans s)
      obtain ⟨dx3, b3, t3, o3, hp3, _⟩ := id hc3
      refine ⟨rfl, ?_⟩
      repeat array_get_dec
      refine ⟨p, dx3, _, rfl, hp3, p, z, c, rfl, hc3, hzl, fun a ⟨dxa, ha⟩ => ?_⟩
      refine ⟨a, CB, dxa, _, _, rfl, ha, B.c.cl, B.nl, bf_low _ _, ?_⟩
      repeat array_get_dec
      by_cases hm : c.lo z < t
      · rw [decide_eq_true hm]
        repeat array_get_dec
        refine ⟨_, eD, ?_, Same.at s nD, ?_⟩
        · rw [List.length_map]
          refine small1000 (Nat.le_trans (List.length_filter_le _ _) ?_)
          rw [List.length_take]
          omega
        · rw [upd_same, htk, List.filter_append]
          simp [hm]
      · rw [decide_eq_false hm]
        refine iteF ⟨s, ?_⟩
        rw [eD, htk, List.filter_append]
        simp [hm]
    obtain ⟨s, eD⟩ := hP
    rw [hl2, List.take_of_length_le (Nat.le_refl _)] at eD
    have s12 := s1.trans s
    repeat array_get_dec
    have hin : ∀ z, z ∈ c.names.filter (fun z => decide (c.lo z < t)) ↔ RimP c t z := fun z => by
      rw [List.mem_filter, decide_eq_true_eq]
      exact Iff.rfl
    refine ⟨D, _, rfl, .inl (SqL.of eD), rfl, L9.flat_strs _, ?_⟩
    rw [if_neg (by decide), inV_strs]
    refine w_isBl ?_
    by_cases hm : x ∈ c.names.filter (fun z => decide (c.lo z < t))
    · rw [decide_eq_true hm]
      repeat array_get_dec
      refine ⟨p, D, x, c, _, rfl, hc.mono s12, ok, eD, hm, ok.nd.filter _, (fun z hz => ((hin z).mp hz).1), fun r H3 ys s3 nr er hnd hs hy => ?_⟩
      exact q r H3 ys (s12.trans s3) (s12.free nr) er hnd hs fun y => (hy y).trans ⟨fun h => h.mono fun z hz => (hin z).mp hz, fun h => h.mono fun z hz => (hin z).mpr hz⟩
    · rw [decide_eq_false hm]
      refine iteF ?_
      repeat array_get_dec
      refine ⟨by show 0 ≤ sizeLine; decide, fun r nr => ?_⟩
      exact q r _ [] (s12.trans (same_upd nr)) (s12.free nr) upd_same List.nodup_nil rfl fun y => ⟨fun h => (nomatch h), fun h => absurd ((hin x).mpr h.head) hm⟩
end
end
end
end K23

namespace K23
open PySem PySem.Spec PyProof.Rows L2 L9
def spPinRight (CL C CB : Addr) : Sp := fun vs H Q _ => ∃ (q : Addr) (x y : Str) (c : Ch) (h : Str → Int), vs = [.ref q, .str x, .str y] ∧ LdAt CL C CB H q c h ∧ Can c ∧ (∀ z ∈ c.names, c.lo z ≤ h z ∧ h z ≤ c.hi z) ∧ x ∈ c.names ∧ y ∈ c.names ∧ ∀ H', Same H H' → Q (.bl true) H'
/-- a list of lands of a chart -/
def LandsAt (CL C CB : Addr) (H : Hp) (l : Addr) (c : Ch) (us : List V) : Prop := H l = some (.lst us) ∧ ∀ v ∈ us, ∃ (q : Addr) (h : Str → Int), v = .ref q ∧ LdAt CL C CB H q c h ∧ ∀ z ∈ c.names, c.lo z ≤ h z ∧ h z ≤ c.hi z
theorem LandsAt.mono {CL C CB : Addr} {H H' : Hp} {l : Addr} {c : Ch} {us : List V} (s : Same H H') (h : LandsAt CL C CB H l c us) : LandsAt CL C CB H' l c us := ⟨s _ _ h.1, fun v hv => by
  obtain ⟨q, g, e, hl, hb⟩ := h.2 v hv
  exact ⟨q, g, e, hl.mono s, hb⟩⟩
theorem LandsAt.drw {CL C CB : Addr} {H H' : Hp} {l b : Addr} {n m : Nat} {c : Ch} {us : List V} (d : Drw H H' b n) (hb : BoxAt H b m) (h : LandsAt CL C CB H l c us) : LandsAt CL C CB H' l c us := ⟨d.kp hb h.1 (fun x y z e => by
    have e := HO.lst.inj e
    subst e
    obtain ⟨q, g, e, _⟩ := h.2 (.int x) List.mem_cons_self
    cases e), fun v hv => by
  obtain ⟨q, g, e, hl, hb2⟩ := h.2 v hv
  exact ⟨q, g, e, hl.drw d hb, hb2⟩⟩
def spBetween (CL C CB : Addr) : Sp := fun vs H Q _ => ∃ (b p l : Addr) (x y : Str) (c : Ch) (us : List V) (n : Nat), vs = [.ref b, .ref p, .ref l, .str x, .str y] ∧ BoxAt H b n ∧ n ≤ 900000 ∧ ChAt C CB H p c ∧ c.Ok ∧ LandsAt CL C CB H l c us ∧ us.length ≤ 10 ∧ x ∈ c.names ∧ y ∈ c.names ∧
  ∀ H', Drw H H' b (n + 1) → Q (.bl true) H'
def spRimsR (CL C CB : Addr) : Sp := fun vs H Q _ => ∃ (p l o : Addr) (x : Str) (t : Int) (os : List Str) (c : Ch) (us : List V), vs = [.ref p, .ref l, .str x, .ref o, .int t] ∧ ChAt C CB H p c ∧ c.Ok ∧ LandsAt CL C CB H l c us ∧ x ∈ c.names ∧ heightB t = true ∧ H o = some (.lst (os.map V.str)) ∧ (∀ z ∈ os, z ∈ c.names) ∧ ∀ H', Same H H' → Q (.bl true) H'
section
local macro_rules | `(tactic| array_get_dec) => `(tactic| first
  | with_reducible refine w_methK ?_
  | with_reducible refine w_items ?_
  | with_reducible refine w_iSeq ?_
  | with_reducible refine w_iKeys ?_
  | with_reducible refine w_orT ?_
  | with_reducible refine w_calN ?_)
section
local macro_rules | `(tactic| array_get_dec) => `(tactic| with_reducible refine w_gN (by first | (dsimp only [List.set_cons_zero, List.set_cons_succ]; done) | rfl) ?_)
section
variable {P : Program} {w : World} {K : PySem.W.Frag} {mg : Str → Option Value} {base : Heap}
abbrev N__law_later : List Str := ["_law_box_here", "_law_model_here", "_law_chart_here", "_law_names_here", "_law_name", "_law_far", "_law_one", "_law_other"]
theorem sc__law_later : FnScope N__law_later ["_law_box_here", "_law_model_here", "_law_chart_here"] (defScope s__law_later) := ⟨rfl, rfl, rfl, by decide +kernel, rfl, by decide +kernel, by decide +kernel⟩
theorem ok__law_later {f : Addr} {fd : FuncData} {C CB : Addr} (HC : ChT K mg C)  (F : Fun K "_law_later" "_law_later" s__law_later f fd) (T : Txt K mg) (C__law_take : Cal P w K mg base "_law_take" 1 ["_law_box_here", "_law_many"] spTake) (C__law_height : Cal P w K mg base "_law_height" 2 ["_law_box_here", "_law_way"] spHeightM) (C_low_pass : Cal P w K mg base "low_pass" 8 ["chart", "one", "other"] (spPassC C CB true)) (M_with_bounds : MCal P w K mg base C "with_bounds" 6 ["self", "name", "bounds"] (spWithK C CB)) (I_Bounds : ICal P w K mg base "Bounds" CB 4 ["self", "low", "high"] (spBInitY CB)) : FnOk P w K mg base CX0 9 f fd ["_law_box_here", "_law_model_here", "_law_chart_here"] (spLater C CB) := by
  refine F.ok sc__law_later (fun vs H Q E h => ?_) (fun cdv A outer s H vs Q E hr h => ?_)
  · obtain ⟨b, mp, p, lp, hp, M, n, m, rfl, hb, hM, hok, hm, hn, hc, kc, q⟩ := h
    rfl
  · obtain ⟨b, mp, p, lp, hp, M, n, m, rfl, hb, hM, hok, hm, hn, hc, kc, q⟩ := h
    refine ⟨_, (pss_cons (ps_set (i := 3) sc__law_later.nd rfl (.inl rfl) (pe_callB (call_sortedD rfl) (by rfl) T.m_sorted (by decide +kernel) (pa_cons (pe_dget (hu_of hr) (pv 1) pe_str (fun _ _ => rfl)) pa_nil)))
    (pss_cons (ps_par (i := 4) (j := 5) (by rfl) sc__law_later.nd rfl rfl (by decide) rfl rfl (pa_cons (pe_ix ix_list (pv 3) (pe_cal C__law_take (hr.mono (by decide)) (by rfl) (pa_cons (pv 0) (pa_cons (pe_callB call_len_seq (by rfl) T.m_len (by decide +kernel) (pa_cons (pv 3) pa_nil)) pa_nil))) (fun _ _ => rfl)) (pa_cons (pe_ix ix_list (pv 3) (pe_cal C__law_take (hr.mono (by decide)) (by rfl) (pa_cons (pv 0) (pa_cons (pe_callB call_len_seq (by rfl) T.m_len (by decide +kernel) (pa_cons (pv 3) pa_nil)) pa_nil))) (fun _ _ => rfl)) pa_nil)) (by rfl))
    (pss_cons (ps_par (i := 6) (j := 7) (by rfl) sc__law_later.nd rfl rfl (by decide) rfl rfl (pa_cons (pe_cal C__law_height (hr.mono (by decide)) (by rfl) (pa_cons (pv 0) (pa_cons pe_int pa_nil))) (pa_cons (pe_cal C__law_height (hr.mono (by decide)) (by rfl) (pa_cons (pv 0) (pa_cons (pe_cal C__law_take (hr.mono (by decide)) (by rfl) (pa_cons (pv 0) (pa_cons pe_int pa_nil))) pa_nil))) pa_nil)) (by rfl))
    (pss_cons (ps_if (pt_cmpR op_ne (pe_cal C_low_pass (hr.mono (by decide)) (by rfl) (pa_cons (pv 2) (pa_cons (pv 4) (pa_cons (pv 5) pa_nil)))) (pe_cal C_low_pass (hr.mono (by decide)) (by rfl) (pa_cons (pv 2) (pa_cons (pv 5) (pa_cons (pv 4) pa_nil)))) (nomark _)) (pss_one (ps_ret (pv 2))) pss_nil)
    (pss_cons (ps_asg (pe_tup (pa_cons (pe_callB (call_min2 rfl) (by rfl) T.m_min (by decide +kernel) (pa_cons (pv 6) (pa_cons (pv 7) pa_nil))) (pa_cons (pe_callB (call_max2 rfl) (by rfl) T.m_max (by decide +kernel) (pa_cons (pv 6) (pa_cons (pv 7) pa_nil))) pa_nil))) (pg_tup rfl (pgs_cons (pg_sub (pe_dget (hu_of hr) (pv 1) pe_str (fun _ _ => rfl)) (pv 4) (set_dict (hu_of hr))) (pgs_cons (pg_sub (pe_dget (hu_of hr) (pv 1) pe_str (fun _ _ => rfl)) (pv 4) (set_dict (hu_of hr))) pgs_nil))))
    (pss_one (ps_ret (M_with_bounds.pe HC.c.cl (hr.mono (by decide)) (pv 2) (pa_cons (pv 4) (pa_cons (I_Bounds.pe (hr.mono (by decide)) (by rfl) (pa_cons (pe_callB (call_min2 rfl) (by rfl) T.m_min (by decide +kernel) (pa_cons (pv 6) (pa_cons (pv 7) pa_nil))) (pa_cons (pe_callB (call_max2 rfl) (by rfl) T.m_max (by decide +kernel) (pa_cons (pv 6) (pa_cons (pv 7) pa_nil))) pa_nil))) pa_nil)))))))))), ?_⟩
    obtain ⟨tp, op, vs, m1, m2, m3, m4, m5, m6, b1, b2, b3, b4, b5, hlh⟩ := id hM
    have hl26 : M.nm.length ≤ 26 := Nat.le_trans hok.l2 hm
    have hl1 := hok.l1
    repeat array_get_dec
    refine ⟨mp, .ref lp, rfl, md_low m1, ?_⟩
    repeat array_get_dec
    refine ⟨lp, _, M.nm, rfl, .inl m2, by unfold byI; rw [List.map_map]; rfl, by omega, fun ns r1 hp1 hs1 n1 => ?_⟩
    have ens : ns = (chM M).names := sortStr_uniq hp1 hs1
    have hmem : ∀ x, x ∈ (chM M).names ↔ x ∈ M.nm := fun x => by rw [← ens]; exact hp1.mem_iff
    have hnl : (chM M).names.length = M.nm.length := by rw [← ens]; exact hp1.length_eq
    have d0 := Drw.refl hb
    have hr1b : r1 ≠ b := d0.ne n1
    generalize hG : upd H r1 _ = H1
    obtain ⟨_, e1, s1, d1⟩ := d0.gen n1 hG
    clear hG
    rw [ens] at e1
    repeat array_get_dec
    have pick : ∀ k : Nat, k < M.nm.length → ∃ z, (chM M).names[k]? = some z ∧ z ∈ (chM M).names := fun k hk => ⟨_, List.getElem?_eq_getElem (by omega), List.getElem_mem _⟩
    refine ⟨r1, _, rfl, .inl (SqL.of e1), ?_⟩
    repeat array_get_dec
    refine go_take d1 (by rw [List.length_map]; omega) (by rw [List.length_map]; omega) (by omega) fun ra H2 la ua d2 k2 => ?_
    rw [List.length_map] at ua
    obtain ⟨ka, rfl⟩ := Int.eq_ofNat_of_zero_le la
    obtain ⟨x, hxk, hxm⟩ := pick ka (by omega)
    have e2 := k2 _ _ hr1b e1
    refine go_ixL (SqL.of e2) rfl (by rw [List.getElem?_map, hxk]; rfl) ?_
    repeat array_get_dec
    refine ⟨r1, _, rfl, .inl (SqL.of e2), ?_⟩
    repeat array_get_dec
    refine go_take d2 (by rw [List.length_map]; omega) (by rw [List.length_map]; omega) (by omega) fun rb H3 lb ub d3 k3 => ?_
    rw [List.length_map] at ub
    obtain ⟨kb, rfl⟩ := Int.eq_ofNat_of_zero_le lb
    obtain ⟨y, hyk, hym⟩ := pick kb (by omega)
    have e3 := k3 _ _ hr1b e2
    refine go_ixL (SqL.of e3) rfl (by rw [List.getElem?_map, hyk]; rfl) ?_
    repeat array_get_dec
    refine ⟨b, 0, n + 2, rfl, d3.box, by omega, by omega, by omega, fun z1 H4 d34 a1 a2 => ?_⟩
    have d4 := d3.cat d34
    repeat array_get_dec
    refine go_take d4 (by omega) (by omega) (by omega) fun rw H5 lw uw d5 k5 => ?_
    repeat array_get_dec
    refine ⟨b, rw, n + 5, rfl, (d5.le (by omega)).box, by omega, by omega, by omega, fun z2 H6 d56 a3 a4 => ?_⟩
    have d6 : Drw H H6 b (n + 7) := d5.cat d56
    have hc6 := hc.drwB d6 hb
    have hM6 := hM.drw d6 hb
    repeat array_get_dec
    refine ⟨p, x, y, _, rfl, hc6, kc.ok, hxm, hym, fun o1 H7 s7 ho1 => ?_⟩
    repeat array_get_dec
    refine ⟨p, y, x, _, rfl, hc6.mono s7, kc.ok, hym, hxm, fun o2 H8 s8 ho2 => ?_⟩
    have e12 : o2 = o1 := (ho2.sym kc.ok).uniq ho1
    subst e12
    have d8 := d6.go (s7.trans s8)
    have hM8 := hM6.mono (s7.trans s8)
    have hc8 := hc6.mono (s7.trans s8)
    obtain ⟨tp', op', vs', m1', m2', m3', m4', m5', m6', _⟩ := id hM8
    refine rne_opt ?_
    repeat array_get_dec
    refine ⟨_, _, rfl, ?_⟩
    repeat array_get_dec
    refine ⟨_, _, rfl, ?_⟩
    obtain ⟨mn, hmn⟩ : ∃ v : Int, v = (if z2 < z1 then z2 else z1) := ⟨_, rfl⟩
    obtain ⟨mx, hmx⟩ : ∃ v : Int, v = (if z2 > z1 then z2 else z1) := ⟨_, rfl⟩
    rw [← hmn, ← hmx]
    have hmm : -MH ≤ mn ∧ mn ≤ mx ∧ mx ≤ MH := by
      rw [hmn, hmx]
      split <;> split <;> omega
    repeat array_get_dec
    refine ⟨by show 2 ≤ sizeLine; decide, fun q9 n9 => ?_⟩
    generalize hG : upd H8 q9 _ = H9
    obtain ⟨_, e9, s9, d9⟩ := d8.gen n9 hG
    clear hG
    refine ⟨q9, _, rfl, SqT.of e9, rfl, ?_⟩
    have hM9 := hM8.mono s9
    have hc9 := hc8.mono s9
    obtain ⟨tp9, op9, vs9, g1, g2, g3, g4, g5, g6, gb⟩ := id hM9
    repeat array_get_dec
    refine w_gSubM ?_
    repeat array_get_dec
    have hxM := (hmem x).mp hxm
    refine ⟨mp, .ref lp, rfl, md_low g1, ?_⟩
    repeat array_get_dec
    refine ⟨lp, _, rfl, DPut.k (k := Sum.inr x) g2 (by rw [byI_len]; exact small1000 (by omega)), ?_⟩
    rw [putI_old hxM]
    have hml : mp ≠ lp := fun z => by rw [z, g2] at g1; exact byI_md (HO.dK.inj (Option.some.inj g1))
    have hmh : mp ≠ hp := fun z => by rw [z, g3] at g1; exact byI_md (HO.dK.inj (Option.some.inj g1))
    refine ⟨_, _, rfl, ?_⟩
    refine w_gSubM ?_
    repeat array_get_dec
    refine ⟨mp, .ref hp, rfl, md_high ((upd_ne hml).trans g1), ?_⟩
    repeat array_get_dec
    refine ⟨hp, _, rfl, DPut.k (k := Sum.inr x) ((upd_ne hlh.symm).trans g3) (by rw [byI_len]; exact small1000 (by omega)), ?_⟩
    rw [putI_old hxM]
    generalize hG : upd (upd H9 lp _) hp _ = HA
    have kA : ∀ q o, q ≠ lp → q ≠ hp → H9 q = some o → HA q = some o := fun q o h1 h2 e => by rw [← hG, upd_ne h2, upd_ne h1]; exact e
    have kI : ∀ q o, H9 q = some o → (∀ ks, o ≠ .dK ks) → HA q = some o := fun q o e hk => kA q o (fun z => by rw [z, g2] at e; exact hk _ (Option.some.inj e).symm) (fun z => by rw [z, g3] at e; exact hk _ (Option.some.inj e).symm) e
    have eAl : HA lp = some (.dK (byI M.nm fun y => if y = x then mn else M.lo y)) := by rw [← hG, upd_ne hlh]; exact upd_same
    have eAh : HA hp = some (.dK (byI M.nm fun y => if y = x then mx else M.hi y)) := by rw [← hG]; exact upd_same
    have nA : ∀ q, HA q = none → H9 q = none := fun q e => by
      rw [← hG] at e
      by_cases h2 : q = hp
      · rw [h2, upd_same] at e; cases e
      · rw [upd_ne h2] at e
        by_cases h1 : q = lp
        · rw [h1, upd_same] at e; cases e
        · rwa [upd_ne h1] at e
    clear hG
    have hcne : (chM M).names ≠ [] := fun z => by rw [z] at hnl; have : (0 : Nat) = M.nm.length := hnl; omega
    have hcA := hc9.putI hcne g2 g3 kA
    have hboxA : BoxAt HA b (n + 7) := by
      obtain ⟨xs, e, hx⟩ := d9.box
      exact ⟨xs, kI _ _ e (fun _ z => nomatch z), hx⟩
    have h09 : ∀ q o, q ≠ b → H q = some o → H9 q = some o := d9.keep
    repeat array_get_dec
    obtain ⟨dxp, bp, tpp, opp, ep, _⟩ := id hcA
    refine ⟨p, dxp, _, rfl, ep, chf_no (by decide +kernel) (by decide +kernel) (by decide +kernel), ?_⟩
    repeat array_get_dec
    refine ⟨_, _, rfl, ?_⟩
    rw [← hmn]
    repeat array_get_dec
    refine ⟨_, _, rfl, ?_⟩
    rw [← hmx]
    repeat array_get_dec
    refine go_bnd hmm fun y1 HB sB ny1 hy1 => ?_
    repeat array_get_dec
    refine ⟨p, y1, x, _, mn, mx, rfl, hcA.mono sB, kc, hxm, hy1, hmm.1, hmm.2.1, hmm.2.2, fun r HC' sC nr hr2 => ?_⟩
    have sAC := sB.trans sC
    have hM2 : MdL HC' mp lp hp ⟨M.nm, fun y => if y = x then mn else M.lo y, fun y => if y = x then mx else M.hi y, M.ts, M.os⟩ b :=
      ⟨tp9, op9, vs9, sAC _ _ (kA _ _ hml hmh g1), sAC _ _ eAl, sAC _ _ eAh, sAC _ _ (kI _ _ g4 (fun _ z => nomatch z)), g5.keep fun q xs e => sAC _ _ (kI _ _ e (fun _ z => nomatch z)), sAC _ _ (kI _ _ g6 (fun _ z => nomatch z)), gb⟩
    have k2 := kc.withB (x := x) (l := mn) (h := mx) hmm
    refine q r HC' _ (fun z o h1 h2 h3 e => sAC _ _ (kA _ _ h2 h3 (h09 _ _ h1 e))) ?_ hM2 ⟨hok.labs, hok.l1, hok.l2, fun y hy => k2.ok.bnd y ((hmem y).mpr hy), hok.ts, hok.tl, hok.os⟩ rfl hr2 k2
    obtain ⟨xs, e, hx⟩ := hboxA
    exact ⟨xs, sAC _ _ e, hx.mono (by omega)⟩
abbrev N__law_pinned_right : List Str := ["_law_land", "_law_one", "_law_other", "_law_pinned", "_law_level"]
theorem sc__law_pinned_right : FnScope N__law_pinned_right ["_law_land", "_law_one", "_law_other"] (defScope s__law_pinned_right) := ⟨rfl, rfl, rfl, by decide +kernel, rfl, by decide +kernel, by decide +kernel⟩
theorem ok__law_pinned_right {f : Addr} {fd : FuncData} {CL C CB : Addr} (HL : LdT K mg CL)  (F : Fun K "_law_pinned_right" "_law_pinned_right" s__law_pinned_right f fd) (T : Txt K mg) (M_pinned : MCal P w K mg base CL "pinned" 8 ["self"] (spPinnedK CL C CB)) (C_pass_level : Cal P w K mg base "pass_level" 8 ["land", "one", "other"] (spPassL CL C CB)) (C_low_pass : Cal P w K mg base "low_pass" 8 ["chart", "one", "other"] (spPassC C CB true)) (C_high_pass : Cal P w K mg base "high_pass" 8 ["chart", "one", "other"] (spPassC C CB false)) : FnOk P w K mg base CX0 9 f fd ["_law_land", "_law_one", "_law_other"] (spPinRight CL C CB) := by
  refine F.ok sc__law_pinned_right (fun vs H Q E h => ?_) (fun cdv A outer s H vs Q E hr h => ?_)
  · obtain ⟨qp, x, y, c, h, rfl, hl, kc, hb, hx, hy, q⟩ := h
    rfl
  · obtain ⟨qp, x, y, c, h, rfl, hl, kc, hb, hx, hy, q⟩ := h
    refine ⟨_, (pss_cons (ps_par (i := 3) (j := 4) (by rfl) sc__law_pinned_right.nd rfl rfl (by decide) rfl rfl (pa_cons (M_pinned.pe0 HL.c.cl (hr.mono (by decide)) (pv 0)) (pa_cons (pe_cal C_pass_level (hr.mono (by decide)) (by rfl) (pa_cons (pv 0) (pa_cons (pv 1) (pa_cons (pv 2) pa_nil)))) pa_nil)) (by rfl))
    (pss_one (ps_ret (pe_cmpR (op_eqT (α := List (Option Int)) (huE hr (by decide))) (pe_lst (pa_cons (pe_cal C_low_pass (hr.mono (by decide)) (by rfl) (pa_cons (pv 3) (pa_cons (pv 1) (pa_cons (pv 2) pa_nil)))) (pa_cons (pe_cal C_high_pass (hr.mono (by decide)) (by rfl) (pa_cons (pv 3) (pa_cons (pv 1) (pa_cons (pv 2) pa_nil)))) pa_nil))) (pe_lst (pa_cons (pv 4) (pa_cons (pv 4) pa_nil))) (nomark _))))), ?_⟩
    obtain ⟨dx, cp, hp, e1, hc, e2⟩ := id hl
    repeat array_get_dec
    refine ⟨qp, dx, _, rfl, e1, ldf_no (by decide +kernel) (by decide +kernel), ?_⟩
    refine ⟨qp, c, h, rfl, hl, kc, hb, fun r1 H1 s1 n1 hp1 => ?_⟩
    repeat array_get_dec
    refine ⟨qp, x, y, c, h, rfl, hl.mono s1, kc.ok, hx, hy, fun o H2 s2 ho => ?_⟩
    repeat array_get_dec
    have kp := kc.pin hb
    refine ⟨r1, x, y, _, rfl, hp1.mono s2, kp.ok, hx, hy, fun o3 H3 s3 ho3 => ?_⟩
    have s23 := s2.trans s3
    repeat array_get_dec
    refine ⟨r1, x, y, _, rfl, hp1.mono s23, kp.ok, hx, hy, fun o4 H4 s4 ho4 => ?_⟩
    have e3 : o3 = o := ho3.uniq (ho.congr (c2 := pinK c h) rfl rfl fun z hz => rfl)
    have e4 : o4 = o := ho4.uniq (ho.congr (c2 := pinK c h) rfl rfl fun z hz => rfl)
    subst e3 e4
    repeat array_get_dec
    have s14 := (s1.trans s23).trans s4
    refine ⟨by show 2 ≤ sizeLine; decide, fun p5 n5 => ?_⟩
    generalize hG : upd H4 p5 _ = H5
    have s5 : Same H4 H5 := by rw [← hG]; exact same_upd n5
    have e5 : H5 p5 = some (.lst [optV o4, optV o4]) := by rw [← hG]; exact upd_same
    clear hG
    repeat array_get_dec
    refine ⟨by show 2 ≤ sizeLine; decide, fun p6 n6 => ?_⟩
    generalize hG : upd H5 p6 _ = H6
    have s6 : Same H5 H6 := by rw [← hG]; exact same_upd n6
    have e6 : H6 p6 = some (.lst [optV o4, optV o4]) := by rw [← hG]; exact upd_same
    clear hG
    refine ⟨[o4, o4], [o4, o4], hd_list (SqL.of (s6 _ _ e5)) ⟨hd_opt _, hd_opt _, trivial⟩, hd_list (SqL.of e6) ⟨hd_opt _, hd_opt _, trivial⟩, ?_⟩
    rw [decide_eq_true rfl]
    exact q H6 (s14.trans (s5.trans s6))
abbrev N__law_between_right : List Str := ["_law_box_here", "_law_chart_here", "_law_lands", "_law_one", "_law_other", "_law_low", "_law_high", "_law_told", "_law_level", "_law_land"]
theorem sc__law_between_right : FnScope N__law_between_right ["_law_box_here", "_law_chart_here", "_law_lands", "_law_one", "_law_other"] (defScope s__law_between_right) := ⟨rfl, rfl, rfl, by decide +kernel, rfl, by decide +kernel, by decide +kernel⟩
theorem ok__law_between_right {f : Addr} {fd : FuncData} {CL C CB : Addr}  (F : Fun K "_law_between_right" "_law_between_right" s__law_between_right f fd) (T : Txt K mg) (C__law_take : Cal P w K mg base "_law_take" 1 ["_law_box_here", "_law_many"] spTake) (C_low_pass : Cal P w K mg base "low_pass" 8 ["chart", "one", "other"] (spPassC C CB true)) (C_high_pass : Cal P w K mg base "high_pass" 8 ["chart", "one", "other"] (spPassC C CB false)) (C_pass_level : Cal P w K mg base "pass_level" 8 ["land", "one", "other"] (spPassL CL C CB)) (E_clipped : CCal P w K mg base "Land" CL "clipped" 9 ["cls", "chart", "level"] (spClipped CL C CB)) : FnOk P w K mg base CX0 10 f fd ["_law_box_here", "_law_chart_here", "_law_lands", "_law_one", "_law_other"] (spBetween CL C CB) := by
  refine F.ok sc__law_between_right (fun vs H Q E h => ?_) (fun cdv A outer s H vs Q E hr h => ?_)
  · obtain ⟨b, p, l, x, y, c, us, n, rfl, hb, hn, hc, ok, hl, hul, hx, hy, q⟩ := h
    rfl
  · obtain ⟨b, p, l, x, y, c, us, n, rfl, hb, hn, hc, ok, hl, hul, hx, hy, q⟩ := h
    refine ⟨_, (pss_cons (ps_asg (pe_tup (pa_cons (pe_cal C_low_pass (hr.mono (by decide)) (by rfl) (pa_cons (pv 1) (pa_cons (pv 3) (pa_cons (pv 4) pa_nil)))) (pa_cons (pe_cal C_high_pass (hr.mono (by decide)) (by rfl) (pa_cons (pv 1) (pa_cons (pv 3) (pa_cons (pv 4) pa_nil)))) pa_nil))) (pg_tup rfl (pgs_cons (pg_name (i := 5) sc__law_between_right.nd rfl (.inr rfl)) (pgs_cons (pg_name (i := 6) sc__law_between_right.nd rfl (.inr rfl)) pgs_nil))))
    (pss_cons (ps_setLc (i := 7) (own := [("_law_land", 9)]) (g := gName 9) (tt := tYes) rfl sc__law_between_right.nd rfl rfl (sw_true rfl rfl rfl (by decide +kernel)) (pi_list (pv 2)) (blkOk_by (N := N__law_between_right) (sc := defScope s__law_between_right) (by decide +kernel)) (fun _ _ _ _ _ => pg_name (i := 9) sc__law_between_right.nd rfl (Or.inl rfl)) (fun _ _ _ _ _ => pts_nil) (fun _ _ _ _ _ => (pe_cal C_pass_level (hr.mono (by decide)) (by rfl) (pa_cons (pv 9) (pa_cons (pv 3) (pa_cons (pv 4) pa_nil))))))
    (pss_cons (ps_if (PW.pt (pw_or (pt_cmpR op_isN1 (pv 5) pe_non (nomark _)) (pw_or1 (pt_cmpR op_isN1 (pv 6) pe_non (nomark _))))) (pss_one (ps_ret (pe_and (pe_cmpR op_isN1 (pv 5) pe_non (nomark _)) (pe_and (pe_cmpR op_isN1 (pv 6) pe_non (nomark _)) (pe_one (pe_cmpR (op_eqT (α := List (Option Int)) (huE hr (by decide))) (pe_lc (own := [("_law_level", 8)]) (g := gName 8) rfl sc__law_between_right.nd (pi_list (pv 7)) (blkOk_by (N := N__law_between_right) (sc := defScope s__law_between_right) (by decide +kernel)) (fun _ _ _ _ _ => pg_name (i := 8) sc__law_between_right.nd rfl (Or.inl rfl)) (fun _ _ _ _ _ => pts_one (pt_cmpR op_notN (pv 8) pe_non (nomark _))) (fun _ _ _ _ _ => (pv 8))) (pe_lst pa_nil) (nomark _))))))) pss_nil)
    (pss_cons (ps_if (pt_cmpR (op_neT (α := List (Option Int)) (huE hr (by decide))) (pe_lc (own := [("_law_level", 8)]) (g := gName 8) rfl sc__law_between_right.nd (pi_list (pv 7)) (blkOk_by (N := N__law_between_right) (sc := defScope s__law_between_right) (by decide +kernel)) (fun _ _ _ _ _ => pg_name (i := 8) sc__law_between_right.nd rfl (Or.inl rfl)) (fun _ _ _ _ _ => pts_one (PW.pt (pw_or (pt_cmpR op_isN1 (pv 8) pe_non (nomark _)) (pw_or1 (pt_not (pt_chain op_le op_le (pv 5) (pv 8) (pv 6))))))) (fun _ _ _ _ _ => (pv 8))) (pe_lst pa_nil) (nomark _)) (pss_one (ps_ret pe_bl)) pss_nil)
    (pss_cons (ps_for PassesOwn.never rfl (pi_list (pe_lst (pa_cons (pv 5) (pa_cons (pv 6) (pa_cons (pe_callB (call_min2 rfl) (by rfl) T.m_min (by decide +kernel) (pa_cons (pe_op op_add (pv 5) pe_int) (pa_cons (pv 6) pa_nil))) (pa_cons (pe_callB (call_max2 rfl) (by rfl) T.m_max (by decide +kernel) (pa_cons (pv 5) (pa_cons (pe_op op_sub (pv 6) pe_int) pa_nil))) (pa_cons (pe_op op_add (pv 5) (pe_cal C__law_take (hr.mono (by decide)) (by rfl) (pa_cons (pv 0) (pa_cons (pe_op op_add (pe_op op_sub (pv 6) (pv 5)) pe_int) pa_nil)))) pa_nil))))))) (pg_name (i := 8) sc__law_between_right.nd rfl (.inl rfl))
    (pss_one (ps_if (pt_cmpR op_ne (pe_cal C_pass_level (hr.mono (by decide)) (by rfl) (pa_cons (E_clipped.pe (hr.mono (by decide)) (by rfl) (pa_cons (pv 1) (pa_cons (pv 8) pa_nil))) (pa_cons (pv 3) (pa_cons (pv 4) pa_nil)))) (pv 8) (nomark _)) (pss_one (ps_ret pe_bl)) pss_nil)))
    (pss_one (ps_ret pe_bl))))))), ?_⟩
    repeat array_get_dec
    refine ⟨p, x, y, c, rfl, hc, ok, hx, hy, fun o1 H1 s1 ho1 => ?_⟩
    repeat array_get_dec
    refine ⟨p, x, y, c, rfl, hc.mono s1, ok, hx, hy, fun o2 H2 s2 ho2 => ?_⟩
    have s12 := s1.trans s2
    repeat array_get_dec
    refine ⟨by show 2 ≤ sizeLine; decide, fun p3 n3 => ?_⟩
    generalize hG : upd H2 p3 _ = H3
    have s3 : Same H2 H3 := by rw [← hG]; exact same_upd n3
    have e3 : H3 p3 = some (.tup [optV o1, optV o2]) := by rw [← hG]; exact upd_same
    clear hG
    have s13 := s12.trans s3
    refine ⟨p3, _, rfl, SqT.of e3, rfl, ?_⟩
    repeat array_get_dec
    have hl3 := hl.mono s13
    refine ⟨l, rfl, ⟨_, SqL.of hl3.1⟩, fun D nD => ?_⟩
    refine lc_list (xs := us) (fun i H' => Same H3 H' ∧ ∃ os : List (Option Int), H' D = some (.lst (os.map optV)) ∧ os.length = i ∧ ∀ o ∈ os, ∃ h : Str → Int, PassS c h x y o ∧ ∀ z ∈ c.names, c.lo z ≤ h z ∧ h z ≤ c.hi z) ⟨same_upd nD, [], upd_same, rfl, fun o ho => nomatch ho⟩ (fun i H' _ hP => SqL.of (hP.1 _ _ hl3.1)) (fun i v H' hv hP => ?_) (fun H4 hP => ?_)
    · obtain ⟨s, os, eD, hol, hos⟩ := hP
      obtain ⟨qp, h, rfl, hld, hbd⟩ := (hl3.mono s).2 v (List.mem_of_getElem? hv)
      have hi10 := get_lt hv
      refine ⟨rfl, tyes ?_⟩
      repeat array_get_dec
      refine ⟨qp, x, y, c, h, rfl, hld, ok, hx, hy, fun o H5 s5 ho => ?_⟩
      have eD5 := s5 _ _ eD
      refine ⟨_, eD5, ?_, Same.at (s.trans s5) nD, os ++ [o], by rw [upd_same, List.map_append]; rfl, by rw [List.length_append, hol]; rfl, fun o2 h2 => ?_⟩
      · rw [List.length_map, hol]
        exact small1000 (by omega)
      · rcases List.mem_append.mp h2 with h2 | h2
        · exact hos o2 h2
        · rw [List.mem_singleton.mp h2]
          exact ⟨h, ho, hbd⟩
    obtain ⟨s4, os, eD, hol, hos⟩ := hP
    repeat array_get_dec
    have s14 := s13.trans s4
    have hc4 := hc.mono s14
    have fN : ∀ o : Option Int, PassS c c.lo x y none → (∃ h : Str → Int, PassS c h x y o ∧ ∀ z ∈ c.names, c.lo z ≤ h z ∧ h z ≤ c.hi z) → o = none := fun o hN ⟨h, hp, hb⟩ => by
      cases o with
      | none => rfl
      | some d =>
        obtain ⟨e, he, _⟩ := hN.le hp (fun z hz => (hb z hz).1) rfl
        cases he
    cases o1 with
    | none =>
      have e2 : o2 = none := fN o2 ho1 ⟨c.hi, ho2, fun z hz => ⟨(ok.bnd z hz).2.1, Int.le_refl _⟩⟩
      subst e2
      refine ⟨rfl, true, rfl, ?_⟩
      repeat array_get_dec
      refine ⟨rfl, ?_⟩
      rw [show decide (optV none = V.non) = true from rfl]
      repeat array_get_dec
      refine ⟨rfl, ?_⟩
      rw [show decide (optV none = V.non) = true from rfl]
      repeat array_get_dec
      refine ⟨D, rfl, ⟨_, SqL.of eD⟩, fun D2 nD2 => ?_⟩
      refine lc_list (xs := os.map optV) (fun i H' => Same H4 H' ∧ H' D2 = some (.lst [])) ⟨same_upd nD2, upd_same⟩ (fun i H' _ hP => SqL.of (hP.1 _ _ eD)) (fun i v H' hv hP => ?_) (fun H5 hP => ?_)
      · obtain ⟨s, eD2⟩ := hP
        rw [List.getElem?_map] at hv
        obtain ⟨o, ho, rfl⟩ : ∃ o, os[i]? = some o ∧ optV o = v := by
          cases h : os[i]? with
          | none => rw [h] at hv; cases hv
          | some o => rw [h] at hv; exact ⟨o, rfl, Option.some.inj hv⟩
        have e := fN o ho1 (hos o (List.mem_of_getElem? ho))
        subst e
        refine ⟨rfl, ?_⟩
        repeat array_get_dec
        refine ⟨rfl, false, rfl, ?_⟩
        exact iteF ⟨s, eD2⟩
      obtain ⟨s5, eD2⟩ := hP
      repeat array_get_dec
      refine ⟨by show 0 ≤ sizeLine; decide, fun q6 n6 => ?_⟩
      refine ⟨[], [], hd_list (vs := []) (SqL.of ((same_upd n6) _ _ eD2)) trivial, hd_list (vs := []) (SqL.of upd_same) trivial, ?_⟩
      rw [decide_eq_true rfl]
      exact q _ ((((Drw.refl hb).go s14).go s5).go (same_upd n6) |>.le (by omega))
    | some a =>
      obtain ⟨bb, hb2, hab, hbM⟩ : ∃ bb, o2 = some bb ∧ a ≤ bb ∧ bb ≤ MH := by
        have r1 := ho1.some_at
        have r2 : M9.Rch (Adj c) (Lv c c.hi MH) x y := r1.mono fun z hz => ⟨hz.1, (ok.bnd z hz.1).2.2⟩
        obtain ⟨d, hd, h1⟩ := (ho2 MH).mpr r2
        subst hd
        obtain ⟨e, he, h2⟩ := ho1.le ho2 (fun z hz => (ok.bnd z hz).2.1) rfl
        cases he
        exact ⟨d, rfl, h2, h1⟩
      have ha0 : -MH ≤ a := by
        have h := ho1.some_at.head
        have := (ok.bnd x h.1).1
        have h2 : c.lo x ≤ a := h.2
        omega
      subst hb2
      rw [show optV (some a) = V.int a from rfl, show optV (some bb) = V.int bb from rfl]
      refine ⟨rfl, false, rfl, ?_⟩
      repeat array_get_dec
      refine ⟨rfl, false, rfl, ?_⟩
      repeat array_get_dec
      have hall : ∀ o ∈ os, ∃ d, o = some d ∧ a ≤ d ∧ d ≤ bb := fun o ho => by
        obtain ⟨h, hp, hb⟩ := hos o ho
        obtain ⟨e, he, h1⟩ := hp.le ho2 (fun z hz => (hb z hz).2) rfl
        subst he
        obtain ⟨e2, he2, h2⟩ := ho1.le hp (fun z hz => (hb z hz).1) rfl
        cases he2
        exact ⟨e, rfl, h2, h1⟩
      refine ⟨D, rfl, ⟨_, SqL.of eD⟩, fun D2 nD2 => ?_⟩
      refine lc_list (xs := os.map optV) (fun i H' => Same H4 H' ∧ H' D2 = some (.lst [])) ⟨same_upd nD2, upd_same⟩ (fun i H' _ hP => SqL.of (hP.1 _ _ eD)) (fun i v H' hv hP => ?_) (fun H5 hP => ?_)
      · obtain ⟨s, eD2⟩ := hP
        rw [List.getElem?_map] at hv
        obtain ⟨o, ho, rfl⟩ : ∃ o, os[i]? = some o ∧ optV o = v := by
          cases h : os[i]? with
          | none => rw [h] at hv; cases hv
          | some o => rw [h] at hv; exact ⟨o, rfl, Option.some.inj hv⟩
        obtain ⟨d, e, hd1, hd2⟩ := hall o (List.mem_of_getElem? ho)
        subst e
        rw [show optV (some d) = V.int d from rfl]
        refine ⟨rfl, ?_⟩
        repeat array_get_dec
        refine ⟨rfl, false, rfl, ?_⟩
        repeat array_get_dec
        rw [decide_eq_true hd1]
        repeat array_get_dec
        rw [decide_eq_true hd2]
        exact iteF ⟨s, eD2⟩
      obtain ⟨s5, eD2⟩ := hP
      repeat array_get_dec
      refine ⟨by show 0 ≤ sizeLine; decide, fun q6 n6 => ?_⟩
      generalize hG : upd H5 q6 _ = H6
      have s6 : Same H5 H6 := by rw [← hG]; exact same_upd n6
      have e6 : H6 q6 = some (.lst []) := by rw [← hG]; exact upd_same
      clear hG
      refine ⟨[], [], hd_list (vs := []) (SqL.of (s6 _ _ eD2)) trivial, hd_list (vs := []) (SqL.of e6) trivial, ?_⟩
      rw [decide_eq_false (fun h => h rfl)]
      repeat array_get_dec
      have hMH : MH = 1000000000000 := by unfold MH; decide +kernel
      rw [hMH] at ha0 hbM
      refine ⟨_, _, rfl, ?_⟩
      obtain ⟨c1, hc1⟩ : ∃ v : Int, v = (if bb < a + 1 then bb else a + 1) := ⟨_, rfl⟩
      rw [← hc1]
      have hc1b : a ≤ c1 ∧ c1 ≤ bb := by rw [hc1]; split <;> omega
      repeat array_get_dec
      refine ⟨_, _, rfl, ?_⟩
      obtain ⟨c2, hc2⟩ : ∃ v : Int, v = (if bb - 1 > a then bb - 1 else a) := ⟨_, rfl⟩
      rw [← hc2]
      have hc2b : a ≤ c2 ∧ c2 ≤ bb := by rw [hc2]; split <;> omega
      repeat array_get_dec
      have s16 := (s14.trans s5).trans s6
      refine go_take ((Drw.refl hb).go s16) (by omega) (by omega) (by omega) fun r H7 l7 u7 d7 k7 => ?_
      repeat array_get_dec
      refine ⟨by show 5 ≤ sizeLine; decide, fun q8 n8 => ?_⟩
      generalize hG : upd H7 q8 _ = H8
      obtain ⟨hq8, e8, s8, d8⟩ := d7.gen n8 hG
      clear hG
      have hc8 := hc.drwB d8 hb
      have hlev : ∀ (i : Nat) v, ([V.int a, .int bb, .int c1, .int c2, .int (a + r)] : List V)[i]? = some v → ∃ L, v = .int L ∧ a ≤ L ∧ L ≤ bb := fun i v hv => by
        match i, hv with
        | 0, hv => cases hv; exact ⟨_, rfl, by omega, by omega⟩
        | 1, hv => cases hv; exact ⟨_, rfl, by omega, by omega⟩
        | 2, hv => cases hv; exact ⟨_, rfl, by omega, by omega⟩
        | 3, hv => cases hv; exact ⟨_, rfl, by omega, by omega⟩
        | 4, hv => cases hv; exact ⟨_, rfl, by omega, by omega⟩
        | _ + 5, hv => rw [List.getElem?_eq_none (by show 5 ≤ _; omega)] at hv; cases hv
      refine ⟨q8, rfl, ⟨_, SqL.of e8⟩, ?_⟩
      refine for_list (xs := [.int a, .int bb, .int c1, .int c2, .int (a + r)]) (fun i σ H' => (∃ y8 y9, σ = [some (.ref b), some (.ref p), some (.ref l), some (.str x), some (.str y), some (.int a), some (.int bb), some (.ref D), y8, y9]) ∧ Same H8 H') ⟨⟨_, _, rfl⟩, Same.refl _⟩ (fun i σ H' _ hP => SqL.of (hP.2 _ _ e8)) (fun i v σ H9 hv hP => ?_) (fun σ H9 hP => ?_)
      · obtain ⟨⟨y8, y9, rfl⟩, s9⟩ := hP
        obtain ⟨L, rfl, hL1, hL2⟩ := hlev i v hv
        have hLh : heightB L = true := by
          unfold heightB
          rw [hMH, decide_eq_true (by omega), decide_eq_true (by omega)]
          rfl
        repeat array_get_dec
        refine w_cm ?_
        repeat array_get_dec
        refine ⟨rfl, ?_⟩
        repeat array_get_dec
        have hc9 := hc8.mono s9
        refine ⟨p, c, L, rfl, hc9, ok, hLh, fun q10 H10 s10 n10 hl10 => ?_⟩
        repeat array_get_dec
        refine ⟨q10, x, y, c, _, rfl, hl10.ld, ok, hx, hy, fun o H11 s11 ho => ?_⟩
        have e := clip_pass ok ho1 ho2 hL1 hL2 ho
        subst e
        repeat array_get_dec
        rw [show decide (optV (some L) = V.int L) = true from decide_eq_true rfl]
        repeat array_get_dec
        exact ⟨⟨_, _, rfl⟩, s9.trans (s10.trans s11)⟩
      · obtain ⟨⟨y8, y9, rfl⟩, s9⟩ := hP
        repeat array_get_dec
        exact q H9 (d8.go s9)
abbrev N__law_rims_right : List Str := ["_law_chart_here", "_law_lands", "_law_one", "_law_others", "_law_level", "_law_inside", "_law_other", "_law_land", "_law_far"]
theorem sc__law_rims_right : FnScope N__law_rims_right ["_law_chart_here", "_law_lands", "_law_one", "_law_others", "_law_level"] (defScope s__law_rims_right) := ⟨rfl, rfl, rfl, by decide +kernel, rfl, by decide +kernel, by decide +kernel⟩
theorem ok__law_rims_right {f : Addr} {fd : FuncData} {CL C CB : Addr}  (F : Fun K "_law_rims_right" "_law_rims_right" s__law_rims_right f fd) (T : Txt K mg) (C_rim : Cal P w K mg base "rim" 6 ["chart", "name", "level"] (spRim C CB)) (C_pass_level : Cal P w K mg base "pass_level" 8 ["land", "one", "other"] (spPassL CL C CB)) : FnOk P w K mg base CX0 9 f fd ["_law_chart_here", "_law_lands", "_law_one", "_law_others", "_law_level"] (spRimsR CL C CB) := by
  refine F.ok sc__law_rims_right (fun vs H Q E h => ?_) (fun cdv A outer s H vs Q E hr h => ?_)
  · obtain ⟨p, l, o, x, t, os, c, us, rfl, hc, ok, hl, hx, ht, ho, hos, q⟩ := h
    rfl
  · obtain ⟨p, l, o, x, t, os, c, us, rfl, hc, ok, hl, hx, ht, ho, hos, q⟩ := h
    refine ⟨_, (pss_cons (ps_set (i := 5) sc__law_rims_right.nd rfl (.inl rfl) (pe_cal C_rim (hr.mono (by decide)) (by rfl) (pa_cons (pv 0) (pa_cons (pv 2) (pa_cons (pv 4) pa_nil)))))
    (pss_cons (ps_for PassesOwn.never rfl (pi_list (pv 3)) (pg_name (i := 6) sc__law_rims_right.nd rfl (.inl rfl))
    (pss_one (ps_for PassesOwn.never rfl (pi_list (pv 1)) (pg_name (i := 7) sc__law_rims_right.nd rfl (.inl rfl))
    (pss_cons (ps_set (i := 8) sc__law_rims_right.nd rfl (.inl rfl) (pe_cal C_pass_level (hr.mono (by decide)) (by rfl) (pa_cons (pv 7) (pa_cons (pv 2) (pa_cons (pv 6) pa_nil)))))
    (pss_one (ps_if (PW.pt (pw_and (pt_cmpR op_notIn_seq (pv 6) (pv 5) (by rfl)) (pw_and (pt_cmpR op_notN (pv 8) pe_non (nomark _)) (pw_and1 (pt_cmpR op_lt (pv 8) (pv 4) (nomark _)))))) (pss_one (ps_ret pe_bl)) pss_nil))))))
    (pss_one (ps_ret pe_bl)))), ?_⟩
    repeat array_get_dec
    refine ⟨p, x, t, c, rfl, hc, ok, hx, ht, fun r1 H1 ys s1 n1 e1 hnd hs hys => ?_⟩
    repeat array_get_dec
    have ho1 := s1 _ _ ho
    have hl1 := hl.mono s1
    refine ⟨o, rfl, ⟨_, SqL.of ho1⟩, ?_⟩
    refine for_list (xs := os.map V.str) (fun i σ H' => (∃ y6 y7 y8, σ = [some (.ref p), some (.ref l), some (.str x), some (.ref o), some (.int t), some (.ref r1), y6, y7, y8]) ∧ Same H1 H') ⟨⟨_, _, _, rfl⟩, Same.refl _⟩ (fun i σ H' _ hP => SqL.of (hP.2 _ _ ho1)) (fun i v σ H2 hv hP => ?_) (fun σ H2 hP => ?_)
    · obtain ⟨⟨y6, y7, y8, rfl⟩, s2⟩ := hP
      obtain ⟨z, hz, rfl⟩ := strs_get hv
      have hzn := hos z (List.mem_of_getElem? hz)
      have hl2 := hl1.mono s2
      repeat array_get_dec
      refine ⟨l, rfl, ⟨_, SqL.of hl2.1⟩, ?_⟩
      refine for_list (xs := us) (fun j σ H' => (∃ y7 y8, σ = [some (.ref p), some (.ref l), some (.str x), some (.ref o), some (.int t), some (.ref r1), some (.str z), y7, y8]) ∧ Same H2 H') ⟨⟨_, _, rfl⟩, Same.refl _⟩ (fun j σ H' _ hP => SqL.of (hP.2 _ _ hl2.1)) (fun j v σ H3 hv hP => ?_) (fun σ H3 hP => ?_)
      · obtain ⟨⟨y7, y8, rfl⟩, s3⟩ := hP
        obtain ⟨qp, h, rfl, hld, hbd⟩ := (hl2.mono s3).2 v (List.mem_of_getElem? hv)
        repeat array_get_dec
        refine ⟨qp, x, z, c, h, rfl, hld, ok, hx, hzn, fun far H4 s4 hfar => ?_⟩
        have s34 := s3.trans s4
        have s14 := s2.trans s34
        repeat array_get_dec
        refine ⟨r1, _, rfl, .inl (SqL.of (s14 _ _ e1)), rfl, L9.flat_strs _, ?_⟩
        rw [if_pos rfl, inV_strs]
        refine w_isBl ?_
        have fin : ∀ (w7 w8 : Option V), (∃ y7 y8, ([some (V.ref p), some (.ref l), some (.str x), some (.ref o), some (.int t), some (.ref r1), some (.str z), w7, w8] : L2.St) = [some (.ref p), some (.ref l), some (.str x), some (.ref o), some (.int t), some (.ref r1), some (.str z), y7, y8]) ∧ Same H2 H4 := fun w7 w8 => ⟨⟨_, _, rfl⟩, s34⟩
        by_cases hm : z ∈ ys
        · rw [decide_eq_true hm]
          repeat array_get_dec
          exact fin _ _
        · rw [decide_eq_false hm]
          repeat array_get_dec
          cases far with
          | none =>
            refine ⟨rfl, false, rfl, ?_⟩
            repeat array_get_dec
            exact fin _ _
          | some d =>
            rw [show optV (some d) = V.int d from rfl]
            refine ⟨rfl, true, rfl, ?_⟩
            repeat array_get_dec
            have hnd2 : ¬ d < t := fun hlt => hm ((hys z).mpr (hfar.some_at.mono fun w hw => ⟨hw.1, by
              have h1 := (hbd w hw.1).1
              have h2 := hw.2
              omega⟩))
            rw [decide_eq_false hnd2]
            repeat array_get_dec
            exact fin _ _
      · obtain ⟨⟨y7, y8, rfl⟩, s3⟩ := hP
        exact ⟨⟨_, _, _, rfl⟩, s2.trans s3⟩
    · obtain ⟨⟨y6, y7, y8, rfl⟩, s2⟩ := hP
      repeat array_get_dec
      exact q H2 (s1.trans s2)
end
end
end
end K23

namespace K23
open PySem PySem.Spec PyProof.Rows L2 L9
section
local macro_rules | `(tactic| array_get_dec) => `(tactic| first
  | with_reducible refine w_methK ?_
  | with_reducible refine w_items ?_
  | with_reducible refine w_iSeq ?_
  | with_reducible refine w_iKeys ?_
  | with_reducible refine w_orT ?_
  | with_reducible refine w_calN ?_)
section
local macro_rules | `(tactic| array_get_dec) => `(tactic| with_reducible refine w_gN (by first | (dsimp only [List.set_cons_zero, List.set_cons_succ]; done) | rfl) ?_)
section
variable {P : Program} {w : World} {K : PySem.W.Frag} {mg : Str → Option Value} {base : Heap}
abbrev N_law : List Str := ["_law_script", "_law_k", "_law_box_here", "_law_model_here", "_law_chart_here", "_law_names_here", "_law_lands", "_law_one", "_law_other", "_law_level", "_law_lap"]
theorem sc_law : FnScope N_law ["_law_script"] (defScope s_law) := ⟨rfl, rfl, rfl, by decide +kernel, rfl, by decide +kernel, by decide +kernel⟩
theorem ok_law {f : Addr} {fd : FuncData} {CL C CB : Addr}  (F : Fun K "law" "law" s_law f fd) (T : Txt K mg) (C__law_cell : Cal P w K mg base "_law_cell" 1 ["_law_script", "_law_k"] (spCellA K)) (C__law_box : Cal P w K mg base "_law_box" 1 ["_law_cell_here"] spBox) (C__law_take : Cal P w K mg base "_law_take" 1 ["_law_box_here", "_law_many"] spTake) (C__law_model : Cal P w K mg base "_law_model" 4 ["_law_box_here", "_law_most"] spModelF) (C__law_chart : Cal P w K mg base "_law_chart" 6 ["_law_model_here"] (spChartM C CB)) (C__law_heights : Cal P w K mg base "_law_heights" 3 ["_law_box_here", "_law_model_here"] spHeightsM) (C__law_later : Cal P w K mg base "_law_later" 9 ["_law_box_here", "_law_model_here", "_law_chart_here"] (spLater C CB)) (C__law_between_right : Cal P w K mg base "_law_between_right" 10 ["_law_box_here", "_law_chart_here", "_law_lands", "_law_one", "_law_other"] (spBetween CL C CB)) (C__law_pinned_right : Cal P w K mg base "_law_pinned_right" 9 ["_law_land", "_law_one", "_law_other"] (spPinRight CL C CB)) (C__law_rims_right : Cal P w K mg base "_law_rims_right" 9 ["_law_chart_here", "_law_lands", "_law_one", "_law_others", "_law_level"] (spRimsR CL C CB)) (I_Land : ICal P w K mg base "Land" CL 7 ["self", "chart", "heights"] (spLdInitC CL C CB)) : FnOk P w K mg base CX0 11 f fd ["_law_script"] (spLaw K) := by
  refine F.ok sc_law (fun vs H Q E h => ?_) (fun cdv A outer s H vs Q E hr h => ?_)
  · obtain ⟨a, ns, rfl, hS, hlen, q⟩ := h
    rfl
  · obtain ⟨a, ns, rfl, hS, hlen, q⟩ := h
    refine ⟨_, (pss_cons (ps_for PassesOwn.never rfl (pi_range1 (by rfl) T.m_range (pa_cons (pe_callB (call_max2 rfl) (by rfl) T.m_max (by decide +kernel) (pa_cons pe_int (pa_cons (pe_callB (call_min2 rfl) (by rfl) T.m_min (by decide +kernel) (pa_cons pe_int (pa_cons (pe_callB call_len_seq (by rfl) T.m_len (by decide +kernel) (pa_cons (pv 0) pa_nil)) pa_nil))) pa_nil))) pa_nil)) (pg_name (i := 1) sc_law.nd rfl (.inl rfl))
    (pss_cons (ps_set (i := 2) sc_law.nd rfl (.inr rfl) (pe_cal C__law_box (hr.mono (by decide)) (by rfl) (pa_cons (pe_cal C__law_cell (hr.mono (by decide)) (by rfl) (pa_cons (pv 0) (pa_cons (pv 1) pa_nil))) pa_nil)))
    (pss_cons (ps_set (i := 3) sc_law.nd rfl (.inr rfl) (pe_cal C__law_model (hr.mono (by decide)) (by rfl) (pa_cons (pv 2) (pa_cons pe_int pa_nil))))
    (pss_cons (ps_set (i := 4) sc_law.nd rfl (.inr rfl) (pe_cal C__law_chart (hr.mono (by decide)) (by rfl) (pa_cons (pv 3) pa_nil)))
    (pss_cons (ps_set (i := 5) sc_law.nd rfl (.inl rfl) (pe_callB (call_sortedD rfl) (by rfl) T.m_sorted (by decide +kernel) (pa_cons (pe_dget (hu_of hr) (pv 3) pe_str (fun _ _ => rfl)) pa_nil)))
    (pss_cons (ps_if (pt_cmpR op_eq (pe_cal C__law_take (hr.mono (by decide)) (by rfl) (pa_cons (pv 2) (pa_cons pe_int pa_nil))) pe_int (nomark _)) (pss_one (ps_set (i := 4) sc_law.nd rfl (.inr rfl) (pe_cal C__law_later (hr.mono (by decide)) (by rfl) (pa_cons (pv 2) (pa_cons (pv 3) (pa_cons (pv 4) pa_nil)))))) pss_nil)
    (pss_cons (ps_setLc (i := 6) (own := [("_law_lap", 10)]) (g := gName 10) (tt := tYes) rfl sc_law.nd rfl rfl (sw_true rfl rfl rfl (by decide +kernel)) (pi_range1 (by rfl) T.m_range (pa_cons (pe_op op_add pe_int (pe_cal C__law_take (hr.mono (by decide)) (by rfl) (pa_cons (pv 2) (pa_cons pe_int pa_nil)))) pa_nil)) (blkOk_by (N := N_law) (sc := defScope s_law) (by decide +kernel)) (fun _ _ _ _ _ => pg_name (i := 10) sc_law.nd rfl (Or.inl rfl)) (fun _ _ _ _ _ => pts_nil) (fun _ _ _ _ _ => (I_Land.pe (hr.mono (by decide)) (by rfl) (pa_cons (pv 4) (pa_cons (pe_cal C__law_heights (hr.mono (by decide)) (by rfl) (pa_cons (pv 2) (pa_cons (pv 3) pa_nil))) pa_nil)))))
    (pss_one (ps_for PassesOwn.never rfl (pi_list (pv 5)) (pg_name (i := 7) sc_law.nd rfl (.inl rfl))
    (pss_cons (ps_for PassesOwn.never rfl (pi_list (pv 5)) (pg_name (i := 8) sc_law.nd rfl (.inl rfl))
    (pss_one (ps_if (pt_not (pt_val (pe_cal C__law_between_right (hr.mono (by decide)) (by rfl) (pa_cons (pv 2) (pa_cons (pv 4) (pa_cons (pv 6) (pa_cons (pv 7) (pa_cons (pv 8) pa_nil)))))))) (pss_one (ps_ret pe_bl)) pss_nil)))
    (pss_cons (ps_if (pt_not (pt_val (pe_cal C__law_pinned_right (hr.mono (by decide)) (by rfl) (pa_cons (pe_ix ix_list (pv 6) pe_int (fun _ _ => rfl)) (pa_cons (pv 7) (pa_cons (pe_ix ix_list (pv 5) (pe_cal C__law_take (hr.mono (by decide)) (by rfl) (pa_cons (pv 2) (pa_cons (pe_callB call_len_seq (by rfl) T.m_len (by decide +kernel) (pa_cons (pv 5) pa_nil)) pa_nil))) (fun _ _ => rfl)) pa_nil)))))) (pss_one (ps_ret pe_bl)) pss_nil)
    (pss_cons (ps_set (i := 9) sc_law.nd rfl (.inl rfl) (pe_dget (hu_of hr) (pe_dget (hu_of hr) (pv 3) pe_str (fun _ _ => rfl)) (pe_ix ix_list (pv 5) (pe_cal C__law_take (hr.mono (by decide)) (by rfl) (pa_cons (pv 2) (pa_cons (pe_callB call_len_seq (by rfl) T.m_len (by decide +kernel) (pa_cons (pv 5) pa_nil)) pa_nil))) (fun _ _ => rfl)) (fun _ _ => rfl)))
    (pss_one (ps_if (pt_not (pt_val (pe_cal C__law_rims_right (hr.mono (by decide)) (by rfl) (pa_cons (pv 4) (pa_cons (pv 6) (pa_cons (pv 7) (pa_cons (pv 5) (pa_cons (pv 9) pa_nil)))))))) (pss_one (ps_ret pe_bl)) pss_nil))))))))))))))
    (pss_one (ps_ret pe_bl))), ?_⟩
    repeat array_get_dec
    refine ⟨a, _, rfl, .inl hS, ?_⟩
    rw [List.length_map]
    repeat array_get_dec
    refine ⟨_, _, rfl, ?_⟩
    repeat array_get_dec
    refine ⟨_, _, rfl, ?_⟩
    have hb : ∀ z : Int, (0 : Int) ≤ (if (if z < 4 then z else 4) > 2 then (if z < 4 then z else 4) else 2) ∧ (if (if z < 4 then z else 4) > 2 then (if z < 4 then z else 4) else 2) ≤ 4 := fun z => by
      split <;> split <;> omega
    obtain ⟨hb0, hb1⟩ := hb (ns.length : Int)
    generalize (if (if (ns.length : Int) < 4 then (ns.length : Int) else 4) > 2 then (if (ns.length : Int) < 4 then (ns.length : Int) else 4) else 2) = kk at hb0 hb1 ⊢
    repeat array_get_dec
    refine for_range (lo := 0) (fun i σ H' => (∃ y1 y2 y3 y4 y5 y6 y7 y8 y9 y10, σ = [some (.ref a), y1, y2, y3, y4, y5, y6, y7, y8, y9, y10]) ∧ Same H H') ⟨⟨_, _, _, _, _, _, _, _, _, _, rfl⟩, Same.refl _⟩ (fun i σ H1 hi hP => ?_) (fun σ H1 hP => ?_)
    rotate_left
    · obtain ⟨⟨y1, y2, y3, y4, y5, y6, y7, y8, y9, y10, rfl⟩, sm⟩ := hP
      repeat array_get_dec
      exact q _
    obtain ⟨⟨y1, y2, y3, y4, y5, y6, y7, y8, y9, y10, rfl⟩, sm⟩ := hP
    have hi2 : i < 4 := by
      have h1 : i < Int.toNat kk := hi
      omega
    have hS1 := sm.seq hS
    repeat array_get_dec
    refine ⟨a, ns, _, rfl, hS1, hlen, by omega, by omega, fun c0 => ?_⟩
    repeat array_get_dec
    refine ⟨c0, rfl, fun b xs nb hx => ?_⟩
    generalize hG : upd H1 b _ = H2
    have s2 : Same H1 H2 := by rw [← hG]; exact same_upd nb
    have bx : BoxAt H2 b 0 := ⟨xs, by rw [← hG]; exact upd_same, hx⟩
    clear hG
    repeat array_get_dec
    refine ⟨b, 7, 0, rfl, bx, by omega, by omega, by omega, fun mp lp hp H3 M d3 nmp nlp nhp hM hok => ?_⟩
    repeat array_get_dec
    refine ⟨mp, b, M, 7, rfl, hM.md, hok, by omega, fun cp H4 s4 ncp hc kc => ?_⟩
    have d4 := d3.go s4
    have hM4 := hM.mono s4
    obtain ⟨tp, op, vs, m1, m2, m3, m4, m5, m6, mb1, mb2, mb3, mb4, mb5, hlh⟩ := id hM4
    have hl26 : M.nm.length ≤ 7 := hok.l2
    have hl1 := hok.l1
    repeat array_get_dec
    refine ⟨mp, .ref lp, rfl, md_low m1, ?_⟩
    repeat array_get_dec
    refine ⟨lp, _, M.nm, rfl, .inl m2, by unfold byI; rw [List.map_map]; rfl, by omega, fun ns5 r5 hp5 hs5 n5 => ?_⟩
    have ens : ns5 = sortStr M.nm := sortStr_uniq hp5 hs5
    have hmem : ∀ x, x ∈ sortStr M.nm ↔ x ∈ M.nm := fun x => by rw [← ens]; exact hp5.mem_iff
    have hnl : (sortStr M.nm).length = M.nm.length := by rw [← ens]; exact hp5.length_eq
    have hrb5 : r5 ≠ b := d4.ne n5
    generalize hG : upd H4 r5 _ = H5
    have s5 : Same H4 H5 := by rw [← hG]; exact same_upd n5
    have e5 : H5 r5 = some (.lst ((sortStr M.nm).map V.str)) := by rw [← hG, upd_same, ens]
    clear hG
    have d5 := d4.go s5
    have hM5 := hM4.mono s5
    have hc5 := hc.mono s5
    have pick : ∀ k : Nat, k < M.nm.length → ∃ z, (sortStr M.nm)[k]? = some z ∧ z ∈ sortStr M.nm := fun k hk => ⟨_, List.getElem?_eq_getElem (by omega), List.getElem_mem _⟩
    have ST : L2.St := []
    repeat (first | with_reducible refine w_seqG (fun σ' H' => ∃ (cp : Addr) (M2 : Mdl), σ' = [some (.ref a), some (.int (0 + (i : Int))), some (.ref b), some (.ref mp), some (.ref cp), some (.ref r5), y6, y7, y8, y9, y10] ∧ (∀ q o, q ≠ b → q ≠ lp → q ≠ hp → H5 q = some o → H' q = some o) ∧ BoxAt H' b 500 ∧ MdL H' mp lp hp M2 b ∧ M2.Ok 7 ∧ M2.nm = M.nm ∧ ChAt C CB H' cp (chM M2) ∧ Can (chM M2)) ?_ ?_ | array_get_dec)
    rotate_left
    · intro U hU
      repeat array_get_dec
      refine go_take d5 (by omega) (by omega) (by omega) fun r H6 l6 u6 d6 k6 => ?_
      have d56 : Drw H5 H6 b 401 := ⟨k6, d6.box⟩
      repeat array_get_dec
      by_cases hr0 : r = 0
      · rw [show decide (V.int r = V.int 0) = true from decide_eq_true (by rw [hr0])]
        repeat array_get_dec
        refine ⟨b, mp, cp, lp, hp, M, 401, 7, rfl, d56.box, hM5.drw d56 d5.box, hok, by omega, by omega, hc5.drwB d56 d5.box, kc, fun r7 H7 M2 k7 b7 hM7 hok7 hn7 hc7 kc7 => ?_⟩
        repeat array_get_dec
        refine hU _ _ ⟨r7, M2, rfl, fun q o h1 h2 h3 e => k7 _ _ h1 h2 h3 (k6 _ _ h1 e), ?_, hM7, hok7, hn7, hc7, kc7⟩
        obtain ⟨xs, e, hx⟩ := b7
        exact ⟨xs, e, hx.mono (by omega)⟩
      · rw [show decide (V.int r = V.int 0) = false from decide_eq_false (fun h => hr0 (V.int.inj h))]
        repeat array_get_dec
        refine hU _ _ ⟨cp, M, rfl, fun q o h1 h2 h3 e => k6 _ _ h1 e, ?_, hM5.drw d56 d5.box, hok, rfl, hc5.drwB d56 d5.box, kc⟩
        obtain ⟨xs, e, hx⟩ := d56.box
        exact ⟨xs, e, hx.mono (by omega)⟩
    rintro σ' H6 ⟨cp2, M2, rfl, k6, b6, hM6, hok2, hn2, hc6, kc2⟩
    have hr5l : r5 ≠ lp := fun z => by rw [z, s5 _ _ m2] at e5; cases e5
    have hr5h : r5 ≠ hp := fun z => by rw [z, s5 _ _ m3] at e5; cases e5
    have e6 := k6 _ _ hrb5 hr5l hr5h e5
    have hnm : (chM M2).names = sortStr M.nm := by show sortStr M2.nm = _; rw [hn2]
    have s16 : Same H1 H6 := fun p o e => k6 p o (ne_of_none e nb) (ne_of_none (s2 _ _ e) nlp) (ne_of_none (s2 _ _ e) nhp) (s5 _ _ (s4 _ _ (d3.keep p o (ne_of_none e nb) (s2 p o e))))
    clear k6 hc5 hM5 d5 m1 m2 m3 m4 m5 m6 hM4 hc hM
    repeat array_get_dec
    refine go_take (Drw.refl b6) (by omega) (by omega) (by omega) fun r H7 l7 u7 d7 k7 => ?_
    repeat array_get_dec
    have hr : r.toNat ≤ 3 := by omega
    have er6 : ∀ {H' : Hp} {n : Nat}, Drw H6 H' b n → H' r5 = some (.lst ((sortStr M.nm).map V.str)) := fun d => d.keep _ _ hrb5 e6
    intro D nD
    have hDb : D ≠ b := d7.ne nD
    refine lc_range (lo := 0) (fun j H' => Drw H6 H' b (501 + 125 * j) ∧ ∃ us : List V, H' D = some (.lst us) ∧ us.length = j ∧ ∀ v ∈ us, ∃ (q : Addr) (h : Str → Int), v = .ref q ∧ LdB CL H' q cp2 (chM M2) h ∧ ∀ z ∈ (chM M2).names, (chM M2).lo z ≤ h z ∧ h z ≤ (chM M2).hi z) ⟨d7.new nD, [], upd_same, rfl, fun v hv => nomatch hv⟩ (fun j H' hj hP => ?_) (fun H' hP => ?_)
    · obtain ⟨d8, us, eD, hul, hus⟩ := hP
      have hj4 : j < 4 := by
        have h1 : j < Int.toNat (1 + r) := hj
        omega
      refine ⟨rfl, tyes ?_⟩
      repeat array_get_dec
      refine ⟨b, mp, M2, 501 + 125 * j, 7, rfl, d8.box, (hM6.drw d8 b6).md, hok2, by omega, by omega, fun hp9 H9 l9 h9 d9 n9 e9 hl9 hb9 => ?_⟩
      have D9 := d8.cat d9
      repeat array_get_dec
      have hmm : ∀ x, x ∈ l9 ↔ x ∈ (chM M2).names := fun x => by rw [hl9.mem_iff, hnm, hmem x, hn2]
      refine go_land (hc6.drwB D9 b6) kc2.ok e9 (hl9.nodup_iff.mpr hok2.labs.nd) hmm (fun x hx => hb9 x (by rw [hn2]; exact (hmem x).mp (by rw [← hnm]; exact hx))) fun y HA sA nA hlA => ?_
      have DA := D9.go sA
      have d8A : Drw H' HA b _ := d9.go sA
      have eDA := d8A.keep _ _ hDb eD
      refine ⟨us, eDA, by rw [hul]; exact small1000 (by omega), (DA.at hDb (d7.free hDb nD)).le (by omega), us ++ [.ref y], upd_same, by rw [List.length_append, hul]; rfl, fun v hv => ?_⟩
      rcases List.mem_append.mp hv with g | g
      · obtain ⟨q2, h2, e2, l2, b2⟩ := hus v g
        exact ⟨q2, h2, e2, (l2.drw d8A d8.box).updL eDA, b2⟩
      · rw [List.mem_singleton.mp g]
        exact ⟨y, h9, rfl, hlA.body.updL eDA, fun z hz => hb9 z (by rw [hn2]; exact (hmem z).mp (by rw [← hnm]; exact hz))⟩
    obtain ⟨d8, us, eD, hul, hus⟩ := hP
    have d8 : Drw H6 H' b 1100 := d8.le (by omega)
    have hul1 : 1 ≤ us.length := by omega
    have hul : us.length ≤ 10 := by omega
    have hland : ∀ {H2 : Hp} {n : Nat}, Drw H' H2 b n → LandsAt CL C CB H2 D (chM M2) us := fun {H2} {n} d => ⟨d.keep _ _ hDb eD, fun v hv => by
      obtain ⟨q2, h2, e2, l2, b2⟩ := hus v hv
      exact ⟨q2, h2, e2, ((l2.drw d d8.box).full ((hc6.drwB d8 b6).drwB d d8.box)).ld, b2⟩⟩
    have e8 := er6 d8
    have hc8 := hc6.drwB d8 b6
    have hM8 := hM6.drw d8 b6
    have hnl2 : (sortStr M.nm).length ≤ 7 := by omega
    repeat array_get_dec
    refine ⟨r5, rfl, ⟨_, SqL.of e8⟩, ?_⟩
    refine for_list (xs := (sortStr M.nm).map V.str) (fun j σ H2 => (∃ z7 z8 z9 z10, σ = [some (.ref a), some (.int (0 + (i : Int))), some (.ref b), some (.ref mp), some (.ref cp2), some (.ref r5), some (.ref D), z7, z8, z9, z10]) ∧ Drw H' H2 b (1100 + 20 * j)) ⟨⟨_, _, _, _, rfl⟩, Drw.refl d8.box⟩ (fun j σ H2 _ hP => SqL.of (hP.2.keep _ _ hrb5 e8)) (fun j v σ H9 hv hP => ?_) (fun σ H9 hP => ?_)
    rotate_left
    · obtain ⟨⟨z7, z8, z9, z10, rfl⟩, d9⟩ := hP
      exact ⟨⟨_, _, _, _, _, _, _, _, _, _, rfl⟩, sm.trans fun p o e => d9.keep _ _ (ne_of_none e nb) (d8.keep _ _ (ne_of_none e nb) (s16 _ _ e))⟩
    obtain ⟨⟨z7, z8, z9, z10, rfl⟩, d9⟩ := hP
    obtain ⟨x, hxk, rfl⟩ := strs_get hv
    have hj7 := get_lt hxk
    have hxm : x ∈ (chM M2).names := by rw [hnm]; exact List.mem_of_getElem? hxk
    repeat array_get_dec
    have e9 := d9.keep _ _ hrb5 e8
    refine ⟨r5, rfl, ⟨_, SqL.of e9⟩, ?_⟩
    refine for_list (xs := (sortStr M.nm).map V.str) (fun j2 σ H2 => (∃ z8 z9 z10, σ = [some (.ref a), some (.int (0 + (i : Int))), some (.ref b), some (.ref mp), some (.ref cp2), some (.ref r5), some (.ref D), some (.str x), z8, z9, z10]) ∧ Drw H' H2 b (1100 + 20 * j + j2)) ⟨⟨_, _, _, rfl⟩, d9⟩ (fun j2 σ H2 _ hP => SqL.of (hP.2.keep _ _ hrb5 e8)) (fun j2 v σ HA hv2 hP => ?_) (fun σ HA hP => ?_)
    · obtain ⟨⟨z8, z9, z10, rfl⟩, dA⟩ := hP
      obtain ⟨y, hyk, rfl⟩ := strs_get hv2
      have hj72 := get_lt hyk
      repeat array_get_dec
      refine ⟨b, cp2, D, x, y, _, us, 1100 + 20 * j + j2, rfl, dA.box, by omega, hc8.drwB dA d8.box, kc2.ok, hland dA, hul, hxm, by rw [hnm]; exact List.mem_of_getElem? hyk, fun HB dB => ?_⟩
      repeat array_get_dec
      exact ⟨⟨_, _, _, rfl⟩, dA.cat dB⟩
    obtain ⟨⟨z8, z9, z10, rfl⟩, dA⟩ := hP
    have dA : Drw H' HA b (1100 + 20 * j + 7) := dA.le (by rw [List.length_map]; omega)
    obtain ⟨u0, us', hu0⟩ : ∃ u0 us', us = u0 :: us' := by
      cases us with
      | nil => exact absurd hul1 (by decide)
      | cons u us => exact ⟨u, us, rfl⟩
    obtain ⟨q0, g0, rfl, hl0, hb0⟩ := (hland dA).2 u0 (by rw [hu0]; exact List.mem_cons_self)
    have hLA := hland dA
    repeat array_get_dec
    refine go_ixL (j := 0) (SqL.of hLA.1) rfl (by rw [hu0]; rfl) ?_
    repeat array_get_dec
    have eA := dA.keep _ _ hrb5 e8
    refine ⟨r5, _, rfl, .inl (SqL.of eA), ?_⟩
    repeat array_get_dec
    refine go_take dA (by rw [List.length_map]; omega) (by rw [List.length_map]; omega) (by omega) fun ra HB la ua dB kB => ?_
    rw [List.length_map] at ua
    obtain ⟨ka, rfl⟩ := Int.eq_ofNat_of_zero_le la
    obtain ⟨y, hyk, hym⟩ := pick ka (by omega)
    have eB := dB.keep _ _ hrb5 e8
    refine go_ixL (SqL.of eB) rfl (by rw [List.getElem?_map, hyk]; rfl) ?_
    repeat array_get_dec
    refine ⟨q0, x, y, _, g0, rfl, hl0.drw ⟨kB, dB.box⟩ dA.box, kc2, hb0, hxm, by rw [hnm]; exact hym, fun HC' sC => ?_⟩
    have dC := dB.go sC
    have eC := dC.keep _ _ hrb5 e8
    have hMC := hM8.drw dC d8.box
    obtain ⟨tpC, opC, vsC, m1C, m2C, m3C, m4C, m5C, m6C, _⟩ := id hMC
    repeat array_get_dec
    refine ⟨mp, .ref lp, rfl, md_low m1C, ?_⟩
    repeat array_get_dec
    refine ⟨r5, _, rfl, .inl (SqL.of eC), ?_⟩
    repeat array_get_dec
    refine go_take dC (by rw [List.length_map]; omega) (by rw [List.length_map]; omega) (by omega) fun rb HD lb ub dD kD => ?_
    rw [List.length_map] at ub
    obtain ⟨kb, rfl⟩ := Int.eq_ofNat_of_zero_le lb
    obtain ⟨z, hzk, hzm⟩ := pick kb (by omega)
    have eD2 := dD.keep _ _ hrb5 e8
    refine go_ixL (SqL.of eD2) rfl (by rw [List.getElem?_map, hzk]; rfl) ?_
    have hzM : z ∈ M2.nm := by rw [hn2]; exact (hmem z).mp hzm
    have hMD := hM8.drw dD d8.box
    obtain ⟨tpD, opD, vsD, m1D, m2D, m3D, m4D, m5D, m6D, _⟩ := id hMD
    refine ⟨lp, _, rfl, .inl ⟨_, Sum.inr z, .inl m2D, rfl, (valV_byI hzM).symm⟩, ?_⟩
    have hLh : heightB (M2.lo z) = true := by
      have := hok2.bnd z hzM
      unfold heightB
      rw [decide_eq_true (by omega), decide_eq_true (by omega)]
      rfl
    repeat array_get_dec
    refine ⟨cp2, D, r5, x, M2.lo z, sortStr M.nm, _, us, rfl, hc8.drwB dD d8.box, kc2.ok, hland dD, hxm, hLh, eD2, fun w hw => by rw [hnm]; exact hw, fun HE sE => ?_⟩
    repeat array_get_dec
    exact ⟨⟨_, _, _, _, rfl⟩, (dD.go sE).le (by omega)⟩
end
end
end
end K23

namespace K23
open PySem PySem.Spec PyProof.Rows L2 L9
theorem all_mk {l : PySem.W.OpenLaw} {w : World} {K : PySem.W.Frag} {h : Heap} {mg : Str → Option Value} {fa CB CH CL f1 f2 f3 f4 f5 f6 f7 f8 f9 f10 f11 f12 f13 f14 f15 f16 f17 f18 f19 f20 f21 f22 f23 f24 f25 f26 f27 f28 f29 f30 f31 f32 f33 f34 f35 f36 f37 f38 f39 f40 f41 f42 f43 f44 f45 f46 f47 f48 f49 f50 f51 f52 f53 f54 f55 f56 f57 f58 pL49 pB51 : Addr} (X : K.In h) (G : h.Ns mainGlobals mg) (hfa : mg "law" = some (.ref fa))
    {od1 an1 : Option Addr} {sl1 : Array (Option Value)} {oc1 kV1 dc1 pm1 cd1 ct1 : Value}
    {od2 an2 : Option Addr} {sl2 : Array (Option Value)} {oc2 kV2 dc2 pm2 cd2 ct2 : Value}
    {od3 an3 : Option Addr} {sl3 : Array (Option Value)} {oc3 kV3 dc3 pm3 cd3 ct3 : Value}
    {od4 an4 : Option Addr} {sl4 : Array (Option Value)} {oc4 kV4 dc4 pm4 cd4 ct4 : Value}
    {od5 an5 : Option Addr} {sl5 : Array (Option Value)} {oc5 kV5 dc5 pm5 cd5 ct5 : Value}
    {od6 an6 : Option Addr} {sl6 : Array (Option Value)} {oc6 kV6 dc6 pm6 cd6 ct6 : Value}
    {od7 an7 : Option Addr} {sl7 : Array (Option Value)} {oc7 kV7 dc7 pm7 cd7 ct7 : Value}
    {od8 an8 : Option Addr} {sl8 : Array (Option Value)} {oc8 kV8 dc8 pm8 cd8 ct8 : Value}
    {od9 an9 : Option Addr} {sl9 : Array (Option Value)} {oc9 kV9 dc9 pm9 cd9 ct9 : Value}
    {od10 an10 : Option Addr} {sl10 : Array (Option Value)} {oc10 kV10 dc10 pm10 cd10 ct10 : Value}
    {od11 an11 : Option Addr} {sl11 : Array (Option Value)} {oc11 kV11 dc11 pm11 cd11 ct11 : Value}
    {od12 an12 : Option Addr} {sl12 : Array (Option Value)} {oc12 kV12 dc12 pm12 cd12 ct12 : Value}
    {od13 an13 : Option Addr} {sl13 : Array (Option Value)} {oc13 kV13 dc13 pm13 cd13 ct13 : Value}
    {od14 an14 : Option Addr} {sl14 : Array (Option Value)} {oc14 kV14 dc14 pm14 cd14 ct14 : Value}
    {od15 an15 : Option Addr} {sl15 : Array (Option Value)} {oc15 kV15 dc15 pm15 cd15 ct15 : Value}
    {od16 an16 : Option Addr} {sl16 : Array (Option Value)} {oc16 kV16 dc16 pm16 cd16 ct16 : Value}
    {od17 an17 : Option Addr} {sl17 : Array (Option Value)} {oc17 kV17 dc17 pm17 cd17 ct17 : Value}
    {od18 an18 : Option Addr} {sl18 : Array (Option Value)} {oc18 kV18 dc18 pm18 cd18 ct18 : Value}
    {od19 an19 : Option Addr} {sl19 : Array (Option Value)} {oc19 kV19 dc19 pm19 cd19 ct19 : Value}
    {Td19 pD19 : Addr} {ocT19 : Value} {odT19 : Option Addr} {slT19 : Array (Option Value)} {nT19 : Nat}
    {od20 an20 : Option Addr} {sl20 : Array (Option Value)} {oc20 kV20 dc20 pm20 cd20 ct20 : Value}
    {od21 an21 : Option Addr} {sl21 : Array (Option Value)} {oc21 kV21 dc21 pm21 cd21 ct21 : Value}
    {od22 an22 : Option Addr} {sl22 : Array (Option Value)} {oc22 kV22 dc22 pm22 cd22 ct22 : Value}
    {od23 an23 : Option Addr} {sl23 : Array (Option Value)} {oc23 kV23 dc23 pm23 cd23 ct23 : Value}
    {od24 an24 : Option Addr} {sl24 : Array (Option Value)} {oc24 kV24 dc24 pm24 cd24 ct24 : Value}
    {od25 an25 : Option Addr} {sl25 : Array (Option Value)} {oc25 kV25 dc25 pm25 cd25 ct25 : Value}
    {od26 an26 : Option Addr} {sl26 : Array (Option Value)} {oc26 kV26 dc26 pm26 cd26 ct26 : Value}
    {od27 an27 : Option Addr} {sl27 : Array (Option Value)} {oc27 kV27 dc27 pm27 cd27 ct27 : Value}
    {Td27 pD27 : Addr} {ocT27 : Value} {odT27 : Option Addr} {slT27 : Array (Option Value)} {nT27 : Nat}
    {od28 an28 : Option Addr} {sl28 : Array (Option Value)} {oc28 kV28 dc28 pm28 cd28 ct28 : Value}
    {Td28 pD28 : Addr} {ocT28 : Value} {odT28 : Option Addr} {slT28 : Array (Option Value)} {nT28 : Nat}
    {od29 an29 : Option Addr} {sl29 : Array (Option Value)} {oc29 kV29 dc29 pm29 cd29 ct29 : Value}
    {od30 an30 : Option Addr} {sl30 : Array (Option Value)} {oc30 kV30 dc30 pm30 cd30 ct30 : Value}
    {od31 an31 : Option Addr} {sl31 : Array (Option Value)} {oc31 kV31 dc31 pm31 cd31 ct31 : Value}
    {od32 an32 : Option Addr} {sl32 : Array (Option Value)} {oc32 kV32 dc32 pm32 cd32 ct32 : Value}
    {od33 an33 : Option Addr} {sl33 : Array (Option Value)} {oc33 kV33 dc33 pm33 cd33 ct33 : Value}
    {od34 an34 : Option Addr} {sl34 : Array (Option Value)} {oc34 kV34 dc34 pm34 cd34 ct34 : Value}
    {od35 an35 : Option Addr} {sl35 : Array (Option Value)} {oc35 kV35 dc35 pm35 cd35 ct35 : Value}
    {od36 an36 : Option Addr} {sl36 : Array (Option Value)} {oc36 kV36 dc36 pm36 cd36 ct36 : Value}
    {od37 an37 : Option Addr} {sl37 : Array (Option Value)} {oc37 kV37 dc37 pm37 cd37 ct37 : Value}
    {od38 an38 : Option Addr} {sl38 : Array (Option Value)} {oc38 kV38 dc38 pm38 cd38 ct38 : Value}
    {od39 an39 : Option Addr} {sl39 : Array (Option Value)} {oc39 kV39 dc39 pm39 cd39 ct39 : Value}
    {od40 an40 : Option Addr} {sl40 : Array (Option Value)} {oc40 kV40 dc40 pm40 cd40 ct40 : Value}
    {od41 an41 : Option Addr} {sl41 : Array (Option Value)} {oc41 kV41 dc41 pm41 cd41 ct41 : Value}
    {od42 an42 : Option Addr} {sl42 : Array (Option Value)} {oc42 kV42 dc42 pm42 cd42 ct42 : Value}
    {od43 an43 : Option Addr} {sl43 : Array (Option Value)} {oc43 kV43 dc43 pm43 cd43 ct43 : Value}
    {od44 an44 : Option Addr} {sl44 : Array (Option Value)} {oc44 kV44 dc44 pm44 cd44 ct44 : Value}
    {od45 an45 : Option Addr} {sl45 : Array (Option Value)} {oc45 kV45 dc45 pm45 cd45 ct45 : Value}
    {od46 an46 : Option Addr} {sl46 : Array (Option Value)} {oc46 kV46 dc46 pm46 cd46 ct46 : Value}
    {od47 an47 : Option Addr} {sl47 : Array (Option Value)} {oc47 kV47 dc47 pm47 cd47 ct47 : Value}
    {od48 an48 : Option Addr} {sl48 : Array (Option Value)} {oc48 kV48 dc48 pm48 cd48 ct48 : Value}
    {od49 an49 : Option Addr} {sl49 : Array (Option Value)} {oc49 kV49 dc49 pm49 cd49 ct49 : Value}
    {od50 an50 : Option Addr} {sl50 : Array (Option Value)} {oc50 kV50 dc50 pm50 cd50 ct50 : Value}
    {od51 an51 : Option Addr} {sl51 : Array (Option Value)} {oc51 kV51 dc51 pm51 cd51 ct51 : Value}
    {od52 an52 : Option Addr} {sl52 : Array (Option Value)} {oc52 kV52 dc52 pm52 cd52 ct52 : Value}
    {od53 an53 : Option Addr} {sl53 : Array (Option Value)} {oc53 kV53 dc53 pm53 cd53 ct53 : Value}
    {od54 an54 : Option Addr} {sl54 : Array (Option Value)} {oc54 kV54 dc54 pm54 cd54 ct54 : Value}
    {od55 an55 : Option Addr} {sl55 : Array (Option Value)} {oc55 kV55 dc55 pm55 cd55 ct55 : Value}
    {od56 an56 : Option Addr} {sl56 : Array (Option Value)} {oc56 kV56 dc56 pm56 cd56 ct56 : Value}
    {od57 an57 : Option Addr} {sl57 : Array (Option Value)} {oc57 kV57 dc57 pm57 cd57 ct57 : Value}
    {od58 an58 : Option Addr} {sl58 : Array (Option Value)} {oc58 kV58 dc58 pm58 cd58 ct58 : Value}
    {tk0 : Tok}
    {tk1 : Tok}
    {tk2 : Tok}
    {tk3 : Tok}
    {odG : Option Addr} {slG : Array (Option Value)} {nG : Nat}
    {re49 : List Value}
    {re51 : List Value}
    (gB : PySem.W.nsIn K mainGlobals "Bounds" = some (some (.ref CB)))
    (gH : PySem.W.nsIn K mainGlobals "Chart" = some (some (.ref CH)))
    (gL : PySem.W.nsIn K mainGlobals "Land" = some (some (.ref CL)))
    (mk2B : PySem.W.findIn K (.ref CB) "__init__" = some (some (.ref f11)))
    (mk2H : PySem.W.findIn K (.ref CH) "__init__" = some (some (.ref f19)))
    (mk2L : PySem.W.findIn K (.ref CL) "__init__" = some (some (.ref f47)))
    (a1 : PySem.W.nsIn K mainGlobals "_law_cell" = some (some (.ref f1)))
    (a2 : PySem.W.nsIn K mainGlobals "_law_box" = some (some (.ref f2)))
    (a3 : PySem.W.nsIn K mainGlobals "_law_take" = some (some (.ref f3)))
    (a4 : PySem.W.nsIn K mainGlobals "_law_mixed" = some (some (.ref f4)))
    (a5 : PySem.W.nsIn K mainGlobals "_law_names" = some (some (.ref f5)))
    (a6 : PySem.W.nsIn K mainGlobals "_law_height" = some (some (.ref f6)))
    (a7 : PySem.W.nsIn K mainGlobals "_law_model" = some (some (.ref f7)))
    (a8 : PySem.W.nsIn K mainGlobals "is_whole" = some (some (.ref f8)))
    (a9 : PySem.W.nsIn K mainGlobals "is_height" = some (some (.ref f9)))
    (a10 : PySem.W.nsIn K mainGlobals "check_height" = some (some (.ref f10)))
    (a12 : PySem.W.nsIn K mainGlobals "is_name" = some (some (.ref f12)))
    (a13 : PySem.W.nsIn K mainGlobals "check_places" = some (some (.ref f13)))
    (a14 : PySem.W.nsIn K mainGlobals "is_place" = some (some (.ref f14)))
    (a15 : PySem.W.nsIn K mainGlobals "is_pair" = some (some (.ref f15)))
    (a16 : PySem.W.nsIn K mainGlobals "check_ties" = some (some (.ref f16)))
    (a17 : PySem.W.nsIn K mainGlobals "check_listed" = some (some (.ref f17)))
    (a18 : PySem.W.nsIn K mainGlobals "tied_places" = some (some (.ref f18)))
    (a20 : PySem.W.nsIn K mainGlobals "_law_chart" = some (some (.ref f20)))
    (a21 : PySem.W.nsIn K mainGlobals "_law_heights" = some (some (.ref f21)))
    (a22 : PySem.W.nsIn K mainGlobals "check_chart" = some (some (.ref f22)))
    (a23 : PySem.W.findIn K (.ref CH) "__contains__" = some (some (.ref f23)))
    (a24 : PySem.W.nsIn K mainGlobals "check_place" = some (some (.ref f24)))
    (a25 : PySem.W.nsIn K mainGlobals "check_passes" = some (some (.ref f25)))
    (a26 : PySem.W.findIn K (.ref CH) "neighbours" = some (some (.ref f26)))
    (a27 : PySem.W.nsIn K mainGlobals "flood" = some (some (.ref f27)))
    (a28 : PySem.W.nsIn K mainGlobals "levels_from" = some (some (.ref f28)))
    (a29 : PySem.W.nsIn K mainGlobals "least_pass" = some (some (.ref f29)))
    (a30 : PySem.W.findIn K (.ref CH) "names" = some (some (.ref f30)))
    (a31 : PySem.W.findIn K (.ref CH) "__getitem__" = some (some (.ref f31)))
    (a32 : PySem.W.nsIn K mainGlobals "low_heights" = some (some (.ref f32)))
    (a33 : PySem.W.nsIn K mainGlobals "low_pass" = some (some (.ref f33)))
    (a34 : PySem.W.nsIn K mainGlobals "check_bounds" = some (some (.ref f34)))
    (a35 : PySem.W.findIn K (.ref CH) "ties" = some (some (.ref f35)))
    (a36 : PySem.W.findIn K (.ref CH) "outlets" = some (some (.ref f36)))
    (a37 : PySem.W.findIn K (.ref CH) "with_bounds" = some (some (.ref f37)))
    (a38 : PySem.W.nsIn K mainGlobals "_law_later" = some (some (.ref f38)))
    (a39 : PySem.W.nsIn K mainGlobals "high_heights" = some (some (.ref f39)))
    (a40 : PySem.W.nsIn K mainGlobals "high_pass" = some (some (.ref f40)))
    (a41 : PySem.W.nsIn K mainGlobals "check_land" = some (some (.ref f41)))
    (a42 : PySem.W.findIn K (.ref CL) "heights" = some (some (.ref f42)))
    (a43 : PySem.W.nsIn K mainGlobals "pass_level" = some (some (.ref f43)))
    (a44 : PySem.W.findIn K (.ref CB) "__contains__" = some (some (.ref f44)))
    (a45 : PySem.W.findIn K (.ref CH) "__len__" = some (some (.ref f45)))
    (a46 : PySem.W.nsIn K mainGlobals "are_heights_for" = some (some (.ref f46)))
    (a48 : PySem.W.nsIn K mainGlobals "nearest_height" = some (some (.ref f48)))
    (cf49 : PySem.W.findCls K (.ref CL) (.type "type") "clipped" = some (.get (.builtin "classmethod.__get__") (.ref pL49) .none (.ref CL)))
    (cr49 : PySem.W.recIn K pL49 "classmethod" = some (.ref f49 :: re49))
    (a50 : PySem.W.nsIn K mainGlobals "_law_between_right" = some (some (.ref f50)))
    (cf51 : PySem.W.findCls K (.ref CB) (.type "type") "exact" = some (.get (.builtin "classmethod.__get__") (.ref pB51) .none (.ref CB)))
    (cr51 : PySem.W.recIn K pB51 "classmethod" = some (.ref f51 :: re51))
    (a52 : PySem.W.findIn K (.ref CL) "pinned" = some (some (.ref f52)))
    (a53 : PySem.W.nsIn K mainGlobals "_law_pinned_right" = some (some (.ref f53)))
    (a54 : PySem.W.nsIn K mainGlobals "check_rim" = some (some (.ref f54)))
    (a55 : PySem.W.nsIn K mainGlobals "part_around" = some (some (.ref f55)))
    (a56 : PySem.W.nsIn K mainGlobals "rim" = some (some (.ref f56)))
    (a57 : PySem.W.nsIn K mainGlobals "_law_rims_right" = some (some (.ref f57)))
    (a58 : PySem.W.nsIn K mainGlobals "law" = some (some (.ref f58)))
    (cl1B : PySem.W.plainGet K CB Str.empty = true)
    (cl2B : PySem.W.hasDictIn K CB = true)
    (cl3B : PySem.W.plainOver K CB = true)
    (cl4B : PySem.W.findIn K (.ref CB) "__setattr__" = some (some (.builtin "object.__setattr__")))
    (caB : PySem.W.findIn K (.ref CB) "__class__" = some (some (.builtin "object.__class__")))
    (cnB : PySem.W.specialIn K (.builtin "object.__class__") "__get__" = some (some (.builtin "getset_descriptor.__get__")))
    (ctB : PySem.W.takesIn K (.builtin "object.__class__") = some true)
    (cmB : PySem.W.mroIn K CB (.type "object") = some true)
    (kbB : PySem.W.kitOne K (.ref CB) (.ref CB) = some true)
    (cl1H : PySem.W.plainGet K CH Str.empty = true)
    (cl2H : PySem.W.hasDictIn K CH = true)
    (cl3H : PySem.W.plainOver K CH = true)
    (cl4H : PySem.W.findIn K (.ref CH) "__setattr__" = some (some (.builtin "object.__setattr__")))
    (caH : PySem.W.findIn K (.ref CH) "__class__" = some (some (.builtin "object.__class__")))
    (cnH : PySem.W.specialIn K (.builtin "object.__class__") "__get__" = some (some (.builtin "getset_descriptor.__get__")))
    (ctH : PySem.W.takesIn K (.builtin "object.__class__") = some true)
    (cmH : PySem.W.mroIn K CH (.type "object") = some true)
    (kbH : PySem.W.kitOne K (.ref CH) (.ref CH) = some true)
    (cl1L : PySem.W.plainGet K CL Str.empty = true)
    (cl2L : PySem.W.hasDictIn K CL = true)
    (cl3L : PySem.W.plainOver K CL = true)
    (cl4L : PySem.W.findIn K (.ref CL) "__setattr__" = some (some (.builtin "object.__setattr__")))
    (caL : PySem.W.findIn K (.ref CL) "__class__" = some (some (.builtin "object.__class__")))
    (cnL : PySem.W.specialIn K (.builtin "object.__class__") "__get__" = some (some (.builtin "getset_descriptor.__get__")))
    (ctL : PySem.W.takesIn K (.builtin "object.__class__") = some true)
    (cmL : PySem.W.mroIn K CL (.type "object") = some true)
    (kbL : PySem.W.kitOne K (.ref CL) (.ref CL) = some true)
    (l1 : K.lookup f1 = some ⟨oc1, od1, .func (PySem.W.fnOf "_law_cell" "_law_cell" (defArgs s__law_cell) (defBody s__law_cell) (defScope s__law_cell) .none kV1 dc1 pm1 an1 cd1 ct1), sl1⟩)
    (c1 : PySem.W.codeIn K cd1 "_law_cell" = true)
    (k1 : PySem.W.keepIn K (.ref f1) = true)
    (l2 : K.lookup f2 = some ⟨oc2, od2, .func (PySem.W.fnOf "_law_box" "_law_box" (defArgs s__law_box) (defBody s__law_box) (defScope s__law_box) .none kV2 dc2 pm2 an2 cd2 ct2), sl2⟩)
    (c2 : PySem.W.codeIn K cd2 "_law_box" = true)
    (k2 : PySem.W.keepIn K (.ref f2) = true)
    (l3 : K.lookup f3 = some ⟨oc3, od3, .func (PySem.W.fnOf "_law_take" "_law_take" (defArgs s__law_take) (defBody s__law_take) (defScope s__law_take) .none kV3 dc3 pm3 an3 cd3 ct3), sl3⟩)
    (c3 : PySem.W.codeIn K cd3 "_law_take" = true)
    (k3 : PySem.W.keepIn K (.ref f3) = true)
    (l4 : K.lookup f4 = some ⟨oc4, od4, .func (PySem.W.fnOf "_law_mixed" "_law_mixed" (defArgs s__law_mixed) (defBody s__law_mixed) (defScope s__law_mixed) .none kV4 dc4 pm4 an4 cd4 ct4), sl4⟩)
    (c4 : PySem.W.codeIn K cd4 "_law_mixed" = true)
    (k4 : PySem.W.keepIn K (.ref f4) = true)
    (l5 : K.lookup f5 = some ⟨oc5, od5, .func (PySem.W.fnOf "_law_names" "_law_names" (defArgs s__law_names) (defBody s__law_names) (defScope s__law_names) .none kV5 dc5 pm5 an5 cd5 ct5), sl5⟩)
    (c5 : PySem.W.codeIn K cd5 "_law_names" = true)
    (k5 : PySem.W.keepIn K (.ref f5) = true)
    (l6 : K.lookup f6 = some ⟨oc6, od6, .func (PySem.W.fnOf "_law_height" "_law_height" (defArgs s__law_height) (defBody s__law_height) (defScope s__law_height) .none kV6 dc6 pm6 an6 cd6 ct6), sl6⟩)
    (c6 : PySem.W.codeIn K cd6 "_law_height" = true)
    (k6 : PySem.W.keepIn K (.ref f6) = true)
    (l7 : K.lookup f7 = some ⟨oc7, od7, .func (PySem.W.fnOf "_law_model" "_law_model" (defArgs s__law_model) (defBody s__law_model) (defScope s__law_model) .none kV7 dc7 pm7 an7 cd7 ct7), sl7⟩)
    (c7 : PySem.W.codeIn K cd7 "_law_model" = true)
    (k7 : PySem.W.keepIn K (.ref f7) = true)
    (l8 : K.lookup f8 = some ⟨oc8, od8, .func (PySem.W.fnOf "is_whole" "is_whole" (defArgs s_is_whole) (defBody s_is_whole) (defScope s_is_whole) .none kV8 dc8 pm8 an8 cd8 ct8), sl8⟩)
    (c8 : PySem.W.codeIn K cd8 "is_whole" = true)
    (k8 : PySem.W.keepIn K (.ref f8) = true)
    (l9 : K.lookup f9 = some ⟨oc9, od9, .func (PySem.W.fnOf "is_height" "is_height" (defArgs s_is_height) (defBody s_is_height) (defScope s_is_height) .none kV9 dc9 pm9 an9 cd9 ct9), sl9⟩)
    (c9 : PySem.W.codeIn K cd9 "is_height" = true)
    (k9 : PySem.W.keepIn K (.ref f9) = true)
    (l10 : K.lookup f10 = some ⟨oc10, od10, .func (PySem.W.fnOf "check_height" "check_height" (defArgs s_check_height) (defBody s_check_height) (defScope s_check_height) .none kV10 dc10 pm10 an10 cd10 ct10), sl10⟩)
    (c10 : PySem.W.codeIn K cd10 "check_height" = true)
    (k10 : PySem.W.keepIn K (.ref f10) = true)
    (l11 : K.lookup f11 = some ⟨oc11, od11, .func (PySem.W.fnOf "__init__" "Bounds.__init__" (defArgs s_Bounds___init__) (defBody s_Bounds___init__) (defScope s_Bounds___init__) .none kV11 dc11 pm11 an11 cd11 ct11), sl11⟩)
    (c11 : PySem.W.codeIn K cd11 "Bounds.__init__" = true)
    (k11 : PySem.W.keepIn K (.ref f11) = true)
    (l12 : K.lookup f12 = some ⟨oc12, od12, .func (PySem.W.fnOf "is_name" "is_name" (defArgs s_is_name) (defBody s_is_name) (defScope s_is_name) .none kV12 dc12 pm12 an12 cd12 ct12), sl12⟩)
    (c12 : PySem.W.codeIn K cd12 "is_name" = true)
    (k12 : PySem.W.keepIn K (.ref f12) = true)
    (l13 : K.lookup f13 = some ⟨oc13, od13, .func (PySem.W.fnOf "check_places" "check_places" (defArgs s_check_places) (defBody s_check_places) (defScope s_check_places) .none kV13 dc13 pm13 an13 cd13 ct13), sl13⟩)
    (c13 : PySem.W.codeIn K cd13 "check_places" = true)
    (k13 : PySem.W.keepIn K (.ref f13) = true)
    (l14 : K.lookup f14 = some ⟨oc14, od14, .func (PySem.W.fnOf "is_place" "is_place" (defArgs s_is_place) (defBody s_is_place) (defScope s_is_place) .none kV14 dc14 pm14 an14 cd14 ct14), sl14⟩)
    (c14 : PySem.W.codeIn K cd14 "is_place" = true)
    (k14 : PySem.W.keepIn K (.ref f14) = true)
    (l15 : K.lookup f15 = some ⟨oc15, od15, .func (PySem.W.fnOf "is_pair" "is_pair" (defArgs s_is_pair) (defBody s_is_pair) (defScope s_is_pair) .none kV15 dc15 pm15 an15 cd15 ct15), sl15⟩)
    (c15 : PySem.W.codeIn K cd15 "is_pair" = true)
    (k15 : PySem.W.keepIn K (.ref f15) = true)
    (l16 : K.lookup f16 = some ⟨oc16, od16, .func (PySem.W.fnOf "check_ties" "check_ties" (defArgs s_check_ties) (defBody s_check_ties) (defScope s_check_ties) .none kV16 dc16 pm16 an16 cd16 ct16), sl16⟩)
    (c16 : PySem.W.codeIn K cd16 "check_ties" = true)
    (k16 : PySem.W.keepIn K (.ref f16) = true)
    (l17 : K.lookup f17 = some ⟨oc17, od17, .func (PySem.W.fnOf "check_listed" "check_listed" (defArgs s_check_listed) (defBody s_check_listed) (defScope s_check_listed) .none kV17 dc17 pm17 an17 cd17 ct17), sl17⟩)
    (c17 : PySem.W.codeIn K cd17 "check_listed" = true)
    (k17 : PySem.W.keepIn K (.ref f17) = true)
    (l18 : K.lookup f18 = some ⟨oc18, od18, .func (PySem.W.fnOf "tied_places" "tied_places" (defArgs s_tied_places) (defBody s_tied_places) (defScope s_tied_places) .none kV18 dc18 pm18 an18 cd18 ct18), sl18⟩)
    (c18 : PySem.W.codeIn K cd18 "tied_places" = true)
    (k18 : PySem.W.keepIn K (.ref f18) = true)
    (l19 : K.lookup f19 = some ⟨oc19, od19, .func (PySem.W.fnOf "__init__" "Chart.__init__" (defArgs s_Chart___init__) (defBody s_Chart___init__) (defScope s_Chart___init__) (.ref Td19) kV19 dc19 pm19 an19 cd19 ct19), sl19⟩)
    (lT19 : K.lookup Td19 = some ⟨ocT19, odT19, .seq #[.ref pD19] nT19, slT19⟩)
    (c19 : PySem.W.codeIn K cd19 "Chart.__init__" = true)
    (k19 : PySem.W.keepIn K (.ref f19) = true)
    (l20 : K.lookup f20 = some ⟨oc20, od20, .func (PySem.W.fnOf "_law_chart" "_law_chart" (defArgs s__law_chart) (defBody s__law_chart) (defScope s__law_chart) .none kV20 dc20 pm20 an20 cd20 ct20), sl20⟩)
    (c20 : PySem.W.codeIn K cd20 "_law_chart" = true)
    (k20 : PySem.W.keepIn K (.ref f20) = true)
    (l21 : K.lookup f21 = some ⟨oc21, od21, .func (PySem.W.fnOf "_law_heights" "_law_heights" (defArgs s__law_heights) (defBody s__law_heights) (defScope s__law_heights) .none kV21 dc21 pm21 an21 cd21 ct21), sl21⟩)
    (c21 : PySem.W.codeIn K cd21 "_law_heights" = true)
    (k21 : PySem.W.keepIn K (.ref f21) = true)
    (l22 : K.lookup f22 = some ⟨oc22, od22, .func (PySem.W.fnOf "check_chart" "check_chart" (defArgs s_check_chart) (defBody s_check_chart) (defScope s_check_chart) .none kV22 dc22 pm22 an22 cd22 ct22), sl22⟩)
    (c22 : PySem.W.codeIn K cd22 "check_chart" = true)
    (k22 : PySem.W.keepIn K (.ref f22) = true)
    (l23 : K.lookup f23 = some ⟨oc23, od23, .func (PySem.W.fnOf "__contains__" "Chart.__contains__" (defArgs s_Chart___contains__) (defBody s_Chart___contains__) (defScope s_Chart___contains__) .none kV23 dc23 pm23 an23 cd23 ct23), sl23⟩)
    (c23 : PySem.W.codeIn K cd23 "Chart.__contains__" = true)
    (k23 : PySem.W.keepIn K (.ref f23) = true)
    (l24 : K.lookup f24 = some ⟨oc24, od24, .func (PySem.W.fnOf "check_place" "check_place" (defArgs s_check_place) (defBody s_check_place) (defScope s_check_place) .none kV24 dc24 pm24 an24 cd24 ct24), sl24⟩)
    (c24 : PySem.W.codeIn K cd24 "check_place" = true)
    (k24 : PySem.W.keepIn K (.ref f24) = true)
    (l25 : K.lookup f25 = some ⟨oc25, od25, .func (PySem.W.fnOf "check_passes" "check_passes" (defArgs s_check_passes) (defBody s_check_passes) (defScope s_check_passes) .none kV25 dc25 pm25 an25 cd25 ct25), sl25⟩)
    (c25 : PySem.W.codeIn K cd25 "check_passes" = true)
    (k25 : PySem.W.keepIn K (.ref f25) = true)
    (l26 : K.lookup f26 = some ⟨oc26, od26, .func (PySem.W.fnOf "neighbours" "Chart.neighbours" (defArgs s_Chart_neighbours) (defBody s_Chart_neighbours) (defScope s_Chart_neighbours) .none kV26 dc26 pm26 an26 cd26 ct26), sl26⟩)
    (c26 : PySem.W.codeIn K cd26 "Chart.neighbours" = true)
    (k26 : PySem.W.keepIn K (.ref f26) = true)
    (l27 : K.lookup f27 = some ⟨oc27, od27, .func (PySem.W.fnOf "flood" "flood" (defArgs s_flood) (defBody s_flood) (defScope s_flood) (.ref Td27) kV27 dc27 pm27 an27 cd27 ct27), sl27⟩)
    (lT27 : K.lookup Td27 = some ⟨ocT27, odT27, .seq #[.ref pD27] nT27, slT27⟩)
    (c27 : PySem.W.codeIn K cd27 "flood" = true)
    (k27 : PySem.W.keepIn K (.ref f27) = true)
    (l28 : K.lookup f28 = some ⟨oc28, od28, .func (PySem.W.fnOf "levels_from" "levels_from" (defArgs s_levels_from) (defBody s_levels_from) (defScope s_levels_from) (.ref Td28) kV28 dc28 pm28 an28 cd28 ct28), sl28⟩)
    (lT28 : K.lookup Td28 = some ⟨ocT28, odT28, .seq #[.ref pD28] nT28, slT28⟩)
    (c28 : PySem.W.codeIn K cd28 "levels_from" = true)
    (k28 : PySem.W.keepIn K (.ref f28) = true)
    (l29 : K.lookup f29 = some ⟨oc29, od29, .func (PySem.W.fnOf "least_pass" "least_pass" (defArgs s_least_pass) (defBody s_least_pass) (defScope s_least_pass) .none kV29 dc29 pm29 an29 cd29 ct29), sl29⟩)
    (c29 : PySem.W.codeIn K cd29 "least_pass" = true)
    (k29 : PySem.W.keepIn K (.ref f29) = true)
    (l30 : K.lookup f30 = some ⟨oc30, od30, .func (PySem.W.fnOf "names" "Chart.names" (defArgs s_Chart_names) (defBody s_Chart_names) (defScope s_Chart_names) .none kV30 dc30 pm30 an30 cd30 ct30), sl30⟩)
    (c30 : PySem.W.codeIn K cd30 "Chart.names" = true)
    (k30 : PySem.W.keepIn K (.ref f30) = true)
    (l31 : K.lookup f31 = some ⟨oc31, od31, .func (PySem.W.fnOf "__getitem__" "Chart.__getitem__" (defArgs s_Chart___getitem__) (defBody s_Chart___getitem__) (defScope s_Chart___getitem__) .none kV31 dc31 pm31 an31 cd31 ct31), sl31⟩)
    (c31 : PySem.W.codeIn K cd31 "Chart.__getitem__" = true)
    (k31 : PySem.W.keepIn K (.ref f31) = true)
    (l32 : K.lookup f32 = some ⟨oc32, od32, .func (PySem.W.fnOf "low_heights" "low_heights" (defArgs s_low_heights) (defBody s_low_heights) (defScope s_low_heights) .none kV32 dc32 pm32 an32 cd32 ct32), sl32⟩)
    (c32 : PySem.W.codeIn K cd32 "low_heights" = true)
    (k32 : PySem.W.keepIn K (.ref f32) = true)
    (l33 : K.lookup f33 = some ⟨oc33, od33, .func (PySem.W.fnOf "low_pass" "low_pass" (defArgs s_low_pass) (defBody s_low_pass) (defScope s_low_pass) .none kV33 dc33 pm33 an33 cd33 ct33), sl33⟩)
    (c33 : PySem.W.codeIn K cd33 "low_pass" = true)
    (k33 : PySem.W.keepIn K (.ref f33) = true)
    (l34 : K.lookup f34 = some ⟨oc34, od34, .func (PySem.W.fnOf "check_bounds" "check_bounds" (defArgs s_check_bounds) (defBody s_check_bounds) (defScope s_check_bounds) .none kV34 dc34 pm34 an34 cd34 ct34), sl34⟩)
    (c34 : PySem.W.codeIn K cd34 "check_bounds" = true)
    (k34 : PySem.W.keepIn K (.ref f34) = true)
    (l35 : K.lookup f35 = some ⟨oc35, od35, .func (PySem.W.fnOf "ties" "Chart.ties" (defArgs s_Chart_ties) (defBody s_Chart_ties) (defScope s_Chart_ties) .none kV35 dc35 pm35 an35 cd35 ct35), sl35⟩)
    (c35 : PySem.W.codeIn K cd35 "Chart.ties" = true)
    (k35 : PySem.W.keepIn K (.ref f35) = true)
    (l36 : K.lookup f36 = some ⟨oc36, od36, .func (PySem.W.fnOf "outlets" "Chart.outlets" (defArgs s_Chart_outlets) (defBody s_Chart_outlets) (defScope s_Chart_outlets) .none kV36 dc36 pm36 an36 cd36 ct36), sl36⟩)
    (c36 : PySem.W.codeIn K cd36 "Chart.outlets" = true)
    (k36 : PySem.W.keepIn K (.ref f36) = true)
    (l37 : K.lookup f37 = some ⟨oc37, od37, .func (PySem.W.fnOf "with_bounds" "Chart.with_bounds" (defArgs s_Chart_with_bounds) (defBody s_Chart_with_bounds) (defScope s_Chart_with_bounds) .none kV37 dc37 pm37 an37 cd37 ct37), sl37⟩)
    (c37 : PySem.W.codeIn K cd37 "Chart.with_bounds" = true)
    (k37 : PySem.W.keepIn K (.ref f37) = true)
    (l38 : K.lookup f38 = some ⟨oc38, od38, .func (PySem.W.fnOf "_law_later" "_law_later" (defArgs s__law_later) (defBody s__law_later) (defScope s__law_later) .none kV38 dc38 pm38 an38 cd38 ct38), sl38⟩)
    (c38 : PySem.W.codeIn K cd38 "_law_later" = true)
    (k38 : PySem.W.keepIn K (.ref f38) = true)
    (l39 : K.lookup f39 = some ⟨oc39, od39, .func (PySem.W.fnOf "high_heights" "high_heights" (defArgs s_high_heights) (defBody s_high_heights) (defScope s_high_heights) .none kV39 dc39 pm39 an39 cd39 ct39), sl39⟩)
    (c39 : PySem.W.codeIn K cd39 "high_heights" = true)
    (k39 : PySem.W.keepIn K (.ref f39) = true)
    (l40 : K.lookup f40 = some ⟨oc40, od40, .func (PySem.W.fnOf "high_pass" "high_pass" (defArgs s_high_pass) (defBody s_high_pass) (defScope s_high_pass) .none kV40 dc40 pm40 an40 cd40 ct40), sl40⟩)
    (c40 : PySem.W.codeIn K cd40 "high_pass" = true)
    (k40 : PySem.W.keepIn K (.ref f40) = true)
    (l41 : K.lookup f41 = some ⟨oc41, od41, .func (PySem.W.fnOf "check_land" "check_land" (defArgs s_check_land) (defBody s_check_land) (defScope s_check_land) .none kV41 dc41 pm41 an41 cd41 ct41), sl41⟩)
    (c41 : PySem.W.codeIn K cd41 "check_land" = true)
    (k41 : PySem.W.keepIn K (.ref f41) = true)
    (l42 : K.lookup f42 = some ⟨oc42, od42, .func (PySem.W.fnOf "heights" "Land.heights" (defArgs s_Land_heights) (defBody s_Land_heights) (defScope s_Land_heights) .none kV42 dc42 pm42 an42 cd42 ct42), sl42⟩)
    (c42 : PySem.W.codeIn K cd42 "Land.heights" = true)
    (k42 : PySem.W.keepIn K (.ref f42) = true)
    (l43 : K.lookup f43 = some ⟨oc43, od43, .func (PySem.W.fnOf "pass_level" "pass_level" (defArgs s_pass_level) (defBody s_pass_level) (defScope s_pass_level) .none kV43 dc43 pm43 an43 cd43 ct43), sl43⟩)
    (c43 : PySem.W.codeIn K cd43 "pass_level" = true)
    (k43 : PySem.W.keepIn K (.ref f43) = true)
    (l44 : K.lookup f44 = some ⟨oc44, od44, .func (PySem.W.fnOf "__contains__" "Bounds.__contains__" (defArgs s_Bounds___contains__) (defBody s_Bounds___contains__) (defScope s_Bounds___contains__) .none kV44 dc44 pm44 an44 cd44 ct44), sl44⟩)
    (c44 : PySem.W.codeIn K cd44 "Bounds.__contains__" = true)
    (k44 : PySem.W.keepIn K (.ref f44) = true)
    (l45 : K.lookup f45 = some ⟨oc45, od45, .func (PySem.W.fnOf "__len__" "Chart.__len__" (defArgs s_Chart___len__) (defBody s_Chart___len__) (defScope s_Chart___len__) .none kV45 dc45 pm45 an45 cd45 ct45), sl45⟩)
    (c45 : PySem.W.codeIn K cd45 "Chart.__len__" = true)
    (k45 : PySem.W.keepIn K (.ref f45) = true)
    (l46 : K.lookup f46 = some ⟨oc46, od46, .func (PySem.W.fnOf "are_heights_for" "are_heights_for" (defArgs s_are_heights_for) (defBody s_are_heights_for) (defScope s_are_heights_for) .none kV46 dc46 pm46 an46 cd46 ct46), sl46⟩)
    (c46 : PySem.W.codeIn K cd46 "are_heights_for" = true)
    (k46 : PySem.W.keepIn K (.ref f46) = true)
    (l47 : K.lookup f47 = some ⟨oc47, od47, .func (PySem.W.fnOf "__init__" "Land.__init__" (defArgs s_Land___init__) (defBody s_Land___init__) (defScope s_Land___init__) .none kV47 dc47 pm47 an47 cd47 ct47), sl47⟩)
    (c47 : PySem.W.codeIn K cd47 "Land.__init__" = true)
    (k47 : PySem.W.keepIn K (.ref f47) = true)
    (l48 : K.lookup f48 = some ⟨oc48, od48, .func (PySem.W.fnOf "nearest_height" "nearest_height" (defArgs s_nearest_height) (defBody s_nearest_height) (defScope s_nearest_height) .none kV48 dc48 pm48 an48 cd48 ct48), sl48⟩)
    (c48 : PySem.W.codeIn K cd48 "nearest_height" = true)
    (k48 : PySem.W.keepIn K (.ref f48) = true)
    (l49 : K.lookup f49 = some ⟨oc49, od49, .func (PySem.W.fnOf "clipped" "Land.clipped" (defArgs s_Land_clipped) (defBody s_Land_clipped) (defScope s_Land_clipped) .none kV49 dc49 pm49 an49 cd49 ct49), sl49⟩)
    (c49 : PySem.W.codeIn K cd49 "Land.clipped" = true)
    (k49 : PySem.W.keepIn K (.ref f49) = true)
    (l50 : K.lookup f50 = some ⟨oc50, od50, .func (PySem.W.fnOf "_law_between_right" "_law_between_right" (defArgs s__law_between_right) (defBody s__law_between_right) (defScope s__law_between_right) .none kV50 dc50 pm50 an50 cd50 ct50), sl50⟩)
    (c50 : PySem.W.codeIn K cd50 "_law_between_right" = true)
    (k50 : PySem.W.keepIn K (.ref f50) = true)
    (l51 : K.lookup f51 = some ⟨oc51, od51, .func (PySem.W.fnOf "exact" "Bounds.exact" (defArgs s_Bounds_exact) (defBody s_Bounds_exact) (defScope s_Bounds_exact) .none kV51 dc51 pm51 an51 cd51 ct51), sl51⟩)
    (c51 : PySem.W.codeIn K cd51 "Bounds.exact" = true)
    (k51 : PySem.W.keepIn K (.ref f51) = true)
    (l52 : K.lookup f52 = some ⟨oc52, od52, .func (PySem.W.fnOf "pinned" "Land.pinned" (defArgs s_Land_pinned) (defBody s_Land_pinned) (defScope s_Land_pinned) .none kV52 dc52 pm52 an52 cd52 ct52), sl52⟩)
    (c52 : PySem.W.codeIn K cd52 "Land.pinned" = true)
    (k52 : PySem.W.keepIn K (.ref f52) = true)
    (l53 : K.lookup f53 = some ⟨oc53, od53, .func (PySem.W.fnOf "_law_pinned_right" "_law_pinned_right" (defArgs s__law_pinned_right) (defBody s__law_pinned_right) (defScope s__law_pinned_right) .none kV53 dc53 pm53 an53 cd53 ct53), sl53⟩)
    (c53 : PySem.W.codeIn K cd53 "_law_pinned_right" = true)
    (k53 : PySem.W.keepIn K (.ref f53) = true)
    (l54 : K.lookup f54 = some ⟨oc54, od54, .func (PySem.W.fnOf "check_rim" "check_rim" (defArgs s_check_rim) (defBody s_check_rim) (defScope s_check_rim) .none kV54 dc54 pm54 an54 cd54 ct54), sl54⟩)
    (c54 : PySem.W.codeIn K cd54 "check_rim" = true)
    (k54 : PySem.W.keepIn K (.ref f54) = true)
    (l55 : K.lookup f55 = some ⟨oc55, od55, .func (PySem.W.fnOf "part_around" "part_around" (defArgs s_part_around) (defBody s_part_around) (defScope s_part_around) .none kV55 dc55 pm55 an55 cd55 ct55), sl55⟩)
    (c55 : PySem.W.codeIn K cd55 "part_around" = true)
    (k55 : PySem.W.keepIn K (.ref f55) = true)
    (l56 : K.lookup f56 = some ⟨oc56, od56, .func (PySem.W.fnOf "rim" "rim" (defArgs s_rim) (defBody s_rim) (defScope s_rim) .none kV56 dc56 pm56 an56 cd56 ct56), sl56⟩)
    (c56 : PySem.W.codeIn K cd56 "rim" = true)
    (k56 : PySem.W.keepIn K (.ref f56) = true)
    (l57 : K.lookup f57 = some ⟨oc57, od57, .func (PySem.W.fnOf "_law_rims_right" "_law_rims_right" (defArgs s__law_rims_right) (defBody s__law_rims_right) (defScope s__law_rims_right) .none kV57 dc57 pm57 an57 cd57 ct57), sl57⟩)
    (c57 : PySem.W.codeIn K cd57 "_law_rims_right" = true)
    (k57 : PySem.W.keepIn K (.ref f57) = true)
    (l58 : K.lookup f58 = some ⟨oc58, od58, .func (PySem.W.fnOf "law" "law" (defArgs s_law) (defBody s_law) (defScope s_law) .none kV58 dc58 pm58 an58 cd58 ct58), sl58⟩)
    (c58 : PySem.W.codeIn K cd58 "law" = true)
    (k58 : PySem.W.keepIn K (.ref f58) = true)
    (mk1B : PySem.W.makesIn K CB = true)
    (mk3B : PySem.W.isFn K (.ref f11) = true)
    (mk4B : PySem.W.keepIn K (.ref CB) = true)
    (mk1H : PySem.W.makesIn K CH = true)
    (mk3H : PySem.W.isFn K (.ref f19) = true)
    (mk4H : PySem.W.keepIn K (.ref CH) = true)
    (mk1L : PySem.W.makesIn K CL = true)
    (mk3L : PySem.W.isFn K (.ref f47) = true)
    (mk4L : PySem.W.keepIn K (.ref CL) = true)
    (no_B_low : PySem.W.findIn K (.ref CB) "low" = some none)
    (no_B_high : PySem.W.findIn K (.ref CB) "high" = some none)
    (no_H_bounds_by_name : PySem.W.findIn K (.ref CH) "bounds_by_name" = some none)
    (no_H_tied_by_name : PySem.W.findIn K (.ref CH) "tied_by_name" = some none)
    (no_H_outlet_names : PySem.W.findIn K (.ref CH) "outlet_names" = some none)
    (no_L_chart : PySem.W.findIn K (.ref CL) "chart" = some none)
    (no_L_height_by_name : PySem.W.findIn K (.ref CL) "height_by_name" = some none)
    (z_len : PySem.W.nsIn K mainGlobals "len" = some none)
    (z_int : PySem.W.nsIn K mainGlobals "int" = some none)
    (z_max : PySem.W.nsIn K mainGlobals "max" = some none)
    (z_min : PySem.W.nsIn K mainGlobals "min" = some none)
    (z_range : PySem.W.nsIn K mainGlobals "range" = some none)
    (z_all : PySem.W.nsIn K mainGlobals "all" = some none)
    (z_any : PySem.W.nsIn K mainGlobals "any" = some none)
    (z_isinstance : PySem.W.nsIn K mainGlobals "isinstance" = some none)
    (z_list : PySem.W.nsIn K mainGlobals "list" = some none)
    (z_sorted : PySem.W.nsIn K mainGlobals "sorted" = some none)
    (z_bool : PySem.W.nsIn K mainGlobals "bool" = some none)
    (z_str : PySem.W.nsIn K mainGlobals "str" = some none)
    (z_tuple : PySem.W.nsIn K mainGlobals "tuple" = some none)
    (z_dict : PySem.W.nsIn K mainGlobals "dict" = some none)
    (z_set : PySem.W.nsIn K mainGlobals "set" = some none)
    (z_repr : PySem.W.nsIn K mainGlobals "repr" = some none)
    (z_enumerate : PySem.W.nsIn K mainGlobals "enumerate" = some none)
    (cst0 : PySem.W.nsIn K mainGlobals "MOST_HEIGHT" = some (some (.int MH tk0)))
    (cst1 : PySem.W.nsIn K mainGlobals "MOST_LETTERS" = some (some (.int 8 tk1)))
    (cst2 : PySem.W.nsIn K mainGlobals "LETTERS" = some (some (.str lets tk2)))
    (cst3 : PySem.W.nsIn K mainGlobals "MOST_PLACES" = some (some (.int 60 tk3)))
    (nfC : PySem.W.notFirst K CH (.ref CH) = true)
    (neC : PySem.W.findIn K (.ref CH) "__ne__" = some (some (.builtin "object.__ne__")))
    (nfL : PySem.W.notFirst K CL (.ref CL) = true)
    (neL : PySem.W.findIn K (.ref CL) "__ne__" = some (some (.builtin "object.__ne__")))
    (d23 : PySem.W.isFn K (.ref f23) = true)
    (e23 : PySem.W.fnIn K f23 = true)
    (d26 : PySem.W.isFn K (.ref f26) = true)
    (lG : K.lookup pD28 = some ⟨.type "tuple", odG, .seq #[] nG, slG⟩)
    (d30 : PySem.W.isFn K (.ref f30) = true)
    (d31 : PySem.W.isFn K (.ref f31) = true)
    (e31 : PySem.W.fnIn K f31 = true)
    (d35 : PySem.W.isFn K (.ref f35) = true)
    (d36 : PySem.W.isFn K (.ref f36) = true)
    (d37 : PySem.W.isFn K (.ref f37) = true)
    (d42 : PySem.W.isFn K (.ref f42) = true)
    (d44 : PySem.W.isFn K (.ref f44) = true)
    (e44 : PySem.W.fnIn K f44 = true)
    (d45 : PySem.W.isFn K (.ref f45) = true)
    (e45 : PySem.W.fnIn K f45 = true)
    (rdL : PySem.W.readsIn K CL (.type "type") = true)
    (rgL : PySem.W.specialIn K (.ref CL) "__getattribute__" = some (some (.builtin "type.__getattribute__")))
    (ce49 : PySem.W.fnIn K f49 = true)
    (rdB : PySem.W.readsIn K CB (.type "type") = true)
    (rgB : PySem.W.specialIn K (.ref CB) "__getattribute__" = some (some (.builtin "type.__getattribute__")))
    (ce51 : PySem.W.fnIn K f51 = true)
    (d52 : PySem.W.isFn K (.ref f52) = true)
    : ∃ fd : FuncData, (∀ (s : Shared) (v : Value), BindsTo s fd ⟨[v], []⟩ [("_law_script", v)]) ∧ ∀ base : Heap, K.In base → base.Ns mainGlobals mg → FnOk l.prog w K mg base CX0 11 fa fd ["_law_script"] (spLaw K) := by
  have e := hfa.symm.trans (PySem.W.mg_of X G a58)
  cases e
  have XB : ClsT K mg "Bounds" CB := ⟨PySem.W.mg_of X G gB, ⟨cl1B, cl2B, cl3B, cl4B⟩, caB, cnB, ctB, cmB, kbB⟩
  have XH : ClsT K mg "Chart" CH := ⟨PySem.W.mg_of X G gH, ⟨cl1H, cl2H, cl3H, cl4H⟩, caH, cnH, ctH, cmH, kbH⟩
  have XL : ClsT K mg "Land" CL := ⟨PySem.W.mg_of X G gL, ⟨cl1L, cl2L, cl3L, cl4L⟩, caL, cnL, ctL, cmL, kbL⟩
  have F1 := fun_mk (st := s__law_cell) l1 c1 k1
  have b1' := F1.binds (ps := ["_law_script", "_law_k"]) fun _ _ _ _ _ _ us hl => match us, hl with | [_, _], _ => rfl
  have F2 := fun_mk (st := s__law_box) l2 c2 k2
  have b2' := F2.binds (ps := ["_law_cell_here"]) fun _ _ _ _ _ _ us hl => match us, hl with | [_], _ => rfl
  have F3 := fun_mk (st := s__law_take) l3 c3 k3
  have b3' := F3.binds (ps := ["_law_box_here", "_law_many"]) fun _ _ _ _ _ _ us hl => match us, hl with | [_, _], _ => rfl
  have F4 := fun_mk (st := s__law_mixed) l4 c4 k4
  have b4' := F4.binds (ps := ["_law_box_here", "_law_some"]) fun _ _ _ _ _ _ us hl => match us, hl with | [_, _], _ => rfl
  have F5 := fun_mk (st := s__law_names) l5 c5 k5
  have b5' := F5.binds (ps := ["_law_box_here", "_law_many"]) fun _ _ _ _ _ _ us hl => match us, hl with | [_, _], _ => rfl
  have F6 := fun_mk (st := s__law_height) l6 c6 k6
  have b6' := F6.binds (ps := ["_law_box_here", "_law_way"]) fun _ _ _ _ _ _ us hl => match us, hl with | [_, _], _ => rfl
  have F7 := fun_mk (st := s__law_model) l7 c7 k7
  have b7' := F7.binds (ps := ["_law_box_here", "_law_most"]) fun _ _ _ _ _ _ us hl => match us, hl with | [_, _], _ => rfl
  have F8 := fun_mk (st := s_is_whole) l8 c8 k8
  have b8' := F8.binds (ps := ["value"]) fun _ _ _ _ _ _ us hl => match us, hl with | [_], _ => rfl
  have F9 := fun_mk (st := s_is_height) l9 c9 k9
  have b9' := F9.binds (ps := ["value"]) fun _ _ _ _ _ _ us hl => match us, hl with | [_], _ => rfl
  have F10 := fun_mk (st := s_check_height) l10 c10 k10
  have b10' := F10.binds (ps := ["value"]) fun _ _ _ _ _ _ us hl => match us, hl with | [_], _ => rfl
  have F11 := fun_mk (st := s_Bounds___init__) l11 c11 k11
  have b11' := F11.binds (ps := ["self", "low", "high"]) fun _ _ _ _ _ _ us hl => match us, hl with | [_, _, _], _ => rfl
  have F12 := fun_mk (st := s_is_name) l12 c12 k12
  have b12' := F12.binds (ps := ["value"]) fun _ _ _ _ _ _ us hl => match us, hl with | [_], _ => rfl
  have F13 := fun_mk (st := s_check_places) l13 c13 k13
  have b13' := F13.binds (ps := ["places"]) fun _ _ _ _ _ _ us hl => match us, hl with | [_], _ => rfl
  have F14 := fun_mk (st := s_is_place) l14 c14 k14
  have b14' := F14.binds (ps := ["value", "places"]) fun _ _ _ _ _ _ us hl => match us, hl with | [_, _], _ => rfl
  have F15 := fun_mk (st := s_is_pair) l15 c15 k15
  have b15' := F15.binds (ps := ["value", "places"]) fun _ _ _ _ _ _ us hl => match us, hl with | [_, _], _ => rfl
  have F16 := fun_mk (st := s_check_ties) l16 c16 k16
  have b16' := F16.binds (ps := ["ties", "places"]) fun _ _ _ _ _ _ us hl => match us, hl with | [_, _], _ => rfl
  have F17 := fun_mk (st := s_check_listed) l17 c17 k17
  have b17' := F17.binds (ps := ["listed", "places"]) fun _ _ _ _ _ _ us hl => match us, hl with | [_, _], _ => rfl
  have F18 := fun_mk (st := s_tied_places) l18 c18 k18
  have b18' := F18.binds (ps := ["names", "ties"]) fun _ _ _ _ _ _ us hl => match us, hl with | [_, _], _ => rfl
  have F19 : FunD K "__init__" "Chart.__init__" (defArgs s_Chart___init__) (defBody s_Chart___init__) (defScope s_Chart___init__) [V.ref pD19] [] f19 _ := ⟨⟨_, _, _, _, _, _, _, _, _, _, rfl, l19, c19, .inr ⟨by simp, _, _, [Value.ref pD19], _, rfl, lT19, rfl, .cons rfl .nil⟩, .inl rfl⟩, k19⟩
  have F20 := fun_mk (st := s__law_chart) l20 c20 k20
  have b20' := F20.binds (ps := ["_law_model_here"]) fun _ _ _ _ _ _ us hl => match us, hl with | [_], _ => rfl
  have F21 := fun_mk (st := s__law_heights) l21 c21 k21
  have b21' := F21.binds (ps := ["_law_box_here", "_law_model_here"]) fun _ _ _ _ _ _ us hl => match us, hl with | [_, _], _ => rfl
  have F22 := fun_mk (st := s_check_chart) l22 c22 k22
  have b22' := F22.binds (ps := ["chart"]) fun _ _ _ _ _ _ us hl => match us, hl with | [_], _ => rfl
  have F23 := fun_mk (st := s_Chart___contains__) l23 c23 k23
  have b23' := F23.binds (ps := ["self", "value"]) fun _ _ _ _ _ _ us hl => match us, hl with | [_, _], _ => rfl
  have F24 := fun_mk (st := s_check_place) l24 c24 k24
  have b24' := F24.binds (ps := ["chart", "name"]) fun _ _ _ _ _ _ us hl => match us, hl with | [_, _], _ => rfl
  have F25 := fun_mk (st := s_check_passes) l25 c25 k25
  have b25' := F25.binds (ps := ["chart", "one", "other"]) fun _ _ _ _ _ _ us hl => match us, hl with | [_, _, _], _ => rfl
  have F26 := fun_mk (st := s_Chart_neighbours) l26 c26 k26
  have b26' := F26.binds (ps := ["self", "name"]) fun _ _ _ _ _ _ us hl => match us, hl with | [_, _], _ => rfl
  have F27 : FunD K "flood" "flood" (defArgs s_flood) (defBody s_flood) (defScope s_flood) [V.ref pD27] [] f27 _ := ⟨⟨_, _, _, _, _, _, _, _, _, _, rfl, l27, c27, .inr ⟨by simp, _, _, [Value.ref pD27], _, rfl, lT27, rfl, .cons rfl .nil⟩, .inl rfl⟩, k27⟩
  have F28 : FunD K "levels_from" "levels_from" (defArgs s_levels_from) (defBody s_levels_from) (defScope s_levels_from) [V.ref pD28] [] f28 _ := ⟨⟨_, _, _, _, _, _, _, _, _, _, rfl, l28, c28, .inr ⟨by simp, _, _, [Value.ref pD28], _, rfl, lT28, rfl, .cons rfl .nil⟩, .inl rfl⟩, k28⟩
  have F29 := fun_mk (st := s_least_pass) l29 c29 k29
  have b29' := F29.binds (ps := ["chart", "heights", "one", "other"]) fun _ _ _ _ _ _ us hl => match us, hl with | [_, _, _, _], _ => rfl
  have F30 := fun_mk (st := s_Chart_names) l30 c30 k30
  have b30' := F30.binds (ps := ["self"]) fun _ _ _ _ _ _ us hl => match us, hl with | [_], _ => rfl
  have F31 := fun_mk (st := s_Chart___getitem__) l31 c31 k31
  have b31' := F31.binds (ps := ["self", "name"]) fun _ _ _ _ _ _ us hl => match us, hl with | [_, _], _ => rfl
  have F32 := fun_mk (st := s_low_heights) l32 c32 k32
  have b32' := F32.binds (ps := ["chart"]) fun _ _ _ _ _ _ us hl => match us, hl with | [_], _ => rfl
  have F33 := fun_mk (st := s_low_pass) l33 c33 k33
  have b33' := F33.binds (ps := ["chart", "one", "other"]) fun _ _ _ _ _ _ us hl => match us, hl with | [_, _, _], _ => rfl
  have F34 := fun_mk (st := s_check_bounds) l34 c34 k34
  have b34' := F34.binds (ps := ["bounds"]) fun _ _ _ _ _ _ us hl => match us, hl with | [_], _ => rfl
  have F35 := fun_mk (st := s_Chart_ties) l35 c35 k35
  have b35' := F35.binds (ps := ["self"]) fun _ _ _ _ _ _ us hl => match us, hl with | [_], _ => rfl
  have F36 := fun_mk (st := s_Chart_outlets) l36 c36 k36
  have b36' := F36.binds (ps := ["self"]) fun _ _ _ _ _ _ us hl => match us, hl with | [_], _ => rfl
  have F37 := fun_mk (st := s_Chart_with_bounds) l37 c37 k37
  have b37' := F37.binds (ps := ["self", "name", "bounds"]) fun _ _ _ _ _ _ us hl => match us, hl with | [_, _, _], _ => rfl
  have F38 := fun_mk (st := s__law_later) l38 c38 k38
  have b38' := F38.binds (ps := ["_law_box_here", "_law_model_here", "_law_chart_here"]) fun _ _ _ _ _ _ us hl => match us, hl with | [_, _, _], _ => rfl
  have F39 := fun_mk (st := s_high_heights) l39 c39 k39
  have b39' := F39.binds (ps := ["chart"]) fun _ _ _ _ _ _ us hl => match us, hl with | [_], _ => rfl
  have F40 := fun_mk (st := s_high_pass) l40 c40 k40
  have b40' := F40.binds (ps := ["chart", "one", "other"]) fun _ _ _ _ _ _ us hl => match us, hl with | [_, _, _], _ => rfl
  have F41 := fun_mk (st := s_check_land) l41 c41 k41
  have b41' := F41.binds (ps := ["land"]) fun _ _ _ _ _ _ us hl => match us, hl with | [_], _ => rfl
  have F42 := fun_mk (st := s_Land_heights) l42 c42 k42
  have b42' := F42.binds (ps := ["self"]) fun _ _ _ _ _ _ us hl => match us, hl with | [_], _ => rfl
  have F43 := fun_mk (st := s_pass_level) l43 c43 k43
  have b43' := F43.binds (ps := ["land", "one", "other"]) fun _ _ _ _ _ _ us hl => match us, hl with | [_, _, _], _ => rfl
  have F44 := fun_mk (st := s_Bounds___contains__) l44 c44 k44
  have b44' := F44.binds (ps := ["self", "value"]) fun _ _ _ _ _ _ us hl => match us, hl with | [_, _], _ => rfl
  have F45 := fun_mk (st := s_Chart___len__) l45 c45 k45
  have b45' := F45.binds (ps := ["self"]) fun _ _ _ _ _ _ us hl => match us, hl with | [_], _ => rfl
  have F46 := fun_mk (st := s_are_heights_for) l46 c46 k46
  have b46' := F46.binds (ps := ["chart", "value"]) fun _ _ _ _ _ _ us hl => match us, hl with | [_, _], _ => rfl
  have F47 := fun_mk (st := s_Land___init__) l47 c47 k47
  have b47' := F47.binds (ps := ["self", "chart", "heights"]) fun _ _ _ _ _ _ us hl => match us, hl with | [_, _, _], _ => rfl
  have F48 := fun_mk (st := s_nearest_height) l48 c48 k48
  have b48' := F48.binds (ps := ["bounds", "level"]) fun _ _ _ _ _ _ us hl => match us, hl with | [_, _], _ => rfl
  have F49 := fun_mk (st := s_Land_clipped) l49 c49 k49
  have b49' := F49.binds (ps := ["cls", "chart", "level"]) fun _ _ _ _ _ _ us hl => match us, hl with | [_, _, _], _ => rfl
  have F50 := fun_mk (st := s__law_between_right) l50 c50 k50
  have b50' := F50.binds (ps := ["_law_box_here", "_law_chart_here", "_law_lands", "_law_one", "_law_other"]) fun _ _ _ _ _ _ us hl => match us, hl with | [_, _, _, _, _], _ => rfl
  have F51 := fun_mk (st := s_Bounds_exact) l51 c51 k51
  have b51' := F51.binds (ps := ["cls", "height"]) fun _ _ _ _ _ _ us hl => match us, hl with | [_, _], _ => rfl
  have F52 := fun_mk (st := s_Land_pinned) l52 c52 k52
  have b52' := F52.binds (ps := ["self"]) fun _ _ _ _ _ _ us hl => match us, hl with | [_], _ => rfl
  have F53 := fun_mk (st := s__law_pinned_right) l53 c53 k53
  have b53' := F53.binds (ps := ["_law_land", "_law_one", "_law_other"]) fun _ _ _ _ _ _ us hl => match us, hl with | [_, _, _], _ => rfl
  have F54 := fun_mk (st := s_check_rim) l54 c54 k54
  have b54' := F54.binds (ps := ["chart", "name", "level"]) fun _ _ _ _ _ _ us hl => match us, hl with | [_, _, _], _ => rfl
  have F55 := fun_mk (st := s_part_around) l55 c55 k55
  have b55' := F55.binds (ps := ["chart", "start", "names"]) fun _ _ _ _ _ _ us hl => match us, hl with | [_, _, _], _ => rfl
  have F56 := fun_mk (st := s_rim) l56 c56 k56
  have b56' := F56.binds (ps := ["chart", "name", "level"]) fun _ _ _ _ _ _ us hl => match us, hl with | [_, _, _], _ => rfl
  have F57 := fun_mk (st := s__law_rims_right) l57 c57 k57
  have b57' := F57.binds (ps := ["_law_chart_here", "_law_lands", "_law_one", "_law_others", "_law_level"]) fun _ _ _ _ _ _ us hl => match us, hl with | [_, _, _, _, _], _ => rfl
  have F58 := fun_mk (st := s_law) l58 c58 k58
  have b58' := F58.binds (ps := ["_law_script"]) fun _ _ _ _ _ _ us hl => match us, hl with | [_], _ => rfl
  have YB : Mk K CB f11 := ⟨mk1B, mk2B, mk3B, mk4B⟩
  have YH : Mk K CH f19 := ⟨mk1H, mk2H, mk3H, mk4H⟩
  have YL : Mk K CL f47 := ⟨mk1L, mk2L, mk3L, mk4L⟩
  have B : BnT K mg CB := ⟨XB, no_B_low, no_B_high⟩
  have HC : ChT K mg CH := ⟨XH, no_H_bounds_by_name, no_H_tied_by_name, no_H_outlet_names⟩
  have HL : LdT K mg CL := ⟨XL, no_L_chart, no_L_height_by_name⟩
  have T : Txt K mg := ⟨PySem.W.mg_none_of X G z_len, PySem.W.mg_none_of X G z_int, PySem.W.mg_none_of X G z_max, PySem.W.mg_none_of X G z_min, PySem.W.mg_none_of X G z_range, PySem.W.mg_none_of X G z_all, PySem.W.mg_none_of X G z_any, PySem.W.mg_none_of X G z_isinstance, PySem.W.mg_none_of X G z_list, PySem.W.mg_none_of X G z_sorted, PySem.W.mg_none_of X G z_bool, PySem.W.mg_none_of X G z_str, PySem.W.mg_none_of X G z_tuple, PySem.W.mg_none_of X G z_dict, PySem.W.mg_none_of X G z_set, PySem.W.mg_none_of X G z_repr, PySem.W.mg_none_of X G z_enumerate, ⟨_, PySem.W.mg_of X G cst0, ⟨_, rfl⟩⟩, ⟨_, PySem.W.mg_of X G cst1, ⟨_, rfl⟩⟩, ⟨_, PySem.W.mg_of X G cst2, ⟨_, rfl⟩⟩, ⟨_, PySem.W.mg_of X G cst3, ⟨_, rfl⟩⟩⟩
  have bt : Bt mg := ⟨T.m_len, T.m_int, T.m_max⟩
  refine ⟨PySem.W.fnOf "law" "law" (defArgs s_law) (defBody s_law) (defScope s_law) .none kV58 dc58 pm58 an58 cd58 ct58, fun s v => .of_eq rfl, fun base _ _ => ?_⟩
  have C__law_cell : Cal l.prog w K mg base "_law_cell" 1 ["_law_script", "_law_k"] (spCellA K) := ⟨f1, _, ok_cell F1 bt, PySem.W.mg_of X G a1, k1, b1'⟩
  have C__law_box : Cal l.prog w K mg base "_law_box" 1 ["_law_cell_here"] spBox := ⟨f2, _, ok_box F2 bt, PySem.W.mg_of X G a2, k2, b2'⟩
  have C__law_take : Cal l.prog w K mg base "_law_take" 1 ["_law_box_here", "_law_many"] spTake := ⟨f3, _, ok_take F3 bt, PySem.W.mg_of X G a3, k3, b3'⟩
  have C__law_mixed : Cal l.prog w K mg base "_law_mixed" 2 ["_law_box_here", "_law_some"] (spMixed K) := ⟨f4, _, ok__law_mixed F4 T C__law_take, PySem.W.mg_of X G a4, k4, b4'⟩
  have C__law_names : Cal l.prog w K mg base "_law_names" 3 ["_law_box_here", "_law_many"] spNamesM := ⟨f5, _, ok__law_names F5 T C__law_take C__law_mixed, PySem.W.mg_of X G a5, k5, b5'⟩
  have C__law_height : Cal l.prog w K mg base "_law_height" 2 ["_law_box_here", "_law_way"] spHeightM := ⟨f6, _, ok__law_height F6 T C__law_take, PySem.W.mg_of X G a6, k6, b6'⟩
  have C__law_model : Cal l.prog w K mg base "_law_model" 4 ["_law_box_here", "_law_most"] spModelF := ⟨f7, _, ok__law_model F7 T C__law_take C__law_names C__law_height, PySem.W.mg_of X G a7, k7, b7'⟩
  have C_is_whole : Cal l.prog w K mg base "is_whole" 1 ["value"] spWhole := ⟨f8, _, ok_is_whole F8 T, PySem.W.mg_of X G a8, k8, b8'⟩
  have C_is_height : Cal l.prog w K mg base "is_height" 2 ["value"] spHeightY := ⟨f9, _, ok_is_height F9 T C_is_whole, PySem.W.mg_of X G a9, k9, b9'⟩
  have C_check_height : Cal l.prog w K mg base "check_height" 3 ["value"] spCheckH := ⟨f10, _, ok_check_height F10 T C_is_height, PySem.W.mg_of X G a10, k10, b10'⟩
  have I_Bounds : ICal l.prog w K mg base "Bounds" CB 4 ["self", "low", "high"] (spBInitY CB) := ⟨f11, _, ok_Bounds___init__ B F11 T C_check_height, YB, b11', XB.g⟩
  have C_is_name : Cal l.prog w K mg base "is_name" 1 ["value"] spNameY := ⟨f12, _, ok_is_name F12 T, PySem.W.mg_of X G a12, k12, b12'⟩
  have C_check_places : Cal l.prog w K mg base "check_places" 2 ["places"] (spPlacesY CB) := ⟨f13, _, ok_check_places B F13 T ⟨_, XB.g, rfl⟩ C_is_name, PySem.W.mg_of X G a13, k13, b13'⟩
  have C_is_place : Cal l.prog w K mg base "is_place" 1 ["value", "places"] spPlaceY := ⟨f14, _, ok_is_place F14 T, PySem.W.mg_of X G a14, k14, b14'⟩
  have C_is_pair : Cal l.prog w K mg base "is_pair" 2 ["value", "places"] spPairV := ⟨f15, _, ok_is_pair F15 T C_is_place, PySem.W.mg_of X G a15, k15, b15'⟩
  have C_check_ties : Cal l.prog w K mg base "check_ties" 3 ["ties", "places"] (spTiesV K) := ⟨f16, _, ok_check_ties F16 T C_is_pair, PySem.W.mg_of X G a16, k16, b16'⟩
  have C_check_listed : Cal l.prog w K mg base "check_listed" 2 ["listed", "places"] (spListV K) := ⟨f17, _, ok_check_listed F17 T C_is_place, PySem.W.mg_of X G a17, k17, b17'⟩
  have C_tied_places : Cal l.prog w K mg base "tied_places" 1 ["names", "ties"] (spTiedV K) := ⟨f18, _, ok_tied_places F18 T, PySem.W.mg_of X G a18, k18, b18'⟩
  have I_Chart : IKal l.prog w K mg base "Chart" CH 4 ["self", "places", "ties", "outlets"] 2 ["outlets"] (fun vs zs => vs ++ zs) (spChInitV K CH CB) := by
    obtain ⟨its, kb⟩ := F19.kbindsD (ps := ["self", "places", "ties", "outlets"]) 3 ["outlets"] (fun us _ ws => us ++ ws) (by simp) (fun r _ r2 => r.append r2) (fun _ _ _ _ _ _ _ us its ws h1 h2 h3 => match us, its, ws, h1, h2, h3 with | [_, _, _], [_], [_], _, _, _ => ⟨_, rfl, rfl⟩)
    exact ⟨f19, _, _, ok_Chart___init__ HC F19 T C_check_places C_check_ties C_check_listed C_tied_places, YH, kb, XH.g⟩
  have C__law_chart : Cal l.prog w K mg base "_law_chart" 6 ["_law_model_here"] (spChartM CH CB) := ⟨f20, _, ok__law_chart F20 T I_Bounds I_Chart, PySem.W.mg_of X G a20, k20, b20'⟩
  have C__law_heights : Cal l.prog w K mg base "_law_heights" 3 ["_law_box_here", "_law_model_here"] spHeightsM := ⟨f21, _, ok__law_heights F21 T C__law_take C__law_mixed, PySem.W.mg_of X G a21, k21, b21'⟩
  have C_check_chart : Cal l.prog w K mg base "check_chart" 1 ["chart"] (spCheckC CH CB) := ⟨f22, _, ok_check_chart HC F22 T ⟨_, XH.g, rfl⟩, PySem.W.mg_of X G a22, k22, b22'⟩
  have G_has : OCal l.prog w K mg base CH "__contains__" 2 ["self", "value"] (spHasP CH CB) := ⟨f23, _, ok_Chart___contains__ HC F23 T C_is_place, a23, d23, e23, b23'⟩
  have C_check_place : Cal l.prog w K mg base "check_place" 3 ["chart", "name"] (spCheckPl CH CB) := ⟨f24, _, ok_check_place HC F24 T G_has, PySem.W.mg_of X G a24, k24, b24'⟩
  have C_check_passes : Cal l.prog w K mg base "check_passes" 4 ["chart", "one", "other"] (spCheckPs CH CB) := ⟨f25, _, ok_check_passes F25 T C_check_chart C_check_place, PySem.W.mg_of X G a25, k25, b25'⟩
  have M_neighbours : MCal l.prog w K mg base CH "neighbours" 4 ["self", "name"] (spNbrs CH CB) := ⟨f26, _, ok_Chart_neighbours HC F26 T C_check_place, ⟨a26, d26, k26⟩, b26'⟩
  have C_flood : Cal l.prog w K mg base "flood" 5 ["chart", "heights", "starts", "stops"] (spFloodP K CH CB) := by
    obtain ⟨ds, hd, hb⟩ := F27.binds1 (ps := ["chart", "heights", "starts", "stops"]) 4 1 (by simp) rfl (fun _ _ _ _ _ _ _ us its h1 h2 => match us, its, h1, h2 with | [_, _, _, _], [_], _, _ => ⟨_, rfl, rfl⟩)
    cases hd
    exact ⟨f27, _, ok_flood HC F27 T M_neighbours, PySem.W.mg_of X G a27, k27, hb⟩
  have hE : ∀ H : Hp, SqT K H pD28 [] := fun H => .inr ⟨_, #[], _, lG, rfl, rfl, Nat.zero_le _, .nil⟩
  have D_levels_from : CalD l.prog w K mg base "levels_from" 6 ["chart", "heights", "starts", "stops"] [V.ref pD28] (spLevF K CH CB) := by
    obtain ⟨ds, hd, hb⟩ := F28.binds1 (ps := ["chart", "heights", "starts", "stops"]) 3 0 (by simp) rfl (fun _ _ _ _ _ _ _ us its h1 h2 => match us, its, h1, h2 with | [_, _, _], [_], _, _ => ⟨_, rfl, rfl⟩)
    exact ⟨f28, _, ds, ok_levels_from F28 T C_flood, PySem.W.mg_of X G a28, k28, hd, hb⟩
  have C_least_pass : Cal l.prog w K mg base "least_pass" 7 ["chart", "heights", "one", "other"] (spLeastP CH CB) := ⟨f29, _, ok_least_pass F29 T D_levels_from hE, PySem.W.mg_of X G a29, k29, b29'⟩
  have M_names : MCal l.prog w K mg base CH "names" 1 ["self"] (spNames CH CB) := ⟨f30, _, ok_Chart_names HC F30 T, ⟨a30, d30, k30⟩, b30'⟩
  have G_item : OCal l.prog w K mg base CH "__getitem__" 4 ["self", "name"] (spItem CH CB) := ⟨f31, _, ok_Chart___getitem__ HC F31 T C_check_place, a31, d31, e31, b31'⟩
  have C_low_heights : Cal l.prog w K mg base "low_heights" 6 ["chart"] (spEndsD CH CB true) := ⟨f32, _, ok_low_heights HC B F32 T M_names G_item, PySem.W.mg_of X G a32, k32, b32'⟩
  have C_low_pass : Cal l.prog w K mg base "low_pass" 8 ["chart", "one", "other"] (spPassC CH CB true) := ⟨f33, _, ok_low_pass F33 T C_check_passes C_least_pass C_low_heights, PySem.W.mg_of X G a33, k33, b33'⟩
  have C_check_bounds : Cal l.prog w K mg base "check_bounds" 1 ["bounds"] (spCheckB CB) := ⟨f34, _, ok_check_bounds B F34 T ⟨_, XB.g, rfl⟩, PySem.W.mg_of X G a34, k34, b34'⟩
  have M_ties : MCal l.prog w K mg base CH "ties" 1 ["self"] (spTiesN CH CB) := ⟨f35, _, ok_Chart_ties HC F35 T, ⟨a35, d35, k35⟩, b35'⟩
  have M_outlets : MCal l.prog w K mg base CH "outlets" 1 ["self"] (spOutsM CH CB) := ⟨f36, _, ok_Chart_outlets HC F36 T, ⟨a36, d36, k36⟩, b36'⟩
  have M_with_bounds : MCal l.prog w K mg base CH "with_bounds" 6 ["self", "name", "bounds"] (spWithK CH CB) := ⟨f37, _, ok_Chart_with_bounds HC F37 T C_check_place C_check_bounds M_ties M_outlets I_Chart, ⟨a37, d37, k37⟩, b37'⟩
  have C__law_later : Cal l.prog w K mg base "_law_later" 9 ["_law_box_here", "_law_model_here", "_law_chart_here"] (spLater CH CB) := ⟨f38, _, ok__law_later HC F38 T C__law_take C__law_height C_low_pass M_with_bounds I_Bounds, PySem.W.mg_of X G a38, k38, b38'⟩
  have C_high_heights : Cal l.prog w K mg base "high_heights" 6 ["chart"] (spEndsD CH CB false) := ⟨f39, _, ok_high_heights HC B F39 T M_names G_item, PySem.W.mg_of X G a39, k39, b39'⟩
  have C_high_pass : Cal l.prog w K mg base "high_pass" 8 ["chart", "one", "other"] (spPassC CH CB false) := ⟨f40, _, ok_high_pass F40 T C_check_passes C_least_pass C_high_heights, PySem.W.mg_of X G a40, k40, b40'⟩
  have C_check_land : Cal l.prog w K mg base "check_land" 1 ["land"] (spCheckL CL CH CB) := ⟨f41, _, ok_check_land HL F41 T ⟨_, XL.g, rfl⟩, PySem.W.mg_of X G a41, k41, b41'⟩
  have M_heights : MCal l.prog w K mg base CL "heights" 1 ["self"] (spLdHs CL CH CB) := ⟨f42, _, ok_Land_heights HL F42 T, ⟨a42, d42, k42⟩, b42'⟩
  have C_pass_level : Cal l.prog w K mg base "pass_level" 8 ["land", "one", "other"] (spPassL CL CH CB) := ⟨f43, _, ok_pass_level HL F43 T C_check_land C_check_passes C_least_pass M_heights, PySem.W.mg_of X G a43, k43, b43'⟩
  have G_inB : OCal l.prog w K mg base CB "__contains__" 3 ["self", "value"] (spInB CB) := ⟨f44, _, ok_Bounds___contains__ B F44 T C_is_height, a44, d44, e44, b44'⟩
  have G_len : OCal l.prog w K mg base CH "__len__" 1 ["self"] (spLen CH CB) := ⟨f45, _, ok_Chart___len__ HC F45 T, a45, d45, e45, b45'⟩
  have C_are_heights_for : Cal l.prog w K mg base "are_heights_for" 3 ["chart", "value"] (spAreH CH CB) := ⟨f46, _, ok_are_heights_for HC F46 T G_len M_names, PySem.W.mg_of X G a46, k46, b46'⟩
  have I_Land : ICal l.prog w K mg base "Land" CL 7 ["self", "chart", "heights"] (spLdInitC CL CH CB) := ⟨f47, _, ok_Land___init__ HL HC F47 T G_inB G_item M_names C_check_chart C_are_heights_for, YL, b47', XL.g⟩
  have C_nearest_height : Cal l.prog w K mg base "nearest_height" 1 ["bounds", "level"] (spNearB CB) := ⟨f48, _, ok_nearest_height B F48 T, PySem.W.mg_of X G a48, k48, b48'⟩
  have E_clipped : CCal l.prog w K mg base "Land" CL "clipped" 9 ["cls", "chart", "level"] (spClipped CL CH CB) := ⟨f49, pL49, _, .type "type", ok_Land_clipped HC F49 T C_check_chart C_check_height I_Land C_nearest_height G_item M_names, ⟨rdL, rgL⟩, ⟨cf49, ⟨_, cr49⟩, ce49⟩, b49', XL.g⟩
  have C__law_between_right : Cal l.prog w K mg base "_law_between_right" 10 ["_law_box_here", "_law_chart_here", "_law_lands", "_law_one", "_law_other"] (spBetween CL CH CB) := ⟨f50, _, ok__law_between_right F50 T C__law_take C_low_pass C_high_pass C_pass_level E_clipped, PySem.W.mg_of X G a50, k50, b50'⟩
  have E_exact : CCal l.prog w K mg base "Bounds" CB "exact" 6 ["cls", "height"] (spExactN CB) := ⟨f51, pB51, _, .type "type", ok_Bounds_exact F51 T I_Bounds, ⟨rdB, rgB⟩, ⟨cf51, ⟨_, cr51⟩, ce51⟩, b51', XB.g⟩
  have M_pinned : MCal l.prog w K mg base CL "pinned" 8 ["self"] (spPinnedK CL CH CB) := ⟨f52, _, ok_Land_pinned HL HC F52 T E_exact M_ties M_outlets I_Chart, ⟨a52, d52, k52⟩, b52'⟩
  have C__law_pinned_right : Cal l.prog w K mg base "_law_pinned_right" 9 ["_law_land", "_law_one", "_law_other"] (spPinRight CL CH CB) := ⟨f53, _, ok__law_pinned_right HL F53 T M_pinned C_pass_level C_low_pass C_high_pass, PySem.W.mg_of X G a53, k53, b53'⟩
  have C_check_rim : Cal l.prog w K mg base "check_rim" 4 ["chart", "name", "level"] (spCheckRim CH CB) := ⟨f54, _, ok_check_rim F54 T C_check_chart C_check_place C_check_height, PySem.W.mg_of X G a54, k54, b54'⟩
  have C_part_around : Cal l.prog w K mg base "part_around" 5 ["chart", "start", "names"] (spPartL CH CB) := ⟨f55, _, ok_part_around HC F55 T M_neighbours, PySem.W.mg_of X G a55, k55, b55'⟩
  have C_rim : Cal l.prog w K mg base "rim" 6 ["chart", "name", "level"] (spRim CH CB) := ⟨f56, _, ok_rim HC B F56 T C_check_rim C_part_around G_item M_names, PySem.W.mg_of X G a56, k56, b56'⟩
  have C__law_rims_right : Cal l.prog w K mg base "_law_rims_right" 9 ["_law_chart_here", "_law_lands", "_law_one", "_law_others", "_law_level"] (spRimsR CL CH CB) := ⟨f57, _, ok__law_rims_right F57 T C_rim C_pass_level, PySem.W.mg_of X G a57, k57, b57'⟩
  exact ok_law F58 T C__law_cell C__law_box C__law_take C__law_model C__law_chart C__law_heights C__law_later C__law_between_right C__law_pinned_right C__law_rims_right I_Land
end K23

end
theorem PySem.Challenge.cw_surehollows_k23_whole_passes_of_all_land_holds : PySem.Challenge.rw_surehollows_k23_whole_passes_of_all_land.Holds := by
  exact HLx.top @K23.all_mk
