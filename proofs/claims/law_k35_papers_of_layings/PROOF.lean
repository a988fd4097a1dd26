import PyProof.Rows.All
import Wide.All
import OpenK.AllK
import Wide.FinOn
import PySem.Challenge.RW_laidviews_k35_papers_of_layings
import HandS.ForMost
import HandS.Exc
import HandS.TryOnly
import HandS.TryMany
import HandS.ExcInit
import HandS.ExcInitHot
import HandS.ExcField
import HandS.ExcIs
import HandS.RaiseFrom
import HandS.SuiteRaise
import HandS.Style
import HandS.IsInst
import HandS.TupMul
import HandS.TupAny
import HandS.Flow
import HandS.FStr
import HandS.More
import HandS.Deep
import HandS.WordsExc
import HandS.Defaults
import HandS.Head0
import HandS.Head1
import HandS.Head2
import HandS.HeadEnd
import HandS.HeadHook1
import HandS.HeadHook2
import HandS.HeadHook3
import HandS.HeadHook4
import HandS.HeadWalk
import KE.GoesEnum
import KE.GoesMore
import HandS.SortInts
import HandS.Zip
import KE.GoesComp
import KE.GoesRaise
import HandS.Evl
import HandS.Conv
import HandS.Dict
import HandS.Iter
import HandS.ListItems
import HandS.Sort
import KE.KDictList
import HandS.WordsDict
import PyProof.StrLawsAffix
import PyProof.StrLawsTight
import PyProof.Rows.StrItems
import KE.IntText
import HandS.RaiseMore
import HandS.Star
import HandS.StrMore
import HandS.DictComp
import PyProof.DictUpdate
import HandS.SortKw
import HandS.Slots
import HandS.Rev
import KE.KMinBuiltin
import HandS.DictEq
import HandS.DeepEq
import HandS.OwnEq
import HandS.RevTup
import PyProof.ListNew
import PyProof.CollectWalk
import HandS.Strs
set_option Elab.async false
set_option linter.all false
set_option maxRecDepth 100000
set_option maxHeartbeats 4000000
namespace Y
open PySem PySem.Spec PyProof.Rows L2
/-- what the text says of such a class -/
def exB (K : PySem.W.Frag) (C : Addr) (f : Str) : Bool :=
  (match K.lookup C with
    | some ⟨.type "type", _, .cls cd, sl⟩ => (match cd.mro, sl.toList with
      | .ref D :: bm, [_, _, _, _, some (.builtin n), _] => D == C && n == "ValueError.__new__" && !cd.hasDel && cd.hasDict && HandSPX.refsVE bm
      | _, _ => false)
    | _ => false) &&
  (decide (PySem.W.findIn K (.ref C) "__setattr__" = some (some (.builtin "object.__setattr__"))) && decide (PySem.W.subIn K (.ref C) (.type "BaseException") = some true) && decide (PySem.W.typeIn K (.ref C) = some (.type "type")) && PySem.W.keepIn K (.ref C)) &&
  (decide (PySem.W.findIn K (.ref C) "__getattribute__" = some (some (.builtin "BaseException.__getattribute__"))) && decide (PySem.W.findIn K (.ref C) "__getattr__" = some none) && PySem.W.hasDictIn K C) &&
  (decide (PySem.W.findIn K (.ref C) f = some none) && decide (PySem.W.findIn K (.ref C) "__init__" = some (some (.ref (He.ma K C "__init__")))) && decide (PySem.W.typeIn K (.ref (He.ma K C "__init__")) = some (.type "function"))) &&
  (decide (PySem.W.findIn K (.ref C) "__class__" = some (some (.builtin "object.__class__"))) && decide (PySem.W.specialIn K (.builtin "object.__class__") "__get__" = some (some (.builtin "getset_descriptor.__get__"))) &&
    decide (PySem.W.takesIn K (.builtin "object.__class__") = some true) && decide (PySem.W.mroIn K C (.type "object") = some true))

def tupB (K : PySem.W.Frag) (a : Addr) (ns : List Int) : Bool := match K.lookup a with
  | some ⟨.type "tuple", none, .seq its _, _⟩ => decide (its.toList.map (fun v => match v with | .int i _ => some i | _ => none) = ns.map some)
  | _ => false
end Y
namespace A
open PySem PySem.Spec PyProof.Rows L2 Y
def topS (i : Nat) : Stmt := PySem.Challenge.pw_laidviews_k35_papers_of_layings.main.body.getD i (.Pass ⟨0, 0, 0, 0⟩)
abbrev s_is_whole : Stmt := topS 2
theorem sc_is_whole : FnScope ["value"] ["value"] (defScope s_is_whole) := ⟨rfl, rfl, rfl, by decide +kernel, rfl, by decide +kernel, by decide +kernel⟩
def d_is_whole : He.DefD := ⟨("is_whole", none), "is_whole", "is_whole", defArgs s_is_whole, defBody s_is_whole, defScope s_is_whole, [], []⟩
abbrev s_is_within : Stmt := topS 3
theorem sc_is_within : FnScope ["value", "least", "greatest"] ["value", "least", "greatest"] (defScope s_is_within) := ⟨rfl, rfl, rfl, by decide +kernel, rfl, by decide +kernel, by decide +kernel⟩
def d_is_within : He.DefD := ⟨("is_within", none), "is_within", "is_within", defArgs s_is_within, defBody s_is_within, defScope s_is_within, [], []⟩
abbrev s_is_reading : Stmt := topS 43
theorem sc_is_reading : FnScope ["value"] ["value"] (defScope s_is_reading) := ⟨rfl, rfl, rfl, by decide +kernel, rfl, by decide +kernel, by decide +kernel⟩
def d_is_reading : He.DefD := ⟨("is_reading", none), "is_reading", "is_reading", defArgs s_is_reading, defBody s_is_reading, defScope s_is_reading, [], []⟩
abbrev s__is_row : Stmt := topS 44
theorem sc__is_row : FnScope ["value", "reading"] ["value"] (defScope s__is_row) := ⟨rfl, rfl, rfl, by decide +kernel, rfl, by decide +kernel, by decide +kernel⟩
def d__is_row : He.DefD := ⟨("_is_row", none), "_is_row", "_is_row", defArgs s__is_row, defBody s__is_row, defScope s__is_row, [], []⟩
abbrev s__is_rows : Stmt := topS 45
theorem sc__is_rows : FnScope ["value", "row"] ["value"] (defScope s__is_rows) := ⟨rfl, rfl, rfl, by decide +kernel, rfl, by decide +kernel, by decide +kernel⟩
def d__is_rows : He.DefD := ⟨("_is_rows", none), "_is_rows", "_is_rows", defArgs s__is_rows, defBody s__is_rows, defScope s__is_rows, [], []⟩
abbrev s_is_name : Stmt := topS 42
theorem sc_is_name : FnScope ["value", "sign"] ["value"] (defScope s_is_name) := ⟨rfl, rfl, rfl, by decide +kernel, rfl, by decide +kernel, by decide +kernel⟩
def d_is_name : He.DefD := ⟨("is_name", none), "is_name", "is_name", defArgs s_is_name, defBody s_is_name, defScope s_is_name, [], []⟩
abbrev s_is_tuple_of : Stmt := topS 4
theorem sc_is_tuple_of : FnScope ["value", "length"] ["value", "length"] (defScope s_is_tuple_of) := ⟨rfl, rfl, rfl, by decide +kernel, rfl, by decide +kernel, by decide +kernel⟩
def d_is_tuple_of : He.DefD := ⟨("is_tuple_of", none), "is_tuple_of", "is_tuple_of", defArgs s_is_tuple_of, defBody s_is_tuple_of, defScope s_is_tuple_of, [], []⟩
abbrev s_is_view : Stmt := topS 46
theorem sc_is_view : FnScope ["value"] ["value"] (defScope s_is_view) := ⟨rfl, rfl, rfl, by decide +kernel, rfl, by decide +kernel, by decide +kernel⟩
def d_is_view : He.DefD := ⟨("is_view", none), "is_view", "is_view", defArgs s_is_view, defBody s_is_view, defScope s_is_view, [], []⟩
abbrev s_is_link : Stmt := topS 52
theorem sc_is_link : FnScope ["value", "one", "two", "dx", "dy", "light"] ["value"] (defScope s_is_link) := ⟨rfl, rfl, rfl, by decide +kernel, rfl, by decide +kernel, by decide +kernel⟩
def d_is_link : He.DefD := ⟨("is_link", none), "is_link", "is_link", defArgs s_is_link, defBody s_is_link, defScope s_is_link, [], []⟩
abbrev s_Album___init__ : Stmt := inClass (topS 53) 0
theorem sc_Album___init__ : FnScope ["self"] ["self"] (defScope s_Album___init__) := ⟨rfl, rfl, rfl, by decide +kernel, rfl, by decide +kernel, by decide +kernel⟩
def d_Album___init__ : He.DefD := ⟨("Album", some "__init__"), "__init__", "Album.__init__", defArgs s_Album___init__, defBody s_Album___init__, defScope s_Album___init__, [], []⟩
abbrev s_Album_links : Stmt := inClass (topS 53) 9
theorem sc_Album_links : FnScope ["self"] ["self"] (defScope s_Album_links) := ⟨rfl, rfl, rfl, by decide +kernel, rfl, by decide +kernel, by decide +kernel⟩
def d_Album_links : He.DefD := ⟨("Album", some "links"), "links", "Album.links", defArgs s_Album_links, defBody s_Album_links, defScope s_Album_links, [], []⟩
abbrev s_Album_names : Stmt := inClass (topS 53) 8
theorem sc_Album_names : FnScope ["self"] ["self"] (defScope s_Album_names) := ⟨rfl, rfl, rfl, by decide +kernel, rfl, by decide +kernel, by decide +kernel⟩
def d_Album_names : He.DefD := ⟨("Album", some "names"), "names", "Album.names", defArgs s_Album_names, defBody s_Album_names, defScope s_Album_names, [], []⟩
abbrev s_Unknown___init__ : Stmt := inClass (topS 21) 0
theorem sc_Unknown___init__ : FnScope ["self", "name"] ["self", "name"] (defScope s_Unknown___init__) := ⟨rfl, rfl, rfl, by decide +kernel, rfl, by decide +kernel, by decide +kernel⟩
def d_Unknown___init__ : He.DefD := ⟨("Unknown", some "__init__"), "__init__", "Unknown.__init__", defArgs s_Unknown___init__, defBody s_Unknown___init__, defScope s_Unknown___init__, [], []⟩
abbrev s_Album__check_known : Stmt := inClass (topS 53) 11
theorem sc_Album__check_known : FnScope ["self", "name"] ["self", "name"] (defScope s_Album__check_known) := ⟨rfl, rfl, rfl, by decide +kernel, rfl, by decide +kernel, by decide +kernel⟩
def d_Album__check_known : He.DefD := ⟨("Album", some "_check_known"), "_check_known", "Album._check_known", defArgs s_Album__check_known, defBody s_Album__check_known, defScope s_Album__check_known, [], []⟩
abbrev s_Misused___init__ : Stmt := inClass (topS 24) 0
theorem sc_Misused___init__ : FnScope ["self", "why"] ["self", "why"] (defScope s_Misused___init__) := ⟨rfl, rfl, rfl, by decide +kernel, rfl, by decide +kernel, by decide +kernel⟩
def d_Misused___init__ : He.DefD := ⟨("Misused", some "__init__"), "__init__", "Misused.__init__", defArgs s_Misused___init__, defBody s_Misused___init__, defScope s_Misused___init__, [], []⟩
abbrev s_Oversized___init__ : Stmt := inClass (topS 23) 0
theorem sc_Oversized___init__ : FnScope ["self", "limit"] ["self", "limit"] (defScope s_Oversized___init__) := ⟨rfl, rfl, rfl, by decide +kernel, rfl, by decide +kernel, by decide +kernel⟩
def d_Oversized___init__ : He.DefD := ⟨("Oversized", some "__init__"), "__init__", "Oversized.__init__", defArgs s_Oversized___init__, defBody s_Oversized___init__, defScope s_Oversized___init__, [], []⟩
abbrev s_Album_add_link : Stmt := inClass (topS 53) 2
theorem sc_Album_add_link : FnScope ["self", "link", "name"] ["self", "link"] (defScope s_Album_add_link) := ⟨rfl, rfl, rfl, by decide +kernel, rfl, by decide +kernel, by decide +kernel⟩
def d_Album_add_link : He.DefD := ⟨("Album", some "add_link"), "add_link", "Album.add_link", defArgs s_Album_add_link, defBody s_Album_add_link, defScope s_Album_add_link, [], []⟩
abbrev s_Clashing___init__ : Stmt := inClass (topS 22) 0
theorem sc_Clashing___init__ : FnScope ["self", "name"] ["self", "name"] (defScope s_Clashing___init__) := ⟨rfl, rfl, rfl, by decide +kernel, rfl, by decide +kernel, by decide +kernel⟩
def d_Clashing___init__ : He.DefD := ⟨("Clashing", some "__init__"), "__init__", "Clashing.__init__", defArgs s_Clashing___init__, defBody s_Clashing___init__, defScope s_Clashing___init__, [], []⟩
abbrev s_Album_add_view : Stmt := inClass (topS 53) 1
theorem sc_Album_add_view : FnScope ["self", "view", "name"] ["self", "view"] (defScope s_Album_add_view) := ⟨rfl, rfl, rfl, by decide +kernel, rfl, by decide +kernel, by decide +kernel⟩
def d_Album_add_view : He.DefD := ⟨("Album", some "add_view"), "add_view", "Album.add_view", defArgs s_Album_add_view, defBody s_Album_add_view, defScope s_Album_add_view, [], []⟩
abbrev s__law_wide : Stmt := topS 55
theorem sc__law_wide : FnScope ["script", "k", "cell", "mixed"] ["script", "k"] (defScope s__law_wide) := ⟨rfl, rfl, rfl, by decide +kernel, rfl, by decide +kernel, by decide +kernel⟩
def d__law_wide : He.DefD := ⟨("_law_wide", none), "_law_wide", "_law_wide", defArgs s__law_wide, defBody s__law_wide, defScope s__law_wide, [], []⟩
abbrev s__law_take : Stmt := topS 56
theorem sc__law_take : FnScope ["pool", "most", "taken"] ["pool", "most"] (defScope s__law_take) := ⟨rfl, rfl, rfl, by decide +kernel, rfl, by decide +kernel, by decide +kernel⟩
def d__law_take : He.DefD := ⟨("_law_take", none), "_law_take", "_law_take", defArgs s__law_take, defBody s__law_take, defScope s__law_take, [], []⟩
abbrev s__law_name : Stmt := topS 58
theorem sc__law_name : FnScope ["pool", "letters", "name", "k"] ["pool"] (defScope s__law_name) := ⟨rfl, rfl, rfl, by decide +kernel, rfl, by decide +kernel, by decide +kernel⟩
def d__law_name : He.DefD := ⟨("_law_name", none), "_law_name", "_law_name", defArgs s__law_name, defBody s__law_name, defScope s__law_name, [], []⟩
abbrev s__law_links : Stmt := topS 62
theorem sc__law_links : FnScope ["pool", "names", "many", "places", "name", "links", "k", "one", "two", "moves", "j"] ["pool", "names", "many"] (defScope s__law_links) := ⟨rfl, rfl, rfl, by decide +kernel, rfl, by decide +kernel, by decide +kernel⟩
def d__law_links : He.DefD := ⟨("_law_links", none), "_law_links", "_law_links", defArgs s__law_links, defBody s__law_links, defScope s__law_links, [], []⟩
abbrev s__law_reading : Stmt := topS 60
theorem sc__law_reading : FnScope ["pool"] ["pool"] (defScope s__law_reading) := ⟨rfl, rfl, rfl, by decide +kernel, rfl, by decide +kernel, by decide +kernel⟩
def d__law_reading : He.DefD := ⟨("_law_reading", none), "_law_reading", "_law_reading", defArgs s__law_reading, defBody s__law_reading, defScope s__law_reading, [], []⟩
abbrev s__law_rows : Stmt := topS 61
theorem sc__law_rows : FnScope ["pool", "most", "width", "height", "y", "x"] ["pool", "most"] (defScope s__law_rows) := ⟨rfl, rfl, rfl, by decide +kernel, rfl, by decide +kernel, by decide +kernel⟩
def d__law_rows : He.DefD := ⟨("_law_rows", none), "_law_rows", "_law_rows", defArgs s__law_rows, defBody s__law_rows, defScope s__law_rows, [], []⟩
abbrev s__law_album : Stmt := topS 63
theorem sc__law_album : FnScope ["names", "rows", "links", "album", "k", "link"] ["names", "rows", "links"] (defScope s__law_album) := ⟨rfl, rfl, rfl, by decide +kernel, rfl, by decide +kernel, by decide +kernel⟩
def d__law_album : He.DefD := ⟨("_law_album", none), "_law_album", "_law_album", defArgs s__law_album, defBody s__law_album, defScope s__law_album, [], []⟩
abbrev s__law_steps : Stmt := topS 64
theorem sc__law_steps : FnScope ["links", "name", "steps", "number"] ["links", "name"] (defScope s__law_steps) := ⟨rfl, rfl, rfl, by decide +kernel, rfl, by decide +kernel, by decide +kernel⟩
def d__law_steps : He.DefD := ⟨("_law_steps", none), "_law_steps", "_law_steps", defArgs s__law_steps, defBody s__law_steps, defScope s__law_steps, [], []⟩
abbrev s__steps_at : Stmt := topS 9
theorem sc__steps_at : FnScope ["names", "links", "steps", "number", "link", "name", "one", "two"] ["names", "links"] (defScope s__steps_at) := ⟨rfl, rfl, rfl, by decide +kernel, rfl, by decide +kernel, by decide +kernel⟩
def d__steps_at : He.DefD := ⟨("_steps_at", none), "_steps_at", "_steps_at", defArgs s__steps_at, defBody s__steps_at, defScope s__steps_at, [], []⟩
abbrev s__place_behind : Stmt := topS 7
theorem sc__place_behind : FnScope ["place", "link", "forward", "x", "y", "light", "dx", "dy", "more"] ["place", "link", "forward"] (defScope s__place_behind) := ⟨rfl, rfl, rfl, by decide +kernel, rfl, by decide +kernel, by decide +kernel⟩
def d__place_behind : He.DefD := ⟨("_place_behind", none), "_place_behind", "_place_behind", defArgs s__place_behind, defBody s__place_behind, defScope s__place_behind, [], []⟩
abbrev s__walks_from : Stmt := topS 10
theorem sc__walks_from : FnScope ["start", "links", "steps", "walks", "found", "further", "name", "way", "place", "number", "forward", "other"] ["start", "links", "steps"] (defScope s__walks_from) := ⟨rfl, rfl, rfl, by decide +kernel, rfl, by decide +kernel, by decide +kernel⟩
def d__walks_from : He.DefD := ⟨("_walks_from", none), "_walks_from", "_walks_from", defArgs s__walks_from, defBody s__walks_from, defScope s__walks_from, [], []⟩
abbrev s__law_group : Stmt := topS 65
theorem sc__law_group : FnScope ["links", "name", "group", "turn", "other", "step"] ["links", "name"] (defScope s__law_group) := ⟨rfl, rfl, rfl, by decide +kernel, rfl, by decide +kernel, by decide +kernel⟩
def d__law_group : He.DefD := ⟨("_law_group", none), "_law_group", "_law_group", defArgs s__law_group, defBody s__law_group, defScope s__law_group, [], []⟩
abbrev s__law_moved : Stmt := topS 66
theorem sc__law_moved : FnScope ["place", "link", "forward", "sign", "j"] ["place", "link", "forward"] (defScope s__law_moved) := ⟨rfl, rfl, rfl, by decide +kernel, rfl, by decide +kernel, by decide +kernel⟩
def d__law_moved : He.DefD := ⟨("_law_moved", none), "_law_moved", "_law_moved", defArgs s__law_moved, defBody s__law_moved, defScope s__law_moved, [], []⟩
abbrev s_Album_index : Stmt := inClass (topS 53) 6
theorem sc_Album_index : FnScope ["self", "name"] ["self", "name"] (defScope s_Album_index) := ⟨rfl, rfl, rfl, by decide +kernel, rfl, by decide +kernel, by decide +kernel⟩
def d_Album_index : He.DefD := ⟨("Album", some "index"), "index", "Album.index", defArgs s_Album_index, defBody s_Album_index, defScope s_Album_index, [], []⟩
abbrev s__is_place : Stmt := topS 27
theorem sc__is_place : FnScope ["value", "number"] ["value"] (defScope s__is_place) := ⟨rfl, rfl, rfl, by decide +kernel, rfl, by decide +kernel, by decide +kernel⟩
def d__is_place : He.DefD := ⟨("_is_place", none), "_is_place", "_is_place", defArgs s__is_place, defBody s__is_place, defScope s__is_place, [], []⟩
abbrev s_keeps : Stmt := topS 18
theorem sc_keeps : FnScope ["laying", "link", "one", "two"] ["laying", "link"] (defScope s_keeps) := ⟨rfl, rfl, rfl, by decide +kernel, rfl, by decide +kernel, by decide +kernel⟩
def d_keeps : He.DefD := ⟨("keeps", none), "keeps", "keeps", defArgs s_keeps, defBody s_keeps, defScope s_keeps, [], []⟩
abbrev s__places_all : Stmt := topS 28
theorem sc__places_all : FnScope ["album", "laying", "names", "name"] ["album", "laying"] (defScope s__places_all) := ⟨rfl, rfl, rfl, by decide +kernel, rfl, by decide +kernel, by decide +kernel⟩
def d__places_all : He.DefD := ⟨("_places_all", none), "_places_all", "_places_all", defArgs s__places_all, defBody s__places_all, defScope s__places_all, [], []⟩
abbrev s__places_group : Stmt := topS 29
theorem sc__places_group : FnScope ["laying", "names", "number", "name"] ["laying", "names", "number"] (defScope s__places_group) := ⟨rfl, rfl, rfl, by decide +kernel, rfl, by decide +kernel, by decide +kernel⟩
def d__places_group : He.DefD := ⟨("_places_group", none), "_places_group", "_places_group", defArgs s__places_group, defBody s__places_group, defScope s__places_group, [], []⟩
abbrev s__links_between : Stmt := topS 8
theorem sc__links_between : FnScope ["album", "names", "links", "number", "link"] ["album", "names"] (defScope s__links_between) := ⟨rfl, rfl, rfl, by decide +kernel, rfl, by decide +kernel, by decide +kernel⟩
def d__links_between : He.DefD := ⟨("_links_between", none), "_links_between", "_links_between", defArgs s__links_between, defBody s__links_between, defScope s__links_between, [], []⟩
abbrev s_groups : Stmt := topS 13
theorem sc_groups : FnScope ["album", "names", "links", "steps", "found", "placed", "name", "walks", "other"] ["album"] (defScope s_groups) := ⟨rfl, rfl, rfl, by decide +kernel, rfl, by decide +kernel, by decide +kernel⟩
def d_groups : He.DefD := ⟨("groups", none), "groups", "groups", defArgs s_groups, defBody s_groups, defScope s_groups, [], []⟩
abbrev s__is_laying : Stmt := topS 30
theorem sc__is_laying : FnScope ["album", "laying", "link", "names"] ["album", "laying"] (defScope s__is_laying) := ⟨rfl, rfl, rfl, by decide +kernel, rfl, by decide +kernel, by decide +kernel⟩
def d__is_laying : He.DefD := ⟨("_is_laying", none), "_is_laying", "_is_laying", defArgs s__is_laying, defBody s__is_laying, defScope s__is_laying, [], []⟩
abbrev s__is_paper : Stmt := topS 26
theorem sc__is_paper : FnScope ["value", "kind", "length"] ["value", "kind", "length"] (defScope s__is_paper) := ⟨rfl, rfl, rfl, by decide +kernel, rfl, by decide +kernel, by decide +kernel⟩
def d__is_paper : He.DefD := ⟨("_is_paper", none), "_is_paper", "_is_paper", defArgs s__is_paper, defBody s__is_paper, defScope s__is_paper, [], []⟩
abbrev s__ends : Stmt := topS 32
theorem sc__ends : FnScope ["link", "forward", "one", "two"] ["link", "forward"] (defScope s__ends) := ⟨rfl, rfl, rfl, by decide +kernel, rfl, by decide +kernel, by decide +kernel⟩
def d__ends : He.DefD := ⟨("_ends", none), "_ends", "_ends", defArgs s__ends, defBody s__ends, defScope s__ends, [], []⟩
abbrev s__is_step : Stmt := topS 31
theorem sc__is_step : FnScope ["value", "many"] ["value", "many"] (defScope s__is_step) := ⟨rfl, rfl, rfl, by decide +kernel, rfl, by decide +kernel, by decide +kernel⟩
def d__is_step : He.DefD := ⟨("_is_step", none), "_is_step", "_is_step", defArgs s__is_step, defBody s__is_step, defScope s__is_step, [], []⟩
abbrev s__is_ring : Stmt := topS 33
theorem sc__is_ring : FnScope ["album", "ring", "links", "ends", "number", "forward", "at", "step"] ["album", "ring"] (defScope s__is_ring) := ⟨rfl, rfl, rfl, by decide +kernel, rfl, by decide +kernel, by decide +kernel⟩
def d__is_ring : He.DefD := ⟨("_is_ring", none), "_is_ring", "_is_ring", defArgs s__is_ring, defBody s__is_ring, defScope s__is_ring, [], []⟩
abbrev s_ring_sum : Stmt := topS 17
theorem sc_ring_sum : FnScope ["album", "ring", "links", "place", "number", "forward"] ["album", "ring"] (defScope s_ring_sum) := ⟨rfl, rfl, rfl, by decide +kernel, rfl, by decide +kernel, by decide +kernel⟩
def d_ring_sum : He.DefD := ⟨("ring_sum", none), "ring_sum", "ring_sum", defArgs s_ring_sum, defBody s_ring_sum, defScope s_ring_sum, [], []⟩
abbrev s_judges : Stmt := topS 34
theorem sc_judges : FnScope ["album", "value"] ["album", "value"] (defScope s_judges) := ⟨rfl, rfl, rfl, by decide +kernel, rfl, by decide +kernel, by decide +kernel⟩
def d_judges : He.DefD := ⟨("judges", none), "judges", "judges", defArgs s_judges, defBody s_judges, defScope s_judges, [], []⟩
abbrev s__law_is_laying : Stmt := topS 70
theorem sc__law_is_laying : FnScope ["names", "links", "laying", "name", "link", "place", "first", "other"] ["names", "links", "laying"] (defScope s__law_is_laying) := ⟨rfl, rfl, rfl, by decide +kernel, rfl, by decide +kernel, by decide +kernel⟩
def d__law_is_laying : He.DefD := ⟨("_law_is_laying", none), "_law_is_laying", "_law_is_laying", defArgs s__law_is_laying, defBody s__law_is_laying, defScope s__law_is_laying, [], []⟩
abbrev s__law_changed : Stmt := topS 72
theorem sc__law_changed : FnScope ["pool", "names", "laying", "changed", "k", "name", "place"] ["pool", "names", "laying"] (defScope s__law_changed) := ⟨rfl, rfl, rfl, by decide +kernel, rfl, by decide +kernel, by decide +kernel⟩
def d__law_changed : He.DefD := ⟨("_law_changed", none), "_law_changed", "_law_changed", defArgs s__law_changed, defBody s__law_changed, defScope s__law_changed, [], []⟩
abbrev s__law_is_ring : Stmt := topS 71
theorem sc__law_is_ring : FnScope ["links", "ring", "total", "k", "before"] ["links", "ring"] (defScope s__law_is_ring) := ⟨rfl, rfl, rfl, by decide +kernel, rfl, by decide +kernel, by decide +kernel⟩
def d__law_is_ring : He.DefD := ⟨("_law_is_ring", none), "_law_is_ring", "_law_is_ring", defArgs s__law_is_ring, defBody s__law_is_ring, defScope s__law_is_ring, [], []⟩
abbrev s__law_names : Stmt := topS 59
theorem sc__law_names : FnScope ["pool", "count", "names", "k", "name"] ["pool", "count"] (defScope s__law_names) := ⟨rfl, rfl, rfl, by decide +kernel, rfl, by decide +kernel, by decide +kernel⟩
def d__law_names : He.DefD := ⟨("_law_names", none), "_law_names", "_law_names", defArgs s__law_names, defBody s__law_names, defScope s__law_names, [], []⟩
abbrev s__law_pool : Stmt := topS 57
theorem sc__law_pool : FnScope ["script"] ["script"] (defScope s__law_pool) := ⟨rfl, rfl, rfl, by decide +kernel, rfl, by decide +kernel, by decide +kernel⟩
def d__law_pool : He.DefD := ⟨("_law_pool", none), "_law_pool", "_law_pool", defArgs s__law_pool, defBody s__law_pool, defScope s__law_pool, [], []⟩
abbrev s__law_ring_like : Stmt := topS 73
theorem sc__law_ring_like : FnScope ["pool", "links", "ring", "choice", "at", "k", "step"] ["pool", "links", "ring"] (defScope s__law_ring_like) := ⟨rfl, rfl, rfl, by decide +kernel, rfl, by decide +kernel, by decide +kernel⟩
def d__law_ring_like : He.DefD := ⟨("_law_ring_like", none), "_law_ring_like", "_law_ring_like", defArgs s__law_ring_like, defBody s__law_ring_like, defScope s__law_ring_like, [], []⟩
abbrev s__law_turned : Stmt := topS 74
theorem sc__law_turned : FnScope ["row", "found", "key"] ["row"] (defScope s__law_turned) := ⟨rfl, rfl, rfl, by decide +kernel, rfl, by decide +kernel, by decide +kernel⟩
def d__law_turned : He.DefD := ⟨("_law_turned", none), "_law_turned", "_law_turned", defArgs s__law_turned, defBody s__law_turned, defScope s__law_turned, [], []⟩
abbrev s__law_ways : Stmt := topS 67
theorem sc__law_ways : FnScope ["links", "name", "ways", "places", "order", "at", "step"] ["links", "name"] (defScope s__law_ways) := ⟨rfl, rfl, rfl, by decide +kernel, rfl, by decide +kernel, by decide +kernel⟩
def d__law_ways : He.DefD := ⟨("_law_ways", none), "_law_ways", "_law_ways", defArgs s__law_ways, defBody s__law_ways, defScope s__law_ways, [], []⟩
abbrev s_joined : Stmt := topS 15
theorem sc_joined : FnScope ["names", "answers", "rings", "places", "_", "laying", "kind", "told", "name"] ["names", "answers"] (defScope s_joined) := ⟨rfl, rfl, rfl, by decide +kernel, rfl, by decide +kernel, by decide +kernel⟩
def d_joined : He.DefD := ⟨("joined", none), "joined", "joined", defArgs s_joined, defBody s_joined, defScope s_joined, [], []⟩
abbrev s__backwards : Stmt := topS 11
theorem sc__backwards : FnScope ["way", "number", "forward"] ["way"] (defScope s__backwards) := ⟨rfl, rfl, rfl, by decide +kernel, rfl, by decide +kernel, by decide +kernel⟩
def d__backwards : He.DefD := ⟨("_backwards", none), "_backwards", "_backwards", defArgs s__backwards, defBody s__backwards, defScope s__backwards, [], []⟩
abbrev s__rings_from : Stmt := topS 12
theorem sc__rings_from : FnScope ["start", "links", "steps", "walks", "rings", "number", "link", "way", "place", "other_way", "other_place"] ["start", "links", "steps"] (defScope s__rings_from) := ⟨rfl, rfl, rfl, by decide +kernel, rfl, by decide +kernel, by decide +kernel⟩
def d__rings_from : He.DefD := ⟨("_rings_from", none), "_rings_from", "_rings_from", defArgs s__rings_from, defBody s__rings_from, defScope s__rings_from, [], []⟩
abbrev s_lay_group : Stmt := topS 14
theorem sc_lay_group : FnScope ["album", "names", "ordered", "links", "steps", "rings", "name", "first", "number", "walks"] ["album", "names"] (defScope s_lay_group) := ⟨rfl, rfl, rfl, by decide +kernel, rfl, by decide +kernel, by decide +kernel⟩
def d_lay_group : He.DefD := ⟨("lay_group", none), "lay_group", "lay_group", defArgs s_lay_group, defBody s_lay_group, defScope s_lay_group, [], []⟩
abbrev s_lay : Stmt := topS 16
theorem sc_lay : FnScope ["album", "names"] ["album"] (defScope s_lay) := ⟨rfl, rfl, rfl, by decide +kernel, rfl, by decide +kernel, by decide +kernel⟩
def d_lay : He.DefD := ⟨("lay", none), "lay", "lay", defArgs s_lay, defBody s_lay, defScope s_lay, [], []⟩
abbrev s_law : Stmt := topS 75
theorem sc_law : FnScope ["script", "pool", "names", "links", "album", "told", "ring", "laying", "k", "less", "more", "values", "flat", "part", "value", "name", "changed", "due", "first", "other"] ["script"] (defScope s_law) := ⟨rfl, rfl, rfl, by decide +kernel, rfl, by decide +kernel, by decide +kernel⟩
def d_law : He.DefD := ⟨("law", none), "law", "law", defArgs s_law, defBody s_law, defScope s_law, [], []⟩
def fn : List He.DefD := [d_is_whole, d_is_within, d_is_reading, d__is_row, d__is_rows, d_is_name, d_is_tuple_of, d_is_view, d_is_link, d_Album___init__, d_Album_links, d_Album_names, d_Unknown___init__, d_Album__check_known, d_Misused___init__, d_Oversized___init__, d_Album_add_link, d_Clashing___init__, d_Album_add_view, d__law_wide, d__law_take, d__law_name, d__law_links, d__law_reading, d__law_rows, d__law_album, d__law_steps, d__steps_at, d__place_behind, d__walks_from, d__law_group, d__law_moved, d_Album_index, d__is_place, d_keeps, d__places_all, d__places_group, d__links_between, d_groups, d__is_laying, d__is_paper, d__ends, d__is_step, d__is_ring, d_ring_sum, d_judges, d__law_is_laying, d__law_changed, d__law_is_ring, d__law_names, d__law_pool, d__law_ring_like, d__law_turned, d__law_ways, d_joined, d__backwards, d__rings_from, d_lay_group, d_lay, d_law]
def fa : List He.Fa := [He.Fa.free "isinstance", He.Fa.free "bool", He.Fa.free "int", He.Fa.free "len", He.Fa.free "tuple", He.Fa.free "enumerate", He.Fa.cls "Album", He.Fa.meth "Album" "links", He.Fa.glo "ORIGIN", He.Fa.free "reversed", He.Fa.meth "Album" "names", He.Fa.free "min", He.Fa.meth "Album" "index", He.Fa.free "str", He.Fa.free "all", He.Fa.free "dict", He.Fa.free "range", He.Fa.int "LONGEST_NAME" (8), He.Fa.str "DIGITS" "0123456789", He.Fa.str "LETTERS" "abcdefghijklmnopqrstuvwxyz", He.Fa.int "GREATEST_READING" (999), He.Fa.int "MOST_COLUMNS" (12), He.Fa.int "MOST_ROWS" (12), He.Fa.int "FARTHEST" (99), He.Fa.int "GREATEST_LIGHT" (999), He.Fa.glo "Misused", He.Fa.glo "Clashing", He.Fa.int "MOST_VIEWS" (30), He.Fa.glo "Oversized", He.Fa.meth "Album" "_check_known", He.Fa.int "MOST_LINKS" (60), He.Fa.free "list", He.Fa.glo "Unknown", He.Fa.free "abs", He.Fa.mkr "Album", He.Fa.glo "Album", He.Fa.meth "Album" "add_view", He.Fa.meth "Album" "add_link", He.Fa.free "sorted", He.Fa.noat "Album" "_views", He.Fa.noat "Album" "_links", He.Fa.glo "is_whole", He.Fa.glo "is_within", He.Fa.glo "is_reading", He.Fa.glo "_is_row", He.Fa.glo "_is_rows", He.Fa.glo "is_name", He.Fa.glo "is_tuple_of", He.Fa.glo "is_view", He.Fa.glo "is_link", He.Fa.glo "_law_wide", He.Fa.glo "_law_take", He.Fa.glo "_law_name", He.Fa.glo "_law_links", He.Fa.glo "_law_reading", He.Fa.glo "_law_rows", He.Fa.glo "_law_album", He.Fa.glo "_law_steps", He.Fa.glo "_steps_at", He.Fa.glo "_place_behind", He.Fa.glo "_walks_from", He.Fa.glo "_law_group", He.Fa.glo "_law_moved", He.Fa.glo "_is_place", He.Fa.glo "keeps", He.Fa.glo "_places_all", He.Fa.glo "_places_group", He.Fa.glo "_links_between", He.Fa.glo "groups", He.Fa.glo "_is_laying", He.Fa.glo "_is_paper", He.Fa.glo "_ends", He.Fa.glo "_is_step", He.Fa.glo "_is_ring", He.Fa.glo "ring_sum", He.Fa.glo "judges", He.Fa.glo "_law_is_laying", He.Fa.glo "_law_changed", He.Fa.glo "_law_is_ring", He.Fa.glo "_law_names", He.Fa.glo "_law_pool", He.Fa.glo "_law_ring_like", He.Fa.glo "_law_turned", He.Fa.glo "_law_ways", He.Fa.glo "joined", He.Fa.glo "_backwards", He.Fa.glo "_rings_from", He.Fa.glo "lay_group", He.Fa.glo "lay", He.Fa.glo "law"]
def bxs (K : PySem.W.Frag) : List Bool := [exB K (He.ga K "Clashing") "name", exB K (He.ga K "Misused") "why", exB K (He.ga K "Oversized") "limit", exB K (He.ga K "Unknown") "name", Y.tupB K (He.ga K "ORIGIN") [(0), (0), (0)]]
def bx (K : PySem.W.Frag) : Bool := (bxs K).all id
set_option maxHeartbeats 0
abbrev R : PySem.W.OpenRow := PySem.W.OpenLaw.row PySem.Challenge.rw_laidviews_k35_papers_of_layings
abbrev hk : PySem.W.Hook := He.hookX 4 fa fn [] [] bx
def ob (s : PySem.W.SharedT) : He.AlX := He.obsX 4 fa fn [] [] bx (HandSHeadRun.getT s)
theorem ob_eq (s : PySem.W.SharedT) : ob s = hk.obs s.abs := He.obsX_eq (HandSHeadRun.getT_eq s)
def loose : List Str := (["_wall", "is_whole", "is_within", "is_tuple_of", "ORIGIN", "_place_behind", "_links_between", "_steps_at", "_walks_from", "_backwards", "_rings_from", "groups", "lay_group", "joined", "lay"] : List Str) ++ (["ring_sum", "keeps", "Refused", "Unknown", "Clashing", "Oversized", "Misused", "_is_paper", "_is_place", "_places_all", "_places_group", "_is_laying", "_is_step", "_ends", "_is_ring"] : List Str) ++ (["judges", "LETTERS", "DIGITS", "LONGEST_NAME", "GREATEST_READING", "MOST_ROWS", "MOST_COLUMNS", "is_name", "is_reading", "_is_row", "_is_rows", "is_view", "MOST_VIEWS", "MOST_LINKS", "FARTHEST"] : List Str) ++ (["GREATEST_LIGHT", "is_link", "Album", "_law_wide", "_law_take", "_law_pool", "_law_name", "_law_names", "_law_reading", "_law_rows", "_law_links", "_law_album", "_law_steps", "_law_group", "_law_moved"] : List Str) ++ (["_law_ways", "_law_ring", "_law_due", "_law_is_laying", "_law_is_ring", "_law_changed", "_law_ring_like", "_law_turned"] : List Str)
theorem run (w : World) : HandSHeadRun.RunEq R (PySem.W.view R.prog [75]) hk ob 6000 loose w := by
  intro os
  kernel_rfl
set_option maxHeartbeats 4000000
end A

namespace Y
open PySem PySem.Spec PyProof.Rows L2

/-! ### what is known, and the heap -/
abbrev Ex (G H : Hp) : Prop := ∀ a o, G a = some o → H a = some o
theorem Ex.refl (H : Hp) : Ex H H := fun _ _ h => h
theorem Ex.trans {A B C : Hp} (a : Ex A B) (b : Ex B C) : Ex A C := fun x o h => b x o (a x o h)
theorem Ex.new {H : Hp} {p : Addr} {o : HO} (h : H p = none) : Ex H (upd H p o) := fun a u e => by
  rw [upd_ne (ne_of_none e h)]; exact e
theorem Ex.both {G H : Hp} {p : Addr} {o : HO} (e : Ex G H) : Ex (upd G p o) (upd H p o) := fun a u h => by
  by_cases q : a = p
  · subst q; rw [upd_same] at h ⊢; exact h
  · rw [upd_ne q] at h ⊢; exact e a u h
theorem Ex.out {G H : Hp} {p : Addr} {o : HO} (e : Ex G H) (h : G p = none) : Ex G (upd H p o) := fun a u q => by
  rw [upd_ne (ne_of_none q h)]; exact e a u q
theorem Ex.put {G H : Hp} {p : Addr} {o : HO} (e : Ex G H) (h : H p = some o) : Ex (upd G p o) H := fun a u q => by
  by_cases z : a = p
  · subst z; rw [upd_same] at q; rw [h]; exact q
  · rw [upd_ne z] at q; exact e a u q
theorem Ex.free {G H : Hp} (e : Ex G H) {p : Addr} (h : H p = none) : G p = none := by
  cases q : G p with
  | none => rfl
  | some o => rw [e p o q] at h; cases h
theorem Ex.seqL {K : PySem.W.Frag} {G H : Hp} (e : Ex G H) {a : Addr} {xs : List V} (h : SqL K G a xs) : SqL K H a xs := by
  rcases h with (h | ⟨o, h⟩) | h
  · exact .inl (.inl (e _ _ h))
  · exact .inl (.inr ⟨o, e _ _ h⟩)
  · exact .inr h
theorem Ex.seqT {K : PySem.W.Frag} {G H : Hp} (e : Ex G H) {a : Addr} {xs : List V} (h : SqT K G a xs) : SqT K H a xs := by
  rcases h with (h | ⟨o, h⟩) | h
  · exact .inl (.inl (e _ _ h))
  · exact .inl (.inr ⟨o, e _ _ h⟩)
  · exact .inr h

/-- a thing that may change: no tuple -/
def Own (H : Hp) (b : Addr) : Prop := ∃ o, H b = some o ∧ ∀ xs, o ≠ .tup xs
/-- a step: known part and heap, before and after; M: the cells that may change. What may change stays unknown; tuples may become known at any time. -/
structure Nx (M : List Addr) (G H G' H' : Hp) : Prop where
  gg : Ex G G'
  gh : Ex G' H'
  old : ∀ b, G b = none → Own H b → G' b = none
  live : ∀ b, H b ≠ none → H' b ≠ none
  fr : ∀ b o, b ∉ M → H b = some o → H' b = some o
  nt : ∀ b, Own H b → Own H' b
section
variable {M M' : List Addr} {G H G' H' G1 H1 G2 H2 : Hp} {p : Addr} {o : HO}
theorem Own.live (h : Own H p) : H p ≠ none := by
  obtain ⟨o, e, _⟩ := h
  rw [e]; exact fun z => nomatch z
theorem Own.ne (h : Own H p) {b : Addr} (hb : H b = none) : p ≠ b := fun z => h.live (by rw [z]; exact hb)
theorem Nx.refl (e : Ex G H) : Nx M G H G H := ⟨Ex.refl _, e, fun _ h _ => h, fun _ h => h, fun _ _ _ h => h, fun _ h => h⟩
theorem Nx.trans (a : Nx M G H G1 H1) (b : Nx M G1 H1 G2 H2) : Nx M G H G2 H2 :=
  ⟨a.gg.trans b.gg, b.gh, fun c h1 h2 => b.old c (a.old c h1 h2) (a.nt c h2), fun c h => b.live c (a.live c h), fun c o hc h => b.fr c o hc (a.fr c o hc h), fun c h => b.nt c (a.nt c h)⟩
theorem Nx.mono (a : Nx M G H G' H') (h : ∀ x, x ∈ M → x ∈ M') : Nx M' G H G' H' := ⟨a.gg, a.gh, a.old, a.live, fun c o hc q => a.fr c o (fun z => hc (h c z)) q, a.nt⟩
theorem Nx.pure (a : Nx [] G H G' H') : Nx M G H G' H' := a.mono fun _ z => absurd z (by simp)
theorem live_new (h : H p = none) : ∀ b, H b ≠ none → (upd H p o) b ≠ none := fun b q => by
  have z : b ≠ p := fun z => q (by rw [z]; exact h)
  rw [upd_ne z]; exact q
theorem own_new (h : H p = none) : ∀ b, Own H b → Own (upd H p o) b := fun b ⟨u, e, k⟩ => ⟨u, by rw [upd_ne (ne_of_none e h)]; exact e, k⟩
/-- a new object that is known from then on -/
theorem Nx.new (e : Ex G H) (h : H p = none) : Nx [] G H (upd G p o) (upd H p o) :=
  ⟨Ex.new (e.free h), e.both, fun b q1 q2 => by rw [upd_ne (q2.ne h)]; exact q1, live_new h, fun c u _ q => by rw [upd_ne (ne_of_none q h)]; exact q, own_new h⟩
/-- a new object that may change -/
theorem Nx.own (e : Ex G H) (h : H p = none) : Nx [] G H G (upd H p o) :=
  ⟨Ex.refl _, e.out (e.free h), fun _ q _ => q, live_new h, fun c u _ q => by rw [upd_ne (ne_of_none q h)]; exact q, own_new h⟩
/-- a change -/
theorem Nx.set (e : Ex G H) (h : G p = none) (hp : p ∈ M) (ho : ∀ xs, o ≠ .tup xs := by exact fun _ z => nomatch z) : Nx M G H G (upd H p o) :=
  ⟨Ex.refl _, e.out h, fun _ q _ => q, fun b q => by
    by_cases z : b = p
    · subst z; rw [upd_same]; exact fun w => nomatch w
    · rw [upd_ne z]; exact q, fun c u hc q => by rw [upd_ne (fun z => hc (by rw [z]; exact hp))]; exact q, fun b ⟨u, e1, k⟩ => by
    by_cases z : b = p
    · subst z; exact ⟨o, upd_same, ho⟩
    · exact ⟨u, by rw [upd_ne z]; exact e1, k⟩⟩
/-- a cell that was new need not be told -/
theorem Nx.drop (a : Nx (p :: M) G H G' H') (h : H p = none) : Nx M G H G' H' := ⟨a.gg, a.gh, a.old, a.live, fun c u hc q => a.fr c u (fun z => by
  rcases List.mem_cons.mp z with z | z
  · rw [z, h] at q; cases q
  · exact hc z) q, a.nt⟩
/-- what stands is known from now on -/
theorem Nx.know (a : Nx M G H G' H') (h : H p = none) (q : H' p = some o) (g : G' p = none) : Nx M G H (upd G' p o) H' :=
  ⟨a.gg.trans (Ex.new g), a.gh.put q, fun b h1 h2 => by rw [upd_ne (h2.ne h)]; exact a.old b h1 h2, a.live, a.fr, a.nt⟩
/-- a tuple is known from now on -/
theorem Nx.knowT {xs : List V} (a : Nx M G H G' H') (q : H' p = some (.tup xs)) (g : G' p = none) : Nx M G H (upd G' p (.tup xs)) H' :=
  ⟨a.gg.trans (Ex.new g), a.gh.put q, fun b h1 h2 => by
    have z : b ≠ p := fun z => by
      obtain ⟨u, e, k⟩ := a.nt b h2
      rw [z, q] at e
      cases e
      exact k _ rfl
    rw [upd_ne z]; exact a.old b h1 h2, a.live, a.fr, a.nt⟩
theorem Nx.fresh (a : Nx M G H G' H') (h : H' p = none) : H p = none := by
  cases q : H p with
  | none => rfl
  | some o => exact absurd h (a.live p (by rw [q]; exact fun z => nomatch z))
end

/-! ### data -/
section
variable {K : PySem.W.Frag} {G G' H : Hp} {v : V} {vs ws : List V} {d : PyData} {ds es : List PyData}
mutual
theorem dp_mono (e : Ex G G') : ∀ {v : V} {d : PyData}, Dp K G v d → Dp K G' v d
  | _, _, .non => .non
  | _, _, .bl b => .bl b
  | _, _, .int i => .int i
  | _, _, .str x => .str x
  | _, _, .lst h a => .lst (e.seqL h) (dpAll_mono e a)
  | _, _, .tup h a => .tup (e.seqT h) (dpAll_mono e a)
theorem dpAll_mono (e : Ex G G') : ∀ {vs : List V} {ds : List PyData}, DpAll K G vs ds → DpAll K G' vs ds
  | _, _, .nil => .nil
  | _, _, .cons h t => .cons (dp_mono e h) (dpAll_mono e t)
end
theorem dpAll_len : ∀ {vs : List V} {ds : List PyData}, DpAll K G vs ds → vs.length = ds.length
  | _, _, .nil => rfl
  | _, _, .cons _ t => congrArg (· + 1) (dpAll_len t)
theorem dpAll_get : ∀ {vs : List V} {ds : List PyData} {i : Nat} {d : PyData}, DpAll K G vs ds → ds[i]? = some d → ∃ v, vs[i]? = some v ∧ Dp K G v d
  | _, _, 0, _, .cons h _, e => ⟨_, rfl, by cases (Option.some.inj e); exact h⟩
  | _, _, i + 1, _, .cons _ t, e => dpAll_get (i := i) t e
  | _, _, i, _, .nil, e => by simp at e
theorem dpAll_got : ∀ {vs : List V} {ds : List PyData} {i : Nat} {v : V}, DpAll K G vs ds → vs[i]? = some v → ∃ d, ds[i]? = some d ∧ Dp K G v d
  | _, _, 0, _, .cons h _, e => ⟨_, rfl, by cases (Option.some.inj e); exact h⟩
  | _, _, i + 1, _, .cons _ t, e => dpAll_got (i := i) t e
  | _, _, i, _, .nil, e => by simp at e
theorem dpAll_app : ∀ {vs ws : List V} {ds es : List PyData}, DpAll K G vs ds → DpAll K G ws es → DpAll K G (vs ++ ws) (ds ++ es)
  | _, _, _, _, .nil, h => h
  | _, _, _, _, .cons a t, h => .cons a (dpAll_app t h)
theorem dpAll_snoc (h : DpAll K G vs ds) (hv : Dp K G v d) : DpAll K G (vs ++ [v]) (ds ++ [d]) := dpAll_app h (.cons hv .nil)
theorem dpAll_take : ∀ {vs : List V} {ds : List PyData} (n : Nat), DpAll K G vs ds → DpAll K G (vs.take n) (ds.take n)
  | _, _, 0, _ => .nil
  | _, _, _ + 1, .nil => .nil
  | _, _, n + 1, .cons a t => .cons a (dpAll_take n t)
theorem dpAll_drop : ∀ {vs : List V} {ds : List PyData} (n : Nat), DpAll K G vs ds → DpAll K G (vs.drop n) (ds.drop n)
  | _, _, 0, h => h
  | _, _, _ + 1, .nil => .nil
  | _, _, n + 1, .cons _ t => dpAll_drop n t
theorem dp_int {i : Int} (h : Dp K G v (.int i)) : v = .int i := by cases h; rfl
theorem dp_bl {b : Bool} (h : Dp K G v (.bool b)) : v = .bl b := by cases h; rfl
theorem dp_str {x : Str} (h : Dp K G v (.str x)) : v = .str x := by cases h; rfl
theorem dp_non (h : Dp K G v .none) : v = .non := by cases h; rfl
theorem dp_tup (h : Dp K G v (.tuple ds)) : ∃ a vs, v = .ref a ∧ SqT K G a vs ∧ DpAll K G vs ds := by cases h; exact ⟨_, _, rfl, ‹_›, ‹_›⟩
theorem dp_lst (h : Dp K G v (.list ds)) : ∃ a vs, v = .ref a ∧ SqL K G a vs ∧ DpAll K G vs ds := by cases h; exact ⟨_, _, rfl, ‹_›, ‹_›⟩
theorem dp_nodict {kvs : List (PyData × PyData)} (h : Dp K G v (.dict kvs)) : False := by cases h
theorem dpAll_ints : ∀ ns : List Int, DpAll K G (ns.map V.int) (ns.map PyData.int)
  | [] => .nil
  | n :: r => .cons (.int n) (dpAll_ints r)
theorem dpAll_ints_inv : ∀ {ns : List Int} {vs : List V}, DpAll K G vs (ns.map PyData.int) → vs = ns.map V.int
  | [], _, h => by cases h; rfl
  | n :: r, _, h => by
    cases h with
    | cons a t =>
      cases a
      rw [dpAll_ints_inv t]; rfl
theorem dpAll_bools_inv : ∀ {ns : List Bool} {vs : List V}, DpAll K G vs (ns.map PyData.bool) → vs = ns.map V.bl
  | [], _, h => by cases h; rfl
  | n :: r, _, h => by
    cases h with
    | cons a t =>
      cases a
      rw [dpAll_bools_inv t]; rfl
/-- the type's name -/
def tyN : PyData → String
  | .none => "NoneType"
  | .bool _ => "bool"
  | .int _ => "int"
  | .str _ => "str"
  | .list _ => "list"
  | .tuple _ => "tuple"
  | .dict _ => "dict"
/-- isinstance with a built-in type -/
def isA (d : PyData) (n : String) : Bool := (kitB (tyN d) n).getD false
theorem ty_dp (h : Dp K H v d) : TyX K H v (.type (tyN d)) := by
  cases h with
  | non => exact .base .non
  | bl b => exact .base (.bl b)
  | int i => exact .base (.int i)
  | str x => exact .base (.str x)
  | lst hs _ =>
    rcases hs with (hs | ⟨o, hs⟩) | ⟨o, its, n, hs, hc, _⟩
    · exact .base (.lst hs)
    · exact .base (.frz hs)
    · exact .kList hs hc
  | tup hs _ =>
    rcases hs with (hs | ⟨o, hs⟩) | ⟨o, its, n, hs, hc, _⟩
    · exact .base (.tup hs)
    · exact .fTuple hs
    · exact .kTuple hs hc
end
end Y

namespace Y
open PySem PySem.Spec PyProof.Rows L2
section
variable {K : PySem.W.Frag} {σ : L2.St} {G H H' : Hp} {Q : VK} {D : Ends} {v x y : V} {d e : PyData} {ds es : List PyData} {ta tb te tc : TE} {ts tu tw : TS} {tt uu : TT} {ar : TA} {QA : List V → Hp → Prop} {QT : Bool → Hp → Prop} {i j : Int} {n : Nat}
/-! names, constants, statements -/
theorem g_var {k : Nat} (h : σ[k]? = some (some v)) (q : Q v H) : tVar k σ H Q := ⟨v, h, q⟩
theorem g_c (q : Q v H) : tC v σ H Q := q
theorem g_seq (q : ts { D with nx := tu D } σ H) : tSeq ts tu D σ H := q
theorem g_asg {g : TG} (q : te σ H fun x H1 => g x σ H1 D.nx) : tAsg te g D σ H := q
theorem g_name {k : Nat} {R : L2.St → Hp → Prop} (q : R (σ.set k (some v)) H) : gName k v σ H R := q
theorem g_ret (q : te σ H D.rt) : tRet te D σ H := q
theorem g_retN (q : D.rt .non H) : tRetN D σ H := q
theorem g_drop (q : te σ H fun _ H1 => D.nx σ H1) : tDrop te D σ H := q
theorem g_next (q : D.nx σ H) : tNext D σ H := q
theorem g_ifS (q : tt σ H fun b H1 => if b = true then ts D σ H1 else tu D σ H1) : tIfS tt ts tu D σ H := q
theorem g_ifE (q : tt σ H fun b H1 => if b = true then ta σ H1 Q else tb σ H1 Q) : tIf tt ta tb σ H Q := q
theorem g_nil (q : QA [] H) : tNil σ H QA := q
theorem g_cons (q : ta σ H fun x H1 => ar σ H1 fun xs H2 => QA (x :: xs) H2) : tCons ta ar σ H QA := q
theorem g_op {r : R2} (q : ta σ H fun x H1 => tb σ H1 fun y H2 => r x y H2 Q) : tOp r ta tb σ H Q := q
theorem g_un {r : V → Hp → VK → Prop} (q : ta σ H fun x H1 => r x H1 Q) : tUn r ta σ H Q := q
theorem g_cb {r : List V → Hp → VK → Prop} (q : ar σ H fun vs H1 => r vs H1 Q) : tCB r ar σ H Q := q
theorem g_call {sp : Sp} {dvs : List V} {E : XK} (q : ar σ H fun vs H1 => sp (vs ++ dvs) H1 Q E) : tCall sp dvs E ar σ H Q := q
/-! tests -/
theorem g_test (q : te σ H fun x H' => ∃ k, x = .bl k ∧ QT k H') : tTest te σ H QT := q
theorem g_tB (q : te σ H fun x H' => ∃ k, x = .bl k ∧ QT k H') : tB te σ H QT := q
theorem g_isbl {b : Bool} {P : Bool → Prop} (q : P b) : ∃ k, V.bl b = .bl k ∧ P k := ⟨b, rfl, q⟩
theorem g_and (q : tt σ H fun c H1 => if c = true then uu σ H1 QT else QT false H1) : tAnd tt uu σ H QT := q
theorem g_or (q : tt σ H fun c H1 => if c = true then QT true H1 else uu σ H1 QT) : tOr tt uu σ H QT := q
theorem g_not (q : tt σ H fun c H1 => QT (!c) H1) : tNot tt σ H QT := q
theorem g_andV (q : ta σ H fun x H1 => ∃ c, x = .bl c ∧ if c = true then tb σ H1 Q else Q (.bl false) H1) : tAndV ta tb σ H Q := q
theorem g_orV (q : ta σ H fun x H1 => ∃ c, x = .bl c ∧ if c = true then Q (.bl true) H1 else tb σ H1 Q) : tOrV ta tb σ H Q := q
theorem g_notV (q : ta σ H fun x H1 => ∃ c, x = .bl c ∧ Q (.bl (!c)) H1) : tNotV ta σ H Q := q
theorem g_chain {r r' : R2} (q : ta σ H fun x H1 => tb σ H1 fun y H2 => r x y H2 fun z H3 => ∃ k, z = .bl k ∧ (if k = true then tc σ H3 fun w' H4 => r' y w' H4 Q else Q (.bl false) H3)) : tChain r r' ta tb tc σ H Q := q
theorem g_isN (q : ta σ H fun x H1 => Q (.bl (decide (x = .non))) H1) : tIsN ta σ H Q := q
theorem g_notN (q : ta σ H fun x H1 => Q (.bl (!decide (x = .non))) H1) : tNotN ta σ H Q := q
theorem g_I0 {g : Int → Int → V} (q : Q (g i j) H) : rI0 g (.int i) (.int j) H Q := ⟨i, j, rfl, rfl, q⟩
theorem g_I {C : Int → Int → Prop} {g : Int → Int → V} (c : C i j) (q : Q (g i j) H) : rI C g (.int i) (.int j) H Q := ⟨i, j, rfl, rfl, c, q⟩
theorem g_U {g : Int → V} (q : Q (g i) H) : rU g (.int i) H Q := ⟨i, rfl, q⟩
theorem g_eq (h : scal x y = true) (q : Q (.bl (decide (x = y))) H) : rEq x y H Q := ⟨h, q⟩
theorem g_ne (h : scal x y = true) (q : Q (.bl (!decide (x = y))) H) : rNe x y H Q := ⟨h, q⟩
theorem g_eqII (q : Q (.bl (decide (i = j))) H) : rEq (.int i) (.int j) H Q := ⟨rfl, by
  have z : decide (V.int i = V.int j) = decide (i = j) := by simp
  rw [z]; exact q⟩
theorem g_eqSS {a b : Str} (q : Q (.bl (decide (a = b))) H) : rEq (.str a) (.str b) H Q := ⟨rfl, by
  have z : decide (V.str a = V.str b) = decide (a = b) := by simp
  rw [z]; exact q⟩
theorem g_neII (q : Q (.bl (!decide (i = j))) H) : rNe (.int i) (.int j) H Q := ⟨rfl, by
  have z : decide (V.int i = V.int j) = decide (i = j) := by simp
  rw [z]; exact q⟩
theorem g_neSS {a b : Str} (q : Q (.bl (!decide (a = b))) H) : rNe (.str a) (.str b) H Q := ⟨rfl, by
  have z : decide (V.str a = V.str b) = decide (a = b) := by simp
  rw [z]; exact q⟩
/-! over data -/
theorem g_isi {nm : String} {b : Bool} (e : Ex G H) (h : Dp K G x d) (hb : kitB (tyN d) nm = some b) (q : Q (.bl b) H) : rIsi K [x, .ty nm] H Q :=
  ⟨x, .ty nm, _, _, b, rfl, .ty nm, ty_dp (dp_mono e h), kit_ty hb, q⟩
theorem g_eqD (e : Ex G H) (hx : Dp K G x d) (hy : Dp K G y d') (s1 : SeqAt.shaped d = true) (s2 : SeqAt.shaped d' = true) (q : Q (.bl (PyData.eqv d d')) H) : rEqD K x y H Q :=
  ⟨d, d', dp_mono e hx, dp_mono e hy, s1, s2, q⟩
theorem g_neD (e : Ex G H) (hx : Dp K G x d) (hy : Dp K G y d') (s1 : SeqAt.shaped d = true) (s2 : SeqAt.shaped d' = true) (q : Q (.bl (!PyData.eqv d d')) H) : rNeD K x y H Q :=
  ⟨d, d', dp_mono e hx, dp_mono e hy, s1, s2, q⟩
theorem g_ixT {k : Nat} (e : Ex G H) (h : Dp K G x (.tuple ds)) (hi : ds[k]? = some d) (hj : i = (k : Int)) (q : ∀ v, Dp K G v d → Q v H) : rIxT K x (.int i) H Q := by
  obtain ⟨a, vs, rfl, hs, hd⟩ := dp_tup h
  obtain ⟨v, hv, hD⟩ := dpAll_get hd hi
  subst hj
  exact ⟨a, vs, _, v, rfl, rfl, e.seqT hs, atI_nat hv, q v hD⟩
theorem g_ixL {k : Nat} (e : Ex G H) (h : Dp K G x (.list ds)) (hi : ds[k]? = some d) (hj : i = (k : Int)) (q : ∀ v, Dp K G v d → Q v H) : rIxL K x (.int i) H Q := by
  obtain ⟨a, vs, rfl, hs, hd⟩ := dp_lst h
  obtain ⟨v, hv, hD⟩ := dpAll_get hd hi
  subst hj
  exact ⟨a, vs, _, v, rfl, rfl, e.seqL hs, atI_nat hv, q v hD⟩
end
end Y
namespace Y
open PySem PySem.Spec PyProof.Rows L2
theorem g_dec {p A B : Prop} {d : Decidable p} {i : Decidable (decide p = true)} (h1 : p → A) (h2 : ¬ p → B) : @ite Prop (decide p = true) i A B := by
  by_cases h : p
  · rw [if_pos (decide_eq_true h)]; exact h1 h
  · rw [if_neg (by simp [h])]; exact h2 h
theorem g_ndec {p A B : Prop} {d : Decidable p} {i : Decidable ((!decide p) = true)} (h1 : ¬ p → A) (h2 : p → B) : @ite Prop ((!decide p) = true) i A B := by
  by_cases h : p
  · rw [if_neg (by simp [h])]; exact h2 h
  · rw [if_pos (by simp [h])]; exact h1 h
theorem g_iT {A B : Prop} {i : Decidable (true = true)} (h : A) : @ite Prop (true = true) i A B := by rw [if_pos rfl]; exact h
theorem g_iF {A B : Prop} {i : Decidable (false = true)} (h : B) : @ite Prop (false = true) i A B := by rw [if_neg (by simp)]; exact h
theorem g_inT {A B : Prop} {i : Decidable ((!true) = true)} (h : B) : @ite Prop ((!true) = true) i A B := by rw [if_neg (by simp)]; exact h
theorem g_inF {A B : Prop} {i : Decidable ((!false) = true)} (h : A) : @ite Prop ((!false) = true) i A B := by rw [if_pos (by simp)]; exact h
theorem g_bool {b : Bool} {A B : Prop} {i : Decidable (b = true)} (h1 : b = true → A) (h2 : b = false → B) : @ite Prop (b = true) i A B := by
  cases b with
  | true => rw [if_pos rfl]; exact h1 rfl
  | false => rw [if_neg (by simp)]; exact h2 rfl
theorem q_bl {Q : VK} {H : Hp} {a b : Bool} (q : Q (.bl a) H) (e : a = b) : Q (.bl b) H := e ▸ q
theorem q_int {Q : VK} {H : Hp} {a b : Int} (q : Q (.int a) H) (e : a = b) : Q (.int b) H := e ▸ q
theorem q_str {Q : VK} {H : Hp} {a b : Str} (q : Q (.str a) H) (e : a = b) : Q (.str b) H := e ▸ q
end Y

namespace Y
open PySem PySem.Spec PyProof.Rows L2
/-! ### what the head tells, by names -/
def fdOf (K : PySem.W.Frag) (a : Addr) : FuncData := match K.lookup a with
  | some ⟨_, _, .func fd, _⟩ => fd
  | _ => PySem.W.fnOf "" "" (defArgs (.Pass ⟨0, 0, 0, 0⟩)) [] (defScope (.Pass ⟨0, 0, 0, 0⟩)) .none .none .none .none none .none .none
structure Tx (fa : List He.Fa) (fn : List He.DefD) (bx : PySem.W.Frag → Bool) (K : PySem.W.Frag) (mg : Str → Option Value) : Prop where
  says : He.SaysD fa fn K
  more : bx K = true
  ex : ∃ h : Heap, K.In h ∧ h.Ns mainGlobals mg
section
variable {fa : List He.Fa} {fl : List He.DefD} {bx : PySem.W.Frag → Bool} {K : PySem.W.Frag} {mg : Str → Option Value}
theorem Tx.fn (T : Tx fa fl bx K mg) (i : Nat) {d : He.DefD} (h : fl[i]? = some d) : FunD K d.name d.qual d.params d.body d.scope (d.dvs K) (d.kws K) (He.fAd K d.at_) (fdOf K (He.fAd K d.at_)) := by
  obtain ⟨fd, F⟩ := T.says.def_ i h
  have e : fdOf K (He.fAd K d.at_) = fd := by
    obtain ⟨oc, od, dV, kV, doc, pm, an, cdv, ct, osl, rfl, lk, _⟩ := F.ex
    unfold fdOf
    rw [lk]
  rw [e]
  exact F
theorem Tx.glo (T : Tx fa fl bx K mg) (i : Nat) {x : Str} (h : fa[i]? = some (.glo x) := by rfl) : mg x = some (.ref (He.ga K x)) := let ⟨_, X, G⟩ := T.ex; He.glo_ok X G (T.says.fact i h)
theorem Tx.free (T : Tx fa fl bx K mg) (i : Nat) {x : Str} (h : fa[i]? = some (.free x) := by rfl) : mg x = none := let ⟨_, X, G⟩ := T.ex; He.free_ok X G (T.says.fact i h)
theorem Tx.int (T : Tx fa fl bx K mg) (i : Nat) {x : Str} {n : Int} (h : fa[i]? = some (.int x n) := by rfl) : ∃ t, mg x = some (.int n t) := let ⟨_, X, G⟩ := T.ex; He.int_ok X G (T.says.fact i h)
theorem Tx.str (T : Tx fa fl bx K mg) (i : Nat) {x z : Str} (h : fa[i]? = some (.str x z) := by rfl) : ∃ t, mg x = some (.str z t) := let ⟨_, X, G⟩ := T.ex; He.str_ok X G (T.says.fact i h)
theorem Tx.cls (T : Tx fa fl bx K mg) (i : Nat) {x : Str} (h : fa[i]? = some (.cls x) := by rfl) : Cls K (He.ga K x) := He.cls_ok (T.says.fact i h)
theorem Tx.noat (T : Tx fa fl bx K mg) (i : Nat) {x f : Str} (h : fa[i]? = some (.noat x f) := by rfl) : NoAttr K (He.ga K x) f := He.noat_ok (T.says.fact i h)
theorem Tx.meth (T : Tx fa fl bx K mg) (i : Nat) {x m : Str} (h : fa[i]? = some (.meth x m) := by rfl) : Meth K (He.ga K x) m (He.ma K (He.ga K x) m) := He.meth_ok (T.says.fact i h)
theorem Tx.mkr (T : Tx fa fl bx K mg) (i : Nat) {x : Str} (h : fa[i]? = some (.mkr x) := by rfl) : Mk K (He.ga K x) (He.ma K (He.ga K x) "__init__") := He.mkr_ok (T.says.fact i h)
theorem Tx.exm (T : Tx fa fl bx K mg) (i : Nat) {x y : Str} {b : Bool} (h : fa[i]? = some (.exm x y b) := by rfl) : PySem.W.exmOne K (.ref (He.ga K x)) (.ref (He.ga K y)) = some b := He.exm_ok (T.says.fact i h)
theorem Tx.keep (T : Tx fa fl bx K mg) (i : Nat) {x : Str} (h : fa[i]? = some (.keep x) := by rfl) : PySem.W.keepIn K (.ref (He.ga K x)) = true := He.keep_ok (T.says.fact i h)
end
/-- what a call by name wants -/
structure Cal (K : PySem.W.Frag) (mg : Str → Option Value) (x : Str) (ps : List Str) : Prop where
  g : mg x = some (.ref (He.ga K x))
  k : PySem.W.keepIn K (.ref (He.ga K x)) = true
  b : Binds K (fdOf K (He.ga K x)) ps []
structure CalM (K : PySem.W.Frag) (a : Addr) (ps : List Str) : Prop where
  k : PySem.W.keepIn K (.ref a) = true
  b : Binds K (fdOf K a) ps []
/-- a call of a def without defaults -/
def tCall1 (sp : Sp) (E : XK) (t : TA) : TE := fun σ H Q => t σ H fun vs H1 => sp vs H1 Q E
section
variable {X : Cx} {CX : CXT} {k : Nat} {C : Addr} {ps : List Str} {sp : Sp} {E : XK} {x m : Str} {p pos apos : Pos} {e o : Expr} {es : List Expr} {ta : TE} {t : TA}
theorem pe_callC (F : FnOk X.prog X.w X.K X.mg X.base CX k (He.ga X.K x) (fdOf X.K (He.ga X.K x)) ps sp) (c : Cal X.K X.mg x ps) (hr : Room k X.A) (hg : Gl X x) (hx : Passes CX X E)
    (ha : PA X (e :: es) t) (hdb : (x == ("__debug__" : Str)) = false := by decide) (he : starEach (e :: es) X.env = (false, eval e X.env) :: starEach es X.env := by rfl) (hpl : (backTo pos (starEach es X.env)).any (·.1) = false := by rfl) :
    PE X (.Call (.Name x p) (e :: es) [] pos) (tCall1 sp E t) := by
  have h := pe_call (p := p) (pos := pos) (dvs := []) F hr hg c.g c.k c.b .nil hx ha hdb he hpl
  have e1 : tCall sp [] E t = tCall1 sp E t := by
    unfold tCall tCall1
    simp only [List.append_nil]
  rw [← e1]
  exact h
theorem pe_call0C (F : FnOk X.prog X.w X.K X.mg X.base CX k (He.ga X.K x) (fdOf X.K (He.ga X.K x)) ps sp) (c : Cal X.K X.mg x ps) (hr : Room k X.A) (hg : Gl X x) (hx : Passes CX X E)
    (hdb : (x == ("__debug__" : Str)) = false := by decide) : PE X (.Call (.Name x p) [] [] pos) (tCall1 sp E tNil) := pe_call0 (dvs := []) F hr hg c.g c.k c.b .nil hx hdb
/-- o.m(..) -/
def tMeth1 (C : Addr) (m : Str) (sp : Sp) (E : XK) (ta : TE) (t : TA) : TE := fun σ H Q => ta σ H fun x H1 => ∃ a dx fs, x = .ref a ∧ H1 a = some (.ins C dx fs) ∧ fs.lookup m = none ∧ t σ H1 fun vs H2 => sp (.ref a :: vs) H2 Q E
theorem pe_gint {i : Int} {pos : Pos} (h : ∃ t, X.mg x = some (.int i t)) (hg : Gl X x := by rfl) (hd : (x == ("__debug__" : Str)) = false := by decide) : PE X (.Name x pos) (tC (.int i)) := let ⟨t, h⟩ := h; pe_glob hg h ⟨t, rfl⟩ hd
theorem pe_gstr {i : Str} {pos : Pos} (h : ∃ t, X.mg x = some (.str i t)) (hg : Gl X x := by rfl) (hd : (x == ("__debug__" : Str)) = false := by decide) : PE X (.Name x pos) (tC (.str i)) := let ⟨t, h⟩ := h; pe_glob hg h ⟨t, rfl⟩ hd
end
section
variable {σ : L2.St} {H : Hp} {Q : VK}
theorem g_call1 {sp : Sp} {E : XK} {ar : TA} (q : ar σ H fun vs H1 => sp vs H1 Q E) : tCall1 sp E ar σ H Q := q
end
end Y

namespace Y
open PySem PySem.Spec PyProof.Rows L2
/-! ### readings by name -/
def rLen (K : PySem.W.Frag) : List V → Hp → VK → Prop := fun xs H Q => ∃ p ys, xs = [.ref p] ∧ (SqL K H p ys ∨ SqT K H p ys) ∧ Q (.int ys.length) H
def rLenS : List V → Hp → VK → Prop := fun xs H Q => ∃ z, xs = [.str z] ∧ z.length ≤ sizeLine ∧ Q (.int z.length) H
def rAbs : List V → Hp → VK → Prop := fun xs H Q => ∃ i, xs = [.int i] ∧ Q (.int (if i < 0 then -i else i)) H
def rInt1 : List V → Hp → VK → Prop := fun xs H Q => (∃ i, xs = [.int i] ∧ Q (.int i) H) ∨ ∃ k, xs = [.bl k] ∧ Q (.int (if k then 1 else 0)) H
def rStrI : List V → Hp → VK → Prop := fun xs H Q => ∃ i, xs = [.int i] ∧ i.natAbs.log2 < 1920 ∧ Q (.str (toString i)) H
def rListOf (K : PySem.W.Frag) : List V → Hp → VK → Prop := fun xs H Q => ∃ p ys, xs = [.ref p] ∧ (SqL K H p ys ∨ SqT K H p ys) ∧ ∀ l, H l = none → Q (.ref l) (upd H l (.lst ys))
def rTupOf (K : PySem.W.Frag) : List V → Hp → VK → Prop := fun xs H Q => ∃ p ys, xs = [.ref p] ∧ ((SqL K H p ys ∧ ∀ l, H l = none → Q (.ref l) (upd H l (.tup ys))) ∨ (SqT K H p ys ∧ Q (.ref p) H))
def rAddS : R2 := fun x y H Q => ∃ i j, x = .str i ∧ y = .str j ∧ i.length + j.length ≤ sizeLine ∧ Q (.str (i ++ j)) H
def rMin2 : List V → Hp → VK → Prop := fun xs H Q => ∃ i j, xs = [.int i, .int j] ∧ Q (.int (if j < i then j else i)) H
def rMax2 : List V → Hp → VK → Prop := fun xs H Q => ∃ i j, xs = [.int i, .int j] ∧ Q (.int (if j > i then j else i)) H
def rInSign : R2 := fun x y H Q => ∃ (c : Nat) (z : Str), x = .str ⟨#[c]⟩ ∧ y = .str z ∧ Q (.bl (decide (c ∈ z.cps.toList))) H
def rLenD : List V → Hp → VK → Prop := fun xs H Q => ∃ a kvs, xs = [V.ref a] ∧ H a = some (.dK kvs) ∧ Q (.int kvs.length) H
def MkT (xs : List V) (H1 : Hp) (Q : VK) : Prop := xs.length ≤ sizeLine ∧ ∀ p, H1 p = none → Q (.ref p) (upd H1 p (.tup xs))
def MkL (xs : List V) (H1 : Hp) (Q : VK) : Prop := xs.length ≤ sizeLine ∧ ∀ p, H1 p = none → Q (.ref p) (upd H1 p (.lst xs))
section
variable {X : Cx}
theorem call_len : CallR X (.builtin "len") (rLen X.K) := call_len_seq
theorem call_lenS : CallR X (.builtin "len") rLenS := call_len_str
theorem call_lenDk : CallR X (.builtin "len") rLenD := call_lenD
theorem call_abs : CallR X (.builtin "abs") rAbs := L2.call_abs
theorem call_int1 : CallR X (.type "int") rInt1 := L2.call_int1
theorem call_strI : CallR X (.type "str") rStrI := L2.call_str_int
theorem call_list : CallR X (.type "list") (rListOf X.K) := call_list_of
theorem call_tuple : CallR X (.type "tuple") (rTupOf X.K) := call_tuple_of
theorem op_addS : OpR X (binaryOp .Add) rAddS := op_add_str
theorem op_inSign : OpR X (compareOp .In) rInSign := op_in_sign
theorem call_min (hc : X.calm = true) : CallR X (.builtin "min") rMin2 := call_min2 hc
theorem call_max (hc : X.calm = true) : CallR X (.builtin "max") rMax2 := call_max2 hc
end
section
variable {K : PySem.W.Frag} {σ : L2.St} {G H H' : Hp} {Q : VK} {D : Ends} {v x y : V} {d e' : PyData} {ds es : List PyData} {ta tb te tc : TE} {ts tu tw : TS} {tt uu : TT} {ar : TA} {QA : List V → Hp → Prop} {i j : Int} {n : Nat}
theorem g_lenT (e : Ex G H) (h : Dp K G x (.tuple ds)) (q : Q (.int (ds.length : Int)) H) : rLen K [x] H Q := by
  obtain ⟨a, vs, rfl, hs, hd⟩ := dp_tup h
  exact ⟨a, vs, rfl, .inr (e.seqT hs), by rw [dpAll_len hd]; exact q⟩
theorem g_lenL (e : Ex G H) (h : Dp K G x (.list ds)) (q : Q (.int (ds.length : Int)) H) : rLen K [x] H Q := by
  obtain ⟨a, vs, rfl, hs, hd⟩ := dp_lst h
  exact ⟨a, vs, rfl, .inl (e.seqL hs), by rw [dpAll_len hd]; exact q⟩
theorem g_lenM {p : Addr} {xs : List V} (h : H p = some (.lst xs)) (q : Q (.int (xs.length : Int)) H) : rLen K [.ref p] H Q := ⟨p, xs, rfl, .inl (.of h), q⟩
theorem g_lenS {s : Str} (h : s.length ≤ sizeLine) (q : Q (.int (s.length : Int)) H) : rLenS [.str s] H Q := ⟨s, rfl, h, q⟩
theorem g_abs (q : Q (.int (if i < 0 then -i else i)) H) : rAbs [.int i] H Q := ⟨i, rfl, q⟩
theorem g_int1 (q : Q (.int i) H) : rInt1 [.int i] H Q := .inl ⟨i, rfl, q⟩
theorem g_int1b {k : Bool} (q : Q (.int (if k then 1 else 0)) H) : rInt1 [.bl k] H Q := .inr ⟨k, rfl, q⟩
theorem g_addS {a b : Str} (h : a.length + b.length ≤ sizeLine) (q : Q (.str (a ++ b)) H) : rAddS (.str a) (.str b) H Q := ⟨a, b, rfl, rfl, h, q⟩
theorem g_inSign {c : Nat} {z : Str} (q : Q (.bl (decide (c ∈ z.cps.toList))) H) : rInSign (.str ⟨#[c]⟩) (.str z) H Q := ⟨c, z, rfl, rfl, q⟩
theorem g_isB {a b : Bool} (q : Q (.bl (decide (a = b))) H) : rIsB (.bl a) (.bl b) H Q := ⟨a, b, rfl, rfl, q⟩
theorem g_notB {a b : Bool} (q : Q (.bl (!decide (a = b))) H) : rNotB (.bl a) (.bl b) H Q := ⟨a, b, rfl, rfl, q⟩
theorem g_ixS {s : Str} {c k : Nat} (hs : s.length ≤ sizeLine) (hc : s.cps.toList[k]? = some c) (hj : i = (k : Int)) (q : Q (.str ⟨#[c]⟩) H) : rIxS (.str s) (.int i) H Q := by
  subst hj
  exact ⟨s, _, c, rfl, rfl, hs, atI_nat hc, q⟩
/-- a new tuple | a new list -/
theorem g_tup (q : ar σ H fun xs H1 => MkT xs H1 Q) : tTup ar σ H Q := q
theorem g_lst (q : ar σ H fun xs H1 => MkL xs H1 Q) : tLst ar σ H Q := q
theorem nx_tup {G H : Hp} {p : Addr} {xs : List V} (e : Ex G H) (h : DpAll K G xs ds) (hp : H p = none) : Nx [] G H (upd G p (.tup xs)) (upd H p (.tup xs)) ∧ Dp K (upd G p (.tup xs)) (.ref p) (.tuple ds) :=
  ⟨Nx.new e hp, .tup (.of upd_same) (dpAll_mono (Ex.new (e.free hp)) h)⟩
theorem nx_lst {G H : Hp} {p : Addr} {xs : List V} (e : Ex G H) (h : DpAll K G xs ds) (hp : H p = none) : Nx [] G H (upd G p (.lst xs)) (upd H p (.lst xs)) ∧ Dp K (upd G p (.lst xs)) (.ref p) (.list ds) :=
  ⟨Nx.new e hp, .lst (.of upd_same) (dpAll_mono (Ex.new (e.free hp)) h)⟩
/-- a tuple is made and known: what follows, by G' -/
theorem g_tupD {xs : List V} (e : Ex G H) (h : DpAll K G xs ds) (hl : ds.length ≤ sizeLine) (q : ∀ p G' H', Nx [] G H G' H' → Dp K G' (.ref p) (.tuple ds) → Q (.ref p) H') : MkT xs H Q :=
  ⟨by rw [dpAll_len h]; exact hl, fun p hp => let ⟨a, b⟩ := nx_tup e h hp; q p _ _ a b⟩
theorem g_lstD {xs : List V} (e : Ex G H) (h : DpAll K G xs ds) (hl : ds.length ≤ sizeLine) (q : ∀ p G' H', Nx [] G H G' H' → Dp K G' (.ref p) (.list ds) → Q (.ref p) H') : MkL xs H Q :=
  ⟨by rw [dpAll_len h]; exact hl, fun p hp => let ⟨a, b⟩ := nx_lst e h hp; q p _ _ a b⟩
/-- a list is made that may change -/
theorem g_lstM {xs : List V} (e : Ex G H) (hl : xs.length ≤ sizeLine) (q : ∀ p H', Nx [] G H G H' → H p = none → H' p = some (.lst xs) → G p = none → Q (.ref p) H') : MkL xs H Q :=
  ⟨hl, fun p hp => q p _ (Nx.own e hp) hp upd_same (e.free hp)⟩
/-- tuple(list that was just made) -/
theorem g_tupOfM {p : Addr} {ys : List V} (e : Ex G H) (hp : H p = some (.lst ys)) (h : DpAll K G ys ds) (q : ∀ p G' H', Nx [] G H G' H' → Dp K G' (.ref p) (.tuple ds) → Q (.ref p) H') : rTupOf K [.ref p] H Q :=
  ⟨p, ys, rfl, .inl ⟨.of hp, fun l hl => let ⟨a, b⟩ := nx_tup e h hl; q l _ _ a b⟩⟩
theorem g_tupOfL (e : Ex G H) (h : Dp K G x (.list ds)) (q : ∀ p G' H', Nx [] G H G' H' → Dp K G' (.ref p) (.tuple ds) → Q (.ref p) H') : rTupOf K [x] H Q := by
  obtain ⟨a, vs, rfl, hs, hd⟩ := dp_lst h
  exact ⟨a, vs, rfl, .inl ⟨e.seqL hs, fun l hl => let ⟨a, b⟩ := nx_tup e hd hl; q l _ _ a b⟩⟩
theorem g_tupOfT (e : Ex G H) (h : Dp K G x (.tuple ds)) (q : Q x H) : rTupOf K [x] H Q := by
  obtain ⟨a, vs, rfl, hs, hd⟩ := dp_tup h
  exact ⟨a, vs, rfl, .inr ⟨e.seqT hs, q⟩⟩
theorem g_listOf (e : Ex G H) (h : Dp K G x (.list ds) ∨ Dp K G x (.tuple ds)) (q : ∀ p G' H', Nx [] G H G' H' → Dp K G' (.ref p) (.list ds) → Q (.ref p) H') : rListOf K [x] H Q := by
  rcases h with h | h
  · obtain ⟨a, vs, rfl, hs, hd⟩ := dp_lst h
    exact ⟨a, vs, rfl, .inl (e.seqL hs), fun l hl => let ⟨a, b⟩ := nx_lst e hd hl; q l _ _ a b⟩
  · obtain ⟨a, vs, rfl, hs, hd⟩ := dp_tup h
    exact ⟨a, vs, rfl, .inr (e.seqT hs), fun l hl => let ⟨a, b⟩ := nx_lst e hd hl; q l _ _ a b⟩
theorem g_allM {p : Addr} {ys : List V} {bs : List Bool} (hp : H p = some (.lst ys)) (h : DpAll K G ys (bs.map .bool)) (q : Q (.bl (bs.all id)) H) : rAll K [.ref p] H Q :=
  ⟨p, bs, rfl, by rw [dpAll_bools_inv h] at hp; exact .of hp, q⟩
/-- xs.append(e) -/
theorem g_app {p : Addr} {xs : List V} (hp : H p = some (.lst xs)) (hl : xs.length < sizeLine) (q : Q .non (upd H p (.lst (xs ++ [y])))) : rAppend (.ref p) [y] H Q := ⟨p, xs, y, rfl, rfl, hp, hl, q⟩
theorem g_bm {T : String} {r : V → List V → Hp → VK → Prop} (q : ta σ H fun x H1 => tyV K T x H1 ∧ ar σ H1 fun xs H2 => r x xs H2 Q) : tBM K T r ta ar σ H Q := q
theorem g_bm0 {T : String} {r : V → List V → Hp → VK → Prop} (q : ta σ H fun x H1 => tyV K T x H1 ∧ r x [] H1 Q) : tBM0 K T r ta σ H Q := q
theorem g_tyL {p : Addr} {xs : List V} {P : Prop} (hp : H p = some (.lst xs)) (q : P) : tyV K "list" (.ref p) H ∧ P := ⟨.inl ⟨rfl, _, .of hp⟩, q⟩

/-! ### what is walked -/
structure Src (K : PySem.W.Frag) (M : List Addr) (J : It) (G H : Hp) (ds : List PyData) : Prop where
  go : ∀ i G' H', Nx M G H G' H' → i < ds.length → J.go i H'
  stop : ∀ i G' H', Nx M G H G' H' → ds.length ≤ i → J.stop i H'
  yld : ∀ i d G' H' x H'', Nx M G H G' H' → ds[i]? = some d → J.yld i H' x H'' → ∃ G'', Nx [] G' H' G'' H'' ∧ Dp K G'' x d
theorem src_tup {M : List Addr} {a : Addr} {xs : List V} (hs : SqT K G a xs) (hd : DpAll K G xs ds) : Src K M (Itt K a) G H ds where
  go := fun i G' H' n hi => ⟨xs, xs[i]'(by rw [dpAll_len hd]; exact hi), n.gh.seqT (n.gg.seqT hs), by simp [dpAll_len hd, hi]⟩
  stop := fun i G' H' n hi => ⟨xs, n.gh.seqT (n.gg.seqT hs), by rw [dpAll_len hd]; exact hi⟩
  yld := fun i d G' H' x H'' n hi y => by
    obtain ⟨rfl, f⟩ := y
    have hx := f xs (n.gh.seqT (n.gg.seqT hs))
    obtain ⟨v, hv, dv⟩ := dpAll_get hd hi
    rw [hx] at hv
    cases hv
    exact ⟨G', Nx.refl n.gh, dp_mono n.gg dv⟩
theorem src_lst {M : List Addr} {a : Addr} {xs : List V} (hs : SqL K G a xs) (hd : DpAll K G xs ds) : Src K M (Itl K a) G H ds where
  go := fun i G' H' n hi => ⟨xs, xs[i]'(by rw [dpAll_len hd]; exact hi), n.gh.seqL (n.gg.seqL hs), by simp [dpAll_len hd, hi]⟩
  stop := fun i G' H' n hi => ⟨xs, n.gh.seqL (n.gg.seqL hs), by rw [dpAll_len hd]; exact hi⟩
  yld := fun i d G' H' x H'' n hi y => by
    obtain ⟨rfl, f⟩ := y
    have hx := f xs (n.gh.seqL (n.gg.seqL hs))
    obtain ⟨v, hv, dv⟩ := dpAll_get hd hi
    rw [hx] at hv
    cases hv
    exact ⟨G', Nx.refl n.gh, dp_mono n.gg dv⟩
/-- a list that stands in H, not known (it stays while the walk lasts: not in M) -/
theorem src_own {M : List Addr} {a : Addr} {xs : List V} (hs : H a = some (.lst xs)) (ha : a ∉ M) (hd : DpAll K G xs ds) : Src K M (Itl K a) G H ds where
  go := fun i G' H' n hi => ⟨xs, xs[i]'(by rw [dpAll_len hd]; exact hi), .of (n.fr a _ ha hs), by simp [dpAll_len hd, hi]⟩
  stop := fun i G' H' n hi => ⟨xs, .of (n.fr a _ ha hs), by rw [dpAll_len hd]; exact hi⟩
  yld := fun i d G' H' x H'' n hi y => by
    obtain ⟨rfl, f⟩ := y
    have hx := f xs (.of (n.fr a _ ha hs))
    obtain ⟨v, hv, dv⟩ := dpAll_get hd hi
    rw [hx] at hv
    cases hv
    exact ⟨G', Nx.refl n.gh, dp_mono n.gg dv⟩
/-- a text, sign by sign -/
def sgn (s : Str) : List PyData := s.cps.toList.map fun c => .str ⟨#[c]⟩
theorem sgn_len (s : Str) : (sgn s).length = s.length := by unfold sgn; rw [List.length_map]; exact Array.length_toList
theorem sgn_get {s : Str} {i : Nat} {d : PyData} (h : (sgn s)[i]? = some d) : ∃ c, s.cps.toList[i]? = some c ∧ d = .str ⟨#[c]⟩ := by
  simp only [sgn, List.getElem?_map, Option.map_eq_some_iff] at h
  obtain ⟨x, h1, h2⟩ := h
  exact ⟨x, h1, h2.symm⟩
theorem src_str {M : List Addr} (s : Str) : Src K M (Its s) G H (sgn s) where
  go := fun i G' H' n hi => (by simpa [sgn] using hi : i < s.cps.size)
  stop := fun i G' H' n hi => (by simpa [sgn] using hi : s.cps.size ≤ i)
  yld := fun i d G' H' x H'' n hi y => by
    obtain ⟨rfl, c, hc, rfl⟩ := y
    have e1 : s.cps.toList[i]? = some c := by rw [← hc]; simp
    unfold sgn at hi
    rw [List.getElem?_map, e1] at hi
    cases hi
    exact ⟨G', Nx.refl n.gh, .str _⟩
def rng (lo : Int) (n : Nat) : List PyData := (List.range n).map fun (i : Nat) => .int (lo + (i : Int))
theorem src_rng {M : List Addr} (lo : Int) (n : Nat) : Src K M (Itr lo n) G H (rng lo n) where
  go := fun i G' H' _ hi => (by simpa [rng] using hi : i < n)
  stop := fun i G' H' _ hi => (by simpa [rng] using hi : n ≤ i)
  yld := fun i d G' H' x H'' m hi y => by
    obtain ⟨rfl, rfl⟩ := y
    have hl : i < n := by
      have := (List.getElem?_eq_some_iff.mp hi).1
      simpa [rng] using this
    unfold rng at hi
    rw [List.getElem?_map, List.getElem?_range hl] at hi
    cases hi
    exact ⟨G', Nx.refl m.gh, .int _⟩
def prs (k : Nat) : List PyData → List PyData
  | [] => []
  | d :: r => .tuple [.int (k : Int), d] :: prs (k + 1) r
theorem prs_len : ∀ (k : Nat) (ds : List PyData), (prs k ds).length = ds.length
  | _, [] => rfl
  | k, d :: r => congrArg (· + 1) (prs_len (k + 1) r)
theorem prs_get : ∀ (k : Nat) (ds : List PyData) (i : Nat), (prs k ds)[i]? = (ds[i]?).map fun d => .tuple [.int ((k + i : Nat) : Int), d]
  | _, [], i => by simp [prs]
  | k, d :: r, 0 => by simp [prs]
  | k, d :: r, i + 1 => by
    show (prs (k + 1) r)[i]? = _
    rw [prs_get (k + 1) r i]
    simp only [List.getElem?_cons_succ]
    congr 1
    funext d
    congr 4
    omega
theorem src_enumL {M : List Addr} {a : Addr} {xs : List V} (hs : SqL K G a xs) (hd : DpAll K G xs ds) : Src K M (Ite K a) G H (prs 0 ds) where
  go := fun i G' H' n hi => ⟨xs, xs[i]'(by rw [dpAll_len hd, ← prs_len 0 ds]; exact hi), n.gh.seqL (n.gg.seqL hs), by rw [prs_len] at hi; simp [dpAll_len hd, hi]⟩
  stop := fun i G' H' n hi => ⟨xs, n.gh.seqL (n.gg.seqL hs), by rw [dpAll_len hd, ← prs_len 0 ds]; exact hi⟩
  yld := fun i d G' H' x H'' n hi y => by
    obtain ⟨T, u, rfl, hT, rfl, f⟩ := y
    have hx := f xs (n.gh.seqL (n.gg.seqL hs))
    rw [prs_get] at hi
    cases q : ds[i]? with
    | none => rw [q] at hi; cases hi
    | some d0 =>
      rw [q] at hi
      cases hi
      obtain ⟨v, hv, dv⟩ := dpAll_get hd q
      rw [hx] at hv
      cases hv
      have h2 := nx_tup (K := K) n.gh (xs := [.int ((i : Nat) : Int), u]) (ds := [.int ((0 + i : Nat) : Int), d0]) (by rw [Nat.zero_add]; exact .cons (.int _) (.cons (dp_mono n.gg dv) .nil)) hT
      exact ⟨_, h2.1, h2.2⟩
end
end Y

namespace Y
open PySem PySem.Spec PyProof.Rows L2
/-! ### loops -/
/-- what tFor asks behind its walk -/
def ForW (J : It) (g : TG) (tb : TS) (D : Ends) (σ : L2.St) (H1 : Hp) : Prop := ∃ W : Nat → Nat → L2.St → Hp → Prop, (∃ m, W 0 m σ H1) ∧ ∀ i m σ H, W i m σ H →
  (J.stop i H ∧ D.nx σ H) ∨ (J.go i H ∧ ∃ N : L2.St → Hp → Prop, (∀ σ' H', N σ' H' → ∃ m', m' < m ∧ W (i + 1) m' σ' H') ∧ ∀ x H', J.yld i H x H' → g x σ H' fun σ2 H2 => tb { D with nx := N, ct := N, bk := D.nx } σ2 H2)
def LcW (J : It) (g : TG) (tt : TT) (te : TE) (vs : List Nat) (σ : L2.St) (D : Addr) (Q : VK) (H1 : Hp) : Prop := ∃ W : Nat → Nat → Hp → Prop, (∃ m, W 0 m (upd H1 D (.lst []))) ∧ ∀ i m H, W i m H →
  (J.stop i H ∧ Q (.ref D) H) ∨ (J.go i H ∧ ∃ Nx : Hp → Prop, (∀ H', Nx H' → ∃ m', m' < m ∧ W (i + 1) m' H') ∧ ∀ x H', J.yld i H x H' → g x (wipe σ vs) H' fun σ2 H2 => wipe σ2 vs = wipe σ vs ∧ tt σ2 H2 fun b H3 =>
    if b = true then te σ2 H3 fun y H4 => ∃ acc, H4 D = some (.lst acc) ∧ acc.length < sizeLine ∧ Nx (upd H4 D (.lst (acc ++ [y]))) else Nx H3)
section
variable {K : PySem.W.Frag} {σ : L2.St} {G H : Hp} {Q : VK} {D : Ends} {x : V} {ds : List PyData} {tl te : TE} {tb : TS} {tt : TT} {ta : TA} {wi : TI} {g : TG} {J : It} {M : List Addr} {vs : List Nat} {R : It → Hp → Prop}
theorem g_yes {QT : Bool → Hp → Prop} (q : QT true H) : tYes σ H QT := q
theorem g_for (q : wi σ H fun J H1 => ForW J g tb D σ H1) : tFor wi g tb D σ H := q
theorem g_lc (q : wi σ H fun J H1 => ∀ A, H1 A = none → LcW J g tt te vs σ A Q H1) : tLc wi g tt te vs σ H Q := q
theorem g_iTup (q : tl σ H fun x H1 => ∃ a, x = .ref a ∧ (∃ xs, SqT K H1 a xs) ∧ R (Itt K a) H1) : iTup K tl σ H R := q
theorem g_iList (q : tl σ H fun x H1 => ∃ a, x = .ref a ∧ (∃ xs, SqL K H1 a xs) ∧ R (Itl K a) H1) : iList K tl σ H R := q
theorem g_iStr (q : tl σ H fun v H1 => ∃ x, v = .str x ∧ R (Its x) H1) : iStr tl σ H R := q
theorem g_iRng1 (q : ta σ H fun vs H1 => ∃ j : Int, vs = [.int j] ∧ -(2 ^ 62) ≤ j ∧ j < 2 ^ 62 ∧ R (Itr 0 j.toNat) H1) : iRng1 ta σ H R := q
theorem g_iRng2 (q : ta σ H fun vs H1 => ∃ i j : Int, vs = [.int i, .int j] ∧ (-(2 ^ 62) ≤ i ∧ i < 2 ^ 62 ∧ -(2 ^ 62) ≤ j ∧ j < 2 ^ 62) ∧ R (Itr i (j - i).toNat) H1) : iRng2 ta σ H R := q
theorem g_iEnum (q : ta σ H fun vs H1 => ∃ a xs, vs = [.ref a] ∧ SqL K H1 a xs ∧ R (Ite K a) H1) : iEnum K ta σ H R := q
/-- the thing walked is known data -/
theorem g_walkT {P : Addr → Prop} (e : Ex G H) (h : Dp K G x (.tuple ds)) (q : ∀ a, x = .ref a → (∀ M, Src K M (Itt K a) G H ds) → P a) : ∃ a, x = .ref a ∧ (∃ xs, SqT K H a xs) ∧ P a := by
  obtain ⟨a, xs, rfl, hs, hd⟩ := dp_tup h
  exact ⟨a, rfl, ⟨xs, e.seqT hs⟩, q a rfl fun M => src_tup hs hd⟩
theorem g_walkL {P : Addr → Prop} (e : Ex G H) (h : Dp K G x (.list ds)) (q : ∀ a, x = .ref a → (∀ M, Src K M (Itl K a) G H ds) → P a) : ∃ a, x = .ref a ∧ (∃ xs, SqL K H a xs) ∧ P a := by
  obtain ⟨a, xs, rfl, hs, hd⟩ := dp_lst h
  exact ⟨a, rfl, ⟨xs, e.seqL hs⟩, q a rfl fun M => src_lst hs hd⟩
theorem g_walkM {P : Addr → Prop} {a : Addr} {xs : List V} (h : H a = some (.lst xs)) (hd : DpAll K G xs ds) (q : (∀ M, a ∉ M → Src K M (Itl K a) G H ds) → P a) : ∃ b, V.ref a = .ref b ∧ (∃ xs, SqL K H b xs) ∧ P b :=
  ⟨a, rfl, ⟨xs, .of h⟩, q fun M ha => src_own h ha hd⟩
theorem g_walkS {P : Str → Prop} {s : Str} (q : P s) : ∃ x, V.str s = .str x ∧ P x := ⟨s, rfl, q⟩
theorem g_walkR {P : Int → Prop} {j : Int} (h : j < 2 ^ 62) (h0 : -(2 ^ 62) ≤ j) (q : P j) : ∃ i : Int, [V.int j] = [.int i] ∧ -(2 ^ 62) ≤ i ∧ i < 2 ^ 62 ∧ P i := ⟨j, rfl, h0, h, q⟩
theorem g_walkR2 {P : Int → Int → Prop} {i j : Int} (h : -(2 ^ 62) ≤ i ∧ i < 2 ^ 62 ∧ -(2 ^ 62) ≤ j ∧ j < 2 ^ 62) (q : P i j) :
    ∃ k l : Int, [V.int i, V.int j] = [.int k, .int l] ∧ (-(2 ^ 62) ≤ k ∧ k < 2 ^ 62 ∧ -(2 ^ 62) ≤ l ∧ l < 2 ^ 62) ∧ P k l := ⟨i, j, rfl, h, q⟩
theorem g_walkE {P : Addr → Prop} (e : Ex G H) (h : Dp K G x (.list ds)) (q : ∀ a, x = .ref a → (∀ M, Src K M (Ite K a) G H (prs 0 ds)) → P a) : ∃ a xs, [x] = [.ref a] ∧ SqL K H a xs ∧ P a := by
  obtain ⟨a, xs, rfl, hs, hd⟩ := dp_lst h
  exact ⟨a, xs, rfl, e.seqL hs, q a rfl fun M => src_enumL hs hd⟩

/-- THE LOOP: Pv by the turn, the slots, what is known, the heap; M: the cells that it changes -/
theorem g_forS (S : Src K M J G H ds) (e : Ex G H) (Pv : Nat → L2.St → Hp → Hp → Prop) (h0 : Pv 0 σ G H)
    (hs : ∀ i d v σ' G' H' G1 H1, ds[i]? = some d → Nx M G H G' H' → Pv i σ' G' H' → Nx [] G' H' G1 H1 → Dp K G1 v d →
      g v σ' H1 fun σ2 H2 => tb { D with nx := fun σ3 H3 => ∃ G3, Nx M G H G3 H3 ∧ Pv (i + 1) σ3 G3 H3, ct := fun σ3 H3 => ∃ G3, Nx M G H G3 H3 ∧ Pv (i + 1) σ3 G3 H3, bk := D.nx } σ2 H2)
    (hd : ∀ σ' G' H', Nx M G H G' H' → Pv ds.length σ' G' H' → D.nx σ' H') : ForW J g tb D σ H := by
  refine ⟨fun i m σ' H' => m = ds.length - i ∧ i ≤ ds.length ∧ ∃ G', Nx M G H G' H' ∧ Pv i σ' G' H', ⟨ds.length, by simp, Nat.zero_le _, G, Nx.refl e, h0⟩, ?_⟩
  rintro i m σ' H' ⟨rfl, hi, G', n, p⟩
  by_cases hlt : i < ds.length
  · refine .inr ⟨S.go i G' H' n hlt, fun σ3 H3 => ∃ G3, Nx M G H G3 H3 ∧ Pv (i + 1) σ3 G3 H3, fun σ3 H3 ⟨G3, n3, p3⟩ => ⟨ds.length - (i + 1), by omega, rfl, hlt, G3, n3, p3⟩, fun v H1 y => ?_⟩
    have hg : ds[i]? = some ds[i] := by simp [hlt]
    obtain ⟨G1, n1, d1⟩ := S.yld i _ G' H' v H1 n hg y
    exact hs i _ v σ' G' H' G1 H1 hg n p n1 d1
  · have e' : i = ds.length := by omega
    subst e'
    exact .inl ⟨S.stop _ G' H' n (Nat.le_refl _), hd σ' G' H' n p⟩
theorem wipe1 {σ : L2.St} {j : Nat} {v : V} : wipe ((wipe σ [j]).set j (some v)) [j] = wipe σ [j] := by
  show ((σ.set j none).set j (some v)).set j none = σ.set j none
  rw [List.set_set, List.set_set]
/-- THE COMPREHENSION over one name, with tests: Jv tells the items so far and what else holds of the heap -/
theorem g_lcH {A : Addr} {j : Nat} (S : Src K M J G H ds) (e : Ex G H) (hA : H A = none) (hM : ∀ b ∈ M, H b ≠ none) (hz : ds.length < sizeLine) (Jv : Nat → List PyData → Hp → Hp → Prop)
    (jA : ∀ i acc G' H' o, Jv i acc G' H' → Jv i acc G' (upd H' A o)) (jN : ∀ i acc G' H' G1 H1, Nx [] G' H' G1 H1 → Jv i acc G' H' → Jv i acc G1 H1) (j0 : Jv 0 [] G H)
    (hs : ∀ i d v acc G' H', ds[i]? = some d → Dp K G' v d → Nx M G H G' H' → acc.length ≤ i → Jv i acc G' H' → ∀ (QE : VK) (QN : Hp → Prop),
      (∀ y G4 H4 d', Nx M G' H' G4 H4 → Dp K G4 y d' → Jv (i + 1) (acc ++ [d']) G4 H4 → QE y H4) → (∀ G3 H3, Nx M G' H' G3 H3 → Jv (i + 1) acc G3 H3 → QN H3) →
      tt ((wipe σ [j]).set j (some v)) H' fun b H3 => if b = true then te ((wipe σ [j]).set j (some v)) H3 QE else QN H3)
    (hd : ∀ G' H' ys acc, Jv ds.length acc G' H' → Nx M G H G' H' → G' A = none → H' A = some (.lst ys) → DpAll K G' ys acc → Q (.ref A) H') : LcW J (gName j) tt te [j] σ A Q H := by
  have st0 : Nx [] G H G (upd H A (.lst [])) := Nx.own e hA
  refine ⟨fun i m H' => m = ds.length - i ∧ i ≤ ds.length ∧ ∃ G' ys acc, Nx M G H G' H' ∧ G' A = none ∧ H' A = some (.lst ys) ∧ DpAll K G' ys acc ∧ acc.length ≤ i ∧ Jv i acc G' H',
    ⟨ds.length, by simp, Nat.zero_le _, G, [], [], st0.pure, e.free hA, upd_same, .nil, Nat.le_refl _, jA _ _ _ _ _ j0⟩, ?_⟩
  rintro i m H' ⟨rfl, hi, G', ys, acc, n, gA, hys, da, hl, jv⟩
  have hAM : A ∉ M := fun z => hM A z hA
  by_cases hlt : i < ds.length
  · refine .inr ⟨S.go i G' H' n hlt, fun H'' => ∃ G'' ys acc, Nx M G H G'' H'' ∧ G'' A = none ∧ H'' A = some (.lst ys) ∧ DpAll K G'' ys acc ∧ acc.length ≤ i + 1 ∧ Jv (i + 1) acc G'' H'',
      fun H'' ⟨G'', ys', acc', r⟩ => ⟨ds.length - (i + 1), by omega, rfl, hlt, G'', ys', acc', r⟩, fun v H1 y => ?_⟩
    have hg : ds[i]? = some ds[i] := by simp [hlt]
    obtain ⟨G1, n1, d1⟩ := S.yld i _ G' H' v H1 n hg y
    have n2 : Nx M G H G1 H1 := n.trans n1.pure
    have gA1 : G1 A = none := n1.old A gA ⟨_, hys, fun _ z => nomatch z⟩
    have hys1 : H1 A = some (.lst ys) := n1.fr A _ (by simp) hys
    refine ⟨wipe1, hs i _ v acc G1 H1 hg d1 n2 hl (jN _ _ _ _ _ _ n1 jv) _ _ (fun y G4 H4 d' n4 dy jv' => ?_) (fun G3 H3 n3 jv' => ?_)⟩
    · have gA4 : G4 A = none := n4.old A gA1 ⟨_, hys1, fun _ z => nomatch z⟩
      have hys4 : H4 A = some (.lst ys) := n4.fr A _ hAM hys1
      have n5 : Nx M G H G4 H4 := n2.trans n4
      have n6 : Nx [A] G4 H4 G4 (upd H4 A (.lst (ys ++ [y]))) := Nx.set n4.gh gA4 (by simp)
      have n7 : Nx (A :: M) G H G4 (upd H4 A (.lst (ys ++ [y]))) := (n5.mono fun _ z => List.mem_cons_of_mem _ z).trans (n6.mono fun b z => by simp at z; simp [z])
      refine ⟨ys, hys4, ?_, G4, ys ++ [y], acc ++ [d'], n7.drop hA, gA4, upd_same, dpAll_snoc (dpAll_mono (n1.gg.trans n4.gg) da) dy, by simp; omega, jA _ _ _ _ _ jv'⟩
      have := dpAll_len da
      omega
    · exact ⟨G3, ys, acc, n2.trans n3, n3.old A gA1 ⟨_, hys1, fun _ z => nomatch z⟩, n3.fr A _ hAM hys1, dpAll_mono (n1.gg.trans n3.gg) da, by omega, jv'⟩
  · have e' : i = ds.length := by omega
    subst e'
    exact .inl ⟨S.stop _ G' H' n (Nat.le_refl _), hd G' H' ys acc jv n gA hys da⟩
theorem g_lcG {A : Addr} {j : Nat} (S : Src K M J G H ds) (e : Ex G H) (hA : H A = none) (hM : ∀ b ∈ M, H b ≠ none) (hz : ds.length < sizeLine) (P : Hp → Hp → Prop) (p0 : P G H) (pA : ∀ G' H' o, P G' H' → P G' (upd H' A o)) (pN : ∀ G' H' G1 H1, Nx [] G' H' G1 H1 → P G' H' → P G1 H1)
    (Jv : Nat → List PyData → Prop) (j0 : Jv 0 [])
    (hs : ∀ i d v acc G' H', ds[i]? = some d → Dp K G' v d → Nx M G H G' H' → P G' H' → acc.length ≤ i → Jv i acc → ∀ (QE : VK) (QN : Hp → Prop),
      (∀ y G4 H4 d', Nx M G' H' G4 H4 → P G4 H4 → Dp K G4 y d' → Jv (i + 1) (acc ++ [d']) → QE y H4) → (∀ G3 H3, Nx M G' H' G3 H3 → P G3 H3 → Jv (i + 1) acc → QN H3) →
      tt ((wipe σ [j]).set j (some v)) H' fun b H3 => if b = true then te ((wipe σ [j]).set j (some v)) H3 QE else QN H3)
    (hd : ∀ G' H' ys acc, Jv ds.length acc → Nx M G H G' H' → P G' H' → G' A = none → H' A = some (.lst ys) → DpAll K G' ys acc → Q (.ref A) H') : LcW J (gName j) tt te [j] σ A Q H :=
  g_lcH S e hA hM hz (fun i acc G' H' => P G' H' ∧ Jv i acc) (fun _ _ G' H' o h => ⟨pA G' H' o h.1, h.2⟩) (fun _ _ _ _ _ _ n h => ⟨pN _ _ _ _ n h.1, h.2⟩) ⟨p0, j0⟩
    (fun i d v acc G' H' a1 a2 a3 a4 a5 QE QN k1 k2 => hs i d v acc G' H' a1 a2 a3 a5.1 a4 a5.2 QE QN (fun y G4 H4 d' b1 b2 b3 b4 => k1 y G4 H4 d' b1 b3 ⟨b2, b4⟩) fun G3 H3 b1 b2 b3 => k2 G3 H3 b1 ⟨b2, b3⟩) fun G' H' ys acc a1 a2 a3 a4 a5 => hd G' H' ys acc a1.2 a2 a1.1 a3 a4 a5
theorem g_lcS {A : Addr} {j : Nat} (S : Src K M J G H ds) (e : Ex G H) (hA : H A = none) (hM : ∀ b ∈ M, H b ≠ none) (hz : ds.length < sizeLine) (Jv : Nat → List PyData → Prop) (j0 : Jv 0 [])
    (hs : ∀ i d v acc G' H', ds[i]? = some d → Dp K G' v d → Nx M G H G' H' → acc.length ≤ i → Jv i acc → ∀ (QE : VK) (QN : Hp → Prop),
      (∀ y G4 H4 d', Nx M G' H' G4 H4 → Dp K G4 y d' → Jv (i + 1) (acc ++ [d']) → QE y H4) → (∀ G3 H3, Nx M G' H' G3 H3 → Jv (i + 1) acc → QN H3) →
      tt ((wipe σ [j]).set j (some v)) H' fun b H3 => if b = true then te ((wipe σ [j]).set j (some v)) H3 QE else QN H3)
    (hd : ∀ G' H' ys acc, Jv ds.length acc → Nx M G H G' H' → G' A = none → H' A = some (.lst ys) → DpAll K G' ys acc → Q (.ref A) H') : LcW J (gName j) tt te [j] σ A Q H :=
  g_lcG S e hA hM hz (fun _ _ => True) trivial (fun _ _ _ _ => trivial) (fun _ _ _ _ _ _ => trivial) Jv j0 (fun i d v acc G' H' a1 a2 a3 _ a4 a5 QE QN k1 k2 => hs i d v acc G' H' a1 a2 a3 a4 a5 QE QN (fun y G4 H4 d' b1 b2 b3 => k1 y G4 H4 d' b1 trivial b2 b3) fun G3 H3 b1 b2 => k2 G3 H3 b1 trivial b2) fun G' H' ys acc a1 a2 _ a3 a4 a5 => hd G' H' ys acc a1 a2 a3 a4 a5
/-- .. that maps: es by place -/
theorem g_lcMap {A : Addr} {j : Nat} {es : List PyData} (S : Src K M J G H ds) (e : Ex G H) (hA : H A = none) (hM : ∀ b ∈ M, H b ≠ none) (hz : ds.length < sizeLine) (hl : es.length = ds.length)
    (hs : ∀ (i : Nat) d d' v G' H', ds[i]? = some d → es[i]? = some d' → Dp K G' v d → Nx M G H G' H' → ∀ (QE : VK), (∀ y G4 H4, Nx M G' H' G4 H4 → Dp K G4 y d' → QE y H4) → te ((wipe σ [j]).set j (some v)) H' QE)
    (hd : ∀ G' H' ys, Nx M G H G' H' → G' A = none → H' A = some (.lst ys) → DpAll K G' ys es → Q (.ref A) H') : LcW J (gName j) tYes te [j] σ A Q H := by
  refine g_lcS S e hA hM hz (fun i acc => acc = es.take i) (by simp) (fun i d v acc G' H' hi dv n _ hj QE QN k1 k2 => ?_) (fun G' H' ys acc hj n g h da => ?_)
  · show (if true = true then te ((wipe σ [j]).set j (some v)) H' QE else QN H')
    rw [if_pos rfl]
    have hlt : i < es.length := by rw [hl]; exact (List.getElem?_eq_some_iff.mp hi).1
    refine hs i d es[i] v G' H' hi (by simp [hlt]) dv n QE fun y G4 H4 n4 dy => k1 y G4 H4 es[i] n4 dy ?_
    rw [hj, List.take_add_one]
    simp [hlt]
  · refine hd G' H' ys n g h ?_
    rw [hj, ← hl, List.take_length] at da
    exact da
end
end Y

namespace Y
open PySem PySem.Spec PyProof.Rows L2
/-! ### data of a size that the machine takes -/
mutual
def fit : PyData → Bool
  | .none => true
  | .bool _ => true
  | .int _ => true
  | .str s => decide (s.length ≤ 100000) && PyData.strOk s
  | .list xs => decide (xs.length ≤ 100000) && fitAll xs
  | .tuple xs => decide (xs.length ≤ 100000) && fitAll xs
  | .dict _ => false
def fitAll : List PyData → Bool
  | [] => true
  | x :: xs => fit x && fitAll xs
end
theorem fit_get : ∀ {xs : List PyData} {i : Nat} {d : PyData}, fitAll xs = true → xs[i]? = some d → fit d = true
  | [], i, d, _, h => by simp at h
  | x :: xs, 0, d, f, h => by
    rw [fitAll, Bool.and_eq_true] at f
    cases h
    exact f.1
  | x :: xs, i + 1, d, f, h => by
    rw [fitAll, Bool.and_eq_true] at f
    exact fit_get (i := i) f.2 h
theorem fit_str {s : Str} (h : fit (.str s) = true) : s.length ≤ sizeLine := by
  rw [fit, Bool.and_eq_true] at h
  exact Nat.le_trans (of_decide_eq_true h.1) (by decide)
theorem fit_tup {xs : List PyData} (h : fit (.tuple xs) = true) : xs.length ≤ 100000 ∧ fitAll xs = true := by
  rw [fit, Bool.and_eq_true] at h
  exact ⟨of_decide_eq_true h.1, h.2⟩
theorem fit_lst {xs : List PyData} (h : fit (.list xs) = true) : xs.length ≤ 100000 ∧ fitAll xs = true := by
  rw [fit, Bool.and_eq_true] at h
  exact ⟨of_decide_eq_true h.1, h.2⟩
theorem fitAll_iff : ∀ {xs : List PyData}, fitAll xs = true ↔ ∀ d ∈ xs, fit d = true
  | [] => by simp [fitAll]
  | x :: xs => by
    rw [fitAll, Bool.and_eq_true, fitAll_iff (xs := xs)]
    simp
theorem szl {n : Nat} (h : n ≤ 100000) : n < sizeLine := Nat.lt_of_le_of_lt h (by decide)
theorem szle {n : Nat} (h : n ≤ 100000) : n ≤ sizeLine := Nat.le_of_lt (szl h)
theorem canLay_fit : ∀ d : PyData, fit d = true → d.canLay0 = true
  | .none, _ => rfl
  | .bool _, _ => rfl
  | .int _, _ => rfl
  | .str s, h => by
    rw [PyData.canLay0]
    rw [fit, Bool.and_eq_true] at h
    exact h.2
  | .list xs, h => by
    rw [PyData.canLay0]
    exact canLayAll_fit xs (fit_lst h).2
  | .tuple xs, h => by
    rw [PyData.canLay0]
    exact canLayAll_fit xs (fit_tup h).2
  | .dict _, h => by rw [fit] at h; cases h
where canLayAll_fit : ∀ xs : List PyData, fitAll xs = true → PyData.canLayAll0 xs = true
  | [], _ => rfl
  | x :: xs, h => by
    rw [fitAll, Bool.and_eq_true] at h
    rw [PyData.canLayAll0, canLay_fit x h.1, canLayAll_fit xs h.2]
    rfl
/-- shaped: data of a depth that is written -/
theorem shaped_fit {d : PyData} (h : fit d = true) (hd : d.depth ≤ 64) : SeqAt.shaped d = true := by
  unfold SeqAt.shaped
  rw [canLay_fit d h, decide_eq_true hd]
  rfl
end Y

namespace PySem
namespace YEn
open PySem PyProof.Rows
theorem new1 {v : Value} {o : Obj} {H : Heap → Prop} (B : Begins v o H) :
    Meets (Builtin.«enumerate.__new__» ⟨[.type "enumerate", v], []⟩) (fun _ R s => H s.heap ∧
      R (.ok (.ret (.ref (s.heap.push o).objs.size))) { s with heap := (s.heap.push o).push { cls := .type "enumerate", data := .fields #[.none, .bool false, .ref s.heap.objs.size, rawInt 0, .none, .none] } }) :=
  .of_wp fun prog w A R s h => by
    obtain ⟨hp, g, d, tk, os⟩ := s; obtain ⟨h1, h⟩ := h
    have hsub := sub_enumerate
    have q1 : ∀ {A' : Around} {E : Value → Shared → Prop} {Q : Value → Shared → Prop}, Q (.ref hp.objs.size) ⟨hp.push o, g, d, tk, os⟩ → wpAny (model prog w) A' (pyIter v) Q E ⟨hp, g, d, tk, os⟩ :=
      fun q => B.iter prog w _ _ ⟨hp, g, d, tk, os⟩ _ h1 q
    wp_walk using q1
    refine wpAny_stack_any fun st => wpAny_pure ?_
    split
    · rename_i c _ _ _ _ _
      cases (c == Value.type "enumerate")
      · wp_walk using q1
        exact ⟨_, rfl, h⟩
      · wp_walk using q1
        exact ⟨_, rfl, h⟩
    · wp_walk using q1
      exact ⟨_, rfl, h⟩
section
variable {prog : Program} {w : World} {A : Around} {E : Value → Shared → Prop} {s : Shared}
theorem begins1 {v : Value} {o : Obj} {H : Heap → Prop} {Q : Value → Shared → Prop} (B : Begins v o H) (h1 : H s.heap)
    (h : ∀ h', IsEnum h' (s.heap.objs.size + 1) s.heap.objs.size 0 .none → h'.get? s.heap.objs.size = some o → h'.objs.size = s.heap.objs.size + 2 →
      (∀ b o, s.heap.get? b = some o → h'.get? b = some o) → Q (.ref (s.heap.objs.size + 1)) { s with heap := h' }) :
    wpAny (model prog w) A (call (.type "enumerate") [v]) Q E s := by
  refine callType_new F.called_enumerate (by decide) (F.typeCall_enumerate_1 _) (F.newCall_enumerate_1 _) (fun obj => F.args_object_init_2 obj _) F.entry_enumerate_new
    (new1 B) ⟨h1, ?_⟩
  have hz : (s.heap.push o).objs.size = s.heap.objs.size + 1 := Heap.size_push ..
  show _ ∧ _
  rw [hz]
  have he : IsEnum ((s.heap.push o).push { cls := .type "enumerate", data := .fields #[.none, .bool false, .ref s.heap.objs.size, rawInt 0, .none, .none] }) (s.heap.objs.size + 1) s.heap.objs.size 0 .none := by
    have := Heap.get?_push_size (s.heap.push o) (o := { cls := .type "enumerate", data := .fields #[.none, .bool false, .ref s.heap.objs.size, rawInt 0, .none, .none] }) rfl
    rw [hz] at this; exact this
  refine ⟨⟨_, he, rfl⟩, h _ he (Heap.get?_push_of_some _ (Heap.get?_push_size _ B.free)) (by rw [Heap.size_push, hz]) fun b o x => Heap.get?_push_of_some _ (Heap.get?_push_of_some _ x)⟩
end
end YEn
end PySem
namespace Y
open PySem PySem.Spec PyProof.Rows L2
/-- the tuple at a, each item in a new pair -/
def Itu (K : PySem.W.Frag) (a : Addr) : It :=
  ⟨fun i H => ∃ (xs : List V) (x : V), SqT K H a xs ∧ xs[i]? = some x, fun i H v H' => ∃ T x, v = .ref T ∧ H T = none ∧ H' = upd H T (.tup [.int (i : Nat), x]) ∧ ∀ xs, SqT K H a xs → xs[i]? = some x, fun i H => ∃ xs : List V, SqT K H a xs ∧ xs.length ≤ i⟩
theorem turn_enumT {P : Program} {w : World} {K : PySem.W.Frag} {elts : List Expr} {kk : Nat} {tpos : Pos} (a e it : Addr) (items : Array Value) (hae : a ≠ it) :
    Turn P w K (.Tuple elts kk tpos) (Itu K a) [e, it] e (fun i h => (∃ old, IsEnum h e it ((i : Nat) : Int) old) ∧ h.IsTupleIter it a i ∧ e ≠ it) where
  mem := by simp
  obj := fun i h st b hb => by
    obtain ⟨⟨old, he⟩, ⟨o, ho, hc, hd⟩, _⟩ := st
    have e' : b = e ∨ b = it := by simpa using hb
    rcases e' with z | z
    · rw [z]; exact ⟨_, he, fun v q => nomatch q⟩
    · rw [z]; exact ⟨o, ho, fun v q => by rw [hd] at q; cases q⟩
  keep := fun i h h' st k => let ⟨⟨old, he⟩, hi, hne⟩ := st; ⟨⟨old, k e (by simp) _ he⟩, hi.at fun o q => k it (by simp) o q, hne⟩
  item := by
    intro X hP hw hK hc i pins s σ H E I hf st hg
    subst hP hw hK
    obtain ⟨⟨old, he⟩, hit, hne⟩ := st
    obtain ⟨xs, x, hq, hx⟩ := hg
    obtain ⟨its, rv, p, hz⟩ := I.tuple hq
    obtain ⟨u, hu, ru⟩ := rv.get hx
    have hel : e < s.heap.objs.size := Heap.lt_size he
    have D := Draws.tuple (prog := X.prog) (w := X.w) (A := X.A.in1) (I.ok.hd hc) it a hae its.toArray
    have hea : e ≠ a := fun z => by
      obtain ⟨o, ho, ho2, _⟩ := p
      rw [← z, he] at ho; cases ho; injection ho2 with h3; exact absurd h3 (by decide)
    have hlt : i < its.toArray.size := by
      have := (List.getElem?_eq_some_iff.mp hu).1
      simpa using this
    refine wpAny_pyNext_enum_itemD D he ⟨hit, p⟩ hlt hne (by simp [hne, hea]) fun y h' tk hy ho hst' hT hsz hk => ?_
    have ey : y = u := by
      have : its.toArray[i]? = some u := by simpa using hu
      rw [this] at hy
      exact (Option.some.inj hy).symm
    subst ey
    refine ⟨_, rfl, wpAny_letOwnedTupleGo_enum (s := { s with heap := h', toks := tk + 1 }) ho fun h'' he' sb => ?_⟩
    have hT2 : h''.get? s.heap.objs.size = some { cls := .type "tuple", data := .seq #[.int i tk, y] } := (sb.2 _ (Nat.ne_of_gt hel)).trans hT
    have new : ObjOk X.prog X.w (upd H s.heap.objs.size (.tup [.int (i : Nat), x])) h'' s.heap.objs.size (.tup [.int (i : Nat), x]) :=
      ⟨by show 2 ≤ sizeLine; decide, [.int i tk, y], .cons ⟨_, rfl⟩ (.cons ru .nil), ⟨_, hT2, rfl, _, rfl⟩⟩
    have I1 : Inv X pins σ (upd H s.heap.objs.size (.tup [.int (i : Nat), x])) { s with heap := h'', toks := tk + 1 } :=
      I.turnedNew (ch := [e, it]) (fun b ob hb q => (sb.2 b (fun z => hb (by simp [z]))).trans (hk b ob (fun z => hb (by simp [z])) (fun z => hb (by simp [z])) q)) hf (Nat.le_refl _) new
    refine ⟨.ref s.heap.objs.size, _, I1, rfl, ⟨_, x, rfl, I.hok.fresh (Nat.le_refl _), rfl, fun ys hy => by rw [I.tuple_inj hy hq]; exact hx⟩, ⟨⟨y, ?_⟩, hst'.1.at fun o q => (sb.2 it (Ne.symm hne)).trans q, hne⟩, fun b hb => ?_⟩
    · have e1 : ((i + 1 : Nat) : Int) = (i : Int) + 1 := by omega
      rw [e1]; exact he'
    · have hil : it < s.heap.objs.size := by obtain ⟨_, q, _⟩ := hit; exact Heap.lt_size q
      have e' : b = e ∨ b = it := by simpa using hb
      have hb' : b < s.heap.objs.size := by
        rcases e' with z | z
        · rw [z]; exact hel
        · rw [z]; exact hil
      rw [upd_ne (Nat.ne_of_lt hb')]
      exact (hf b hb).1
  done := by
    intro X hP hw hK hc i pins s σ H E I hf st hg
    subst hP hw hK
    obtain ⟨⟨old, he⟩, hit, hne⟩ := st
    obtain ⟨xs, hq, hx⟩ := hg
    obtain ⟨its, rv, p, hz⟩ := I.tuple hq
    obtain ⟨f0, f1, f2, f3, f4, f5⟩ := hf it (by simp)
    have hl := rv.length
    have hT : s.TypeIs (.ref e) "enumerate" := ⟨_, he, rfl⟩
    unfold pyNext
    refine wpAny_bind (wpAny_attempt (wpAny_callSpecial?_slot (name := Str.ofString "__next__") hT F.slot_enumerate_next
      (wpAny_call_entry F.slot_enumerate_next hT F.entry_enumerate_next ?_ (F.args_enumerate_next_1 _))))
    show wpAny _ _ (field (.ref e) 2 >>= _) _ _ _
    refine wpAny_bind (wpAny_field he rfl (x := .ref it) rfl ?_)
    refine wpAny_bind (wpAny_nextOf_tuple_end (I.ok.hd hc) hit p (by simp; omega) fun h' x eb hx' => ?_)
    obtain ⟨o, ho, hcl⟩ := hx'
    refine wpAny_bind (wpAny_isInstance (T := "StopIteration") (b := true) ⟨o, ho, hcl⟩ isSubtype_stop ?_)
    exact wpAny_pure ⟨rfl, I.turned (t' := s.toks) (fun b o hb q => eb b o hb q) f0 f1 f3 f4 f5⟩
  self := fun A i s Q E st h => let ⟨⟨_, he⟩, _⟩ := st; wpAny_pyIter_enum he h
def iEnT (K : PySem.W.Frag) (ta : TA) : TI := fun σ H R => ta σ H fun vs H1 => ∃ a xs, vs = [.ref a] ∧ SqT K H1 a xs ∧ R (Itu K a) H1
theorem pi_enumT {X : Cx} {e : Expr} {ta : TA} {p pos tpos : Pos} {elts : List Expr} {kk : Nat} (hg : Gl X "enumerate") (hm : X.mg "enumerate" = none) (ha : PA X [e] ta) (hs : starEach [e] X.env = [(false, eval e X.env)] := by rfl) :
    PI X (.Tuple elts kk tpos) (.Call (.Name "enumerate" p) [e] [] pos) (iEnT X.K ta) := by
  refine ⟨fun pins s σ H R I h => ?_⟩
  refine Call_ (ld_blt I hg hm boot_enumerate (PyProof.Rows.callWith_type1 (thn (ha.run pos pins s σ H _ I h) fun us s1 ⟨vs, H1, I1, r1, q1⟩ => ?_) hs rfl))
  obtain ⟨a, xs, ex, hq, q⟩ := q1
  subst ex
  cases r1 with
  | cons r rr =>
    cases rr
    cases r
    obtain ⟨its, rv, p', hz⟩ := I1.tuple hq
    have hal : a < s1.heap.objs.size := by obtain ⟨o, ho, _⟩ := p'; exact Heap.lt_size ho
    refine PySem.YEn.begins1 (begins_tuple a its.toArray) p' fun h' he hit hsz hk => wpAny_pyIter_enum he ?_
    have I2 : Inv X pins σ H1 { s1 with heap := h' } := I1.kept (t' := s1.toks) hk
    have hit2 : h'.IsTupleIter s1.heap.objs.size a 0 := ⟨_, hit, rfl, rfl⟩
    refine ⟨s1.heap.objs.size + 1, [s1.heap.objs.size + 1, s1.heap.objs.size], _, _, H1, rfl, I2, turn_enumT a (s1.heap.objs.size + 1) s1.heap.objs.size its.toArray (Nat.ne_of_lt hal), ⟨⟨.none, he⟩, hit2, Nat.succ_ne_self _⟩, fun b hb => ?_, q⟩
    have e' : b = s1.heap.objs.size + 1 ∨ b = s1.heap.objs.size := by simpa using hb
    have hle : s1.heap.objs.size ≤ b := by
      rcases e' with z | z
      · rw [z]; exact Nat.le_add_right _ _
      · rw [z]; exact Nat.le_refl _
    exact I1.fpOk hle (I1.hok.fresh hle)
section
variable {K : PySem.W.Frag} {σ : L2.St} {G H : Hp} {Q : VK} {x : V} {ds : List PyData} {ta : TA} {R : It → Hp → Prop}
theorem src_enumT {M : List Addr} {a : Addr} {xs : List V} (hs : SqT K G a xs) (hd : DpAll K G xs ds) : Src K M (Itu K a) G H (prs 0 ds) where
  go := fun i G' H' n hi => ⟨xs, xs[i]'(by rw [dpAll_len hd, ← prs_len 0 ds]; exact hi), n.gh.seqT (n.gg.seqT hs), by rw [prs_len] at hi; simp [dpAll_len hd, hi]⟩
  stop := fun i G' H' n hi => ⟨xs, n.gh.seqT (n.gg.seqT hs), by rw [dpAll_len hd, ← prs_len 0 ds]; exact hi⟩
  yld := fun i d G' H' x H'' n hi y => by
    obtain ⟨T, u, rfl, hT, rfl, f⟩ := y
    have hx := f xs (n.gh.seqT (n.gg.seqT hs))
    rw [prs_get] at hi
    cases q : ds[i]? with
    | none => rw [q] at hi; cases hi
    | some d0 =>
      rw [q] at hi
      cases hi
      obtain ⟨v, hv, dv⟩ := dpAll_get hd q
      rw [hx] at hv
      cases hv
      have h2 := nx_tup (K := K) n.gh (xs := [.int ((i : Nat) : Int), u]) (ds := [.int ((0 + i : Nat) : Int), d0]) (by rw [Nat.zero_add]; exact .cons (.int _) (.cons (dp_mono n.gg dv) .nil)) hT
      exact ⟨_, h2.1, h2.2⟩
theorem g_iEnT (q : ta σ H fun vs H1 => ∃ a xs, vs = [.ref a] ∧ SqT K H1 a xs ∧ R (Itu K a) H1) : iEnT K ta σ H R := q
theorem g_walkEt {P : Addr → Prop} (e : Ex G H) (h : Dp K G x (.tuple ds)) (q : ∀ a, x = .ref a → (∀ M, Src K M (Itu K a) G H (prs 0 ds)) → P a) : ∃ a xs, [x] = [.ref a] ∧ SqT K H a xs ∧ P a := by
  obtain ⟨a, xs, rfl, hs, hd⟩ := dp_tup h
  exact ⟨a, xs, rfl, e.seqT hs, q a rfl fun M => src_enumT hs hd⟩
end
end Y

namespace Y
open PySem PySem.Spec PyProof.Rows L2
section
variable {K : PySem.W.Frag} {σ : L2.St} {G H : Hp} {R : L2.St → Hp → Prop} {v : V} {d1 d2 d3 d4 d5 : PyData} {i j k l m : Nat}
theorem g_un2 (e : Ex G H) (h : Dp K G v (.tuple [d1, d2])) (q : ∀ v1 v2, Dp K G v1 d1 → Dp K G v2 d2 → R ((σ.set i (some v1)).set j (some v2)) H) : gTup K 2 (gCons (gName i) (gCons (gName j) gNil)) v σ H R := by
  obtain ⟨a, xs, rfl, hs, hd⟩ := dp_tup h
  cases hd with
  | cons h1 t => cases t with
    | cons h2 t => cases t; exact ⟨a, _, rfl, e.seqT hs, rfl, _, _, rfl, _, _, rfl, rfl, q _ _ h1 h2⟩
theorem g_un3 (e : Ex G H) (h : Dp K G v (.tuple [d1, d2, d3])) (q : ∀ v1 v2 v3, Dp K G v1 d1 → Dp K G v2 d2 → Dp K G v3 d3 → R (((σ.set i (some v1)).set j (some v2)).set k (some v3)) H) : gTup K 3 (gCons (gName i) (gCons (gName j) (gCons (gName k) gNil))) v σ H R := by
  obtain ⟨a, xs, rfl, hs, hd⟩ := dp_tup h
  cases hd with
  | cons h1 t => cases t with
    | cons h2 t => cases t with
      | cons h3 t => cases t; exact ⟨a, _, rfl, e.seqT hs, rfl, _, _, rfl, _, _, rfl, _, _, rfl, rfl, q _ _ _ h1 h2 h3⟩
theorem g_un5 (e : Ex G H) (h : Dp K G v (.tuple [d1, d2, d3, d4, d5])) (q : ∀ v1 v2 v3 v4 v5, Dp K G v1 d1 → Dp K G v2 d2 → Dp K G v3 d3 → Dp K G v4 d4 → Dp K G v5 d5 → R (((((σ.set i (some v1)).set j (some v2)).set k (some v3)).set l (some v4)).set m (some v5)) H) :
    gTup K 5 (gCons (gName i) (gCons (gName j) (gCons (gName k) (gCons (gName l) (gCons (gName m) gNil))))) v σ H R := by
  obtain ⟨a, xs, rfl, hs, hd⟩ := dp_tup h
  cases hd with
  | cons h1 t => cases t with
    | cons h2 t => cases t with
      | cons h3 t => cases t with
        | cons h4 t => cases t with
          | cons h5 t => cases t; exact ⟨a, _, rfl, e.seqT hs, rfl, _, _, rfl, _, _, rfl, _, _, rfl, _, _, rfl, _, _, rfl, rfl, q _ _ _ _ _ h1 h2 h3 h4 h5⟩
theorem dp_non_iff {d : PyData} (h : Dp K G v d) : v = .non ↔ d = .none := by
  constructor
  · intro e; subst e; cases h; rfl
  · intro e; subst e; exact dp_non h
end
def isNn : PyData → Bool
  | .none => true
  | _ => false
theorem isNn_iff {d : PyData} : isNn d = true ↔ d = .none := by cases d <;> simp [isNn]
theorem isNn_f {d : PyData} (h : ¬ d = .none) : isNn d = false := by
  cases e : isNn d with
  | true => exact absurd (isNn_iff.mp e) h
  | false => rfl
/-- lengths of data -/
def dlen : PyData → Nat
  | .tuple xs => xs.length
  | .list xs => xs.length
  | .str s => s.length
  | _ => 0
end Y

namespace Y
open PySem PySem.Spec PyProof.Rows L2
/-! ### the rules with the written part by name -/
section
variable {X : Cx} {K : PySem.W.Frag}
theorem ix_listK (h : X.K = K) : IxR X (rIxL K) := h ▸ ix_list
theorem ix_tupK (h : X.K = K) : IxR X (rIxT K) := h ▸ ix_tup
theorem call_lenK (h : X.K = K) : CallR X (.builtin "len") (rLen K) := h ▸ call_len
theorem call_isiK (h : X.K = K) : CallR X (.builtin "isinstance") (rIsi K) := h ▸ call_isi
theorem call_listK (h : X.K = K) : CallR X (.type "list") (rListOf K) := h ▸ call_list
theorem call_tupleK (h : X.K = K) : CallR X (.type "tuple") (rTupOf K) := h ▸ call_tuple
theorem cr_allK (h : X.K = K) (hc : X.calm = true) : CallR X (.builtin "all") (rAll K) := h ▸ cr_all hc
theorem cr_anyK (h : X.K = K) (hc : X.calm = true) : CallR X (.builtin "any") (rAny K) := h ▸ cr_any hc
theorem cr_sumK (h : X.K = K) (hc : X.calm = true) : CallR X (.builtin "sum") (rSum K) := h ▸ cr_sum hc
theorem cr_maxK (h : X.K = K) (hc : X.calm = true) : CallR X (.builtin "max") (rMax K) := h ▸ cr_max hc
theorem cr_minK (h : X.K = K) (hc : X.calm = true) : CallR X (.builtin "min") (rMin K) := h ▸ cr_min hc
theorem op_eqDK (h : X.K = K) (hu : X.A.units + 64 < cLine) : OpR X (compareOp .Eq) (rEqD K) := h ▸ op_eqD hu
theorem op_neDK (h : X.K = K) (hu : X.A.units + 64 < cLine) : OpR X (compareOp .NotEq) (rNeD K) := h ▸ op_neD hu
theorem op_catAK (h : X.K = K) : OpR X (binaryOp .Add) (rCatA K) := h ▸ op_catA
theorem op_repTK (h : X.K = K) : OpR X (binaryOp .Mult) (rRepT K) := h ▸ op_repT
theorem op_inK (h : X.K = K) : OpR X (compareOp .In) (rIn K false) := h ▸ op_in_seq
theorem op_notInK (h : X.K = K) : OpR X (compareOp .NotIn) (rIn K true) := h ▸ op_notIn_seq
theorem sl_listK (h : X.K = K) : SlR X (rSlL K) := h ▸ sl_list
theorem sl_tupAK (h : X.K = K) : SlR X (rSlA K) := h ▸ sl_tupA
variable {l o e e2 value tg : Expr} {es elts : List Expr} {f name : Str} {pos pos' apos cpos p tpos : Pos} {tl ta tv te to : TE} {kk n k : Nat} {t : TA} {ts : TGs} {T id : String} {r : V → List V → Hp → VK → Prop}
theorem pi_listK (h : X.K = K) (hl : PE X l tl) : PI X tg l (iList K tl) := h ▸ pi_list hl
theorem pi_tupK (h : X.K = K) (hl : PE X l tl) : PI X tg l (iTup K tl) := h ▸ pi_tup hl
theorem pi_enumK (h : X.K = K) (hg : Gl X "enumerate") (hm : X.mg "enumerate" = none) (ha : PA X [e] t) (hs : starEach [e] X.env = [(false, eval e X.env)] := by rfl) :
    PI X (.Tuple elts kk tpos) (.Call (.Name "enumerate" p) [e] [] pos) (iEnum K t) := h ▸ pi_enum hg hm ha hs
theorem pi_enumTK (h : X.K = K) (hg : Gl X "enumerate") (hm : X.mg "enumerate" = none) (ha : PA X [e] t) (hs : starEach [e] X.env = [(false, eval e X.env)] := by rfl) :
    PI X (.Tuple elts kk tpos) (.Call (.Name "enumerate" p) [e] [] pos) (iEnT K t) := h ▸ pi_enumT hg hm ha hs
theorem pi_zipK (h : X.K = K) (hg : Gl X "zip") (hm : X.mg "zip" = none) (ha : PA X [e, e2] t)
    (hs : starEach [e, e2] X.env = (false, eval e X.env) :: starEach [e2] X.env := by rfl) (hpl : (backTo pos (starEach [e2] X.env)).any (·.1) = false := by rfl) :
    PI X (.Tuple elts kk tpos) (.Call (.Name "zip" p) [e, e2] [] pos) (iZip K t) := h ▸ pi_zip hg hm ha hs hpl
theorem pi_reversedK (h : X.K = K) (hg : Gl X "reversed") (hm : X.mg "reversed" = none) (ha : PA X [e] t) (hs : starEach [e] X.env = [(false, eval e X.env)] := by rfl) : PI X tg (.Call (.Name "reversed" p) [e] [] pos) (iRev K t) := h ▸ pi_reversed hg hm ha hs
theorem pg_tupK (h : X.K = K) (hc : X.calm = true) (hp : PGs X es ts) (hn : (assignEach es X.env).length = n := by rfl) (hst : (assignEach es X.env).findIdx? (·.1) = none := by rfl) : PG X (.Tuple es k pos) (gTup K n ts) := h ▸ pg_tup hc hp hn hst
theorem pg_lstK (h : X.K = K) (hc : X.calm = true) (hp : PGs X es ts) (hn : (assignEach es X.env).length = n := by rfl) (hst : (assignEach es X.env).findIdx? (·.1) = none := by rfl) : PG X (.Tuple es k pos) (gLst K n ts) := h ▸ pg_lst hc hp hn hst
theorem pe_fldK (h : X.K = K) (he : PE X e ta) (hb : attributeBase e f X.env (eval e X.env) = eval e X.env) : PE X (.Attribute e f pos) (tFld K ta f) := h ▸ pe_fld he hb
theorem ps_fldK (h : X.K = K) (ha : PE X o ta) (hv : PE X value tv) (hs : swapsWith value (some (.Attribute o f pos')) pos.line X.env = pure false) : PS X (.Assign [.Attribute o f pos'] value pos) (sFld K ta tv f) := h ▸ ps_fld ha hv hs
theorem pe_bmK (h : X.K = K) (pa : PlainAttrs T) (slot : Slot T name id) (hty : typeOf (.builtin id) = pure (.type "method_descriptor")) (hm : MtR X id r) (ho : PE X o to) (ha : PA X (e :: es) t)
    (hbase : attributeBase o name X.env (eval o X.env) = eval o X.env := by rfl)
    (hfew : ((backTo cpos (starEach (e :: es) X.env)).all (fun x => !x.1) && (backToKw cpos (keywordEach [] X.env)).all (fun x => x.1.isSome)
      && decide ((e :: es).length + ([] : List Keyword).length + (if ([] : List Keyword).isEmpty then 0 else 1) < 30)) = true := by rfl)
    (hline : (apos.endLine == cpos.line) = true := by rfl) (hs : starEach (e :: es) X.env = (false, eval e X.env) :: starEach es X.env := by rfl) (hplain : (backTo cpos (starEach es X.env)).any (·.1) = false := by rfl) :
    PE X (.Call (.Attribute o name apos) (e :: es) [] cpos) (tBM K T r to t) := h ▸ pe_bm pa slot hty hm ho ha hbase hfew hline hs hplain
theorem pe_bm0K (h : X.K = K) (pa : PlainAttrs T) (slot : Slot T name id) (hty : typeOf (.builtin id) = pure (.type "method_descriptor")) (hm : MtR X id r) (ho : PE X o to)
    (hbase : attributeBase o name X.env (eval o X.env) = eval o X.env := by rfl) (hline : (apos.endLine == cpos.line) = true := by rfl) :
    PE X (.Call (.Attribute o name apos) [] [] cpos) (tBM0 K T r to) := h ▸ pe_bm0 pa slot hty hm ho hbase hline
def rJoin (K : PySem.W.Frag) : V → List V → Hp → VK → Prop := fun x xs H Q => ∃ a p, ∃ ys : List Str, x = .str a ∧ xs = [.ref p] ∧ (SqL K H p (ys.map V.str) ∨ SqT K H p (ys.map V.str)) ∧
      (ys.map (·.length)).sum + ys.length * a.length ≤ 16777216 ∧ Q (.str (Txt.join a ys)) H
theorem pe_joinK (h : X.K = K) (ho : PE X o to) (he : PE X e te) (hs : starEach [e] X.env = [(false, eval e X.env)] := by rfl) (hbase : attributeBase o "join" X.env (eval o X.env) = eval o X.env := by rfl) (hline : (apos.endLine == pos.line) = true := by rfl) :
    PE X (.Call (.Attribute o "join" apos) [e] [] pos) (tM1 (rJoin K) to te) := h ▸ pe_join ho he hs hbase hline
end
theorem dec_ni (a b : Nat) : decide ((a : Int) = (b : Int)) = decide (a = b) := by rw [decide_eq_decide]; omega
end Y

namespace Y
open PySem PySem.Spec PyProof.Rows L2
/-! ### an exception in the air of a body or of a comprehension's block: the frame L that notes it is told -/
def XEL (X : Cx) (E : XK) (L : Addr) (u : Value) (s' : Shared) : Prop :=
  ∃ (a : Addr) (B : Heap) (sI : Shared) (pins : List (Addr × Obj)) (σ : L2.St) (H : Hp) (cls : Value) (d : Option Addr),
    u = .ref a ∧ Inv X pins σ H sI ∧ (∀ b o, sI.heap.get? b = some o → b ∉ frs X.stack → B.get? b = some o) ∧ sI.heap.UpToSlots s'.heap ∧
      Sky B X.stack a (Zc cls d) L s'.heap ∧ H a = none ∧ s'.os = sI.os ∧ AllBare s'.gens ∧ E cls d H
def TakesL (X : Cx) (E : XK) (L : Addr) : Prop := ∀ u s', XEL X E L u s' → X.xe u s'
theorem takesL_of {X : Cx} {E : XK} (t : Takes X fun cls d _ H => E cls d H) : TakesL X E X.env.locals := fun u s' ⟨a, B, sI, pins, σ, H, cls, d, e, I, r⟩ => t u s' ⟨a, B, sI, pins, σ, H, cls, d, e, I, r⟩
theorem takes_ofL {X : Cx} {E : XK} (t : TakesL X E X.env.locals) : Takes X fun cls d _ H => E cls d H := fun u s' ⟨a, B, sI, pins, σ, H, cls, d, e, I, r⟩ => t u s' ⟨a, B, sI, pins, σ, H, cls, d, e, I, r⟩
/-- a call's exception is in flight: it is in our air, whatever frame is told -/
theorem passL {X : Cx} {E : XK} {L : Addr} (t : TakesL X E L) : Passes (L2.CX X.prog X.w) X E := fun pins σ H s u s' I c => by
  obtain ⟨a, B, sI, pins', σ', H', cls, d, rfl, J, nb, up, sky, na, os, ag, w⟩ := XE.of_call (W := fun cls d _ H => E cls d H) I (fun _ _ _ h => h) c
  obtain ⟨a2, B2, H2, cls2, d2, e2, fl, _⟩ := c
  have ea : a2 = a := by injection e2 with z; exact z.symm
  subst ea
  refine t _ _ ⟨a2, B, sI, pins', σ', H', cls, d, rfl, J, nb, up, ?_, na, os, ag, w⟩
  obtain ⟨_, _, _, oe, vs, T, oT, ts, he, _, hd, h1, _, _, hT, hdT, h3⟩ := fl
  rcases sky with ⟨_, _, _, oe', vs', he', _, hd', h1'⟩ | z | ⟨_, _, _, oe', vs', T', oT', ts', he', _, hd', h1', _, _, hT', hdT', h3'⟩
  · rw [he] at he'; cases he'; rw [hd] at hd'; cases hd'; rw [h1] at h1'; cases h1'
  · exact .inr (.inl z)
  · rw [he] at he'; cases he'; rw [hd] at hd'; cases hd'; rw [h1] at h1'; cases h1'; rw [hT] at hT'; cases hT'; rw [hdT] at hdT'; cases hdT'; rw [h3] at h3'; cases h3'

section
variable {X : Cx} {pins : List (Addr × Obj)} {σ : L2.St} {H : Hp} {s : Shared}
/-- an untracked object of ours is not looked at any more -/
theorem inv_hide {C : Addr} (I : Inv X pins σ H s) (hC : H C = none) (h1 : C ∈ X.ex ∨ X.s_0.heap.objs.size ≤ C) (h2 : C ≠ X.env.locals) (h3 : ∀ x c, X.env.cells.lookup x = some c → c ≠ C) (h4 : ∀ p ∈ X.pn ++ pins, p.1 ≠ C) {G : Heap}
    (g : ∀ b, b ≠ C → G.get? b = s.heap.get? b) : Inv X pins σ H { s with heap := G } := by
  refine I.step (g' := s.gens) (d' := s.drawn) (t' := s.toks) (ch := [C]) (fun b hb => ?_) (fun b o _ _ hc q _ => ?_) (fun b o _ _ hc q _ => ⟨o.slots, ?_⟩) (fun _ _ _ _ n => n) (fun b o hc q => ⟨o, ?_⟩) (fun _ _ q => q) (fun _ _ _ q => q) (fun b ps q => ⟨#[], by rw [q]; simp⟩) (fun m hm => ?_) (fun b u q => ?_) I.bare
  · have z : b = C := by simpa using hb
    subst z
    exact ⟨h1, h2, h3, h4⟩
  · rw [g b (by simpa using hc)]; exact q
  · rw [g b (by simpa using hc)]; exact q
  · rw [g b (by simpa using hc)]; exact q
  · obtain ⟨o, es, ep, ho, r⟩ := hm
    exact ⟨o, es, ep, (g _ (Ne.symm h2)).trans ho, r⟩
  · refine (I.hok b u q).stay (fun c v hc z => (g c ?_).trans z) (fun _ z => z) fun _ _ z => z
    intro e
    subst e
    rcases hc with z | z
    · rw [← z, hC] at q; cases q
    · rw [hC] at z; cases z
/-- out of a block with its variables at C: noted by the frame L, the block let go, handed on -/
theorem block_fails {E : XK} {L C : Addr} {env0 ce : Env} {outer0 : List Env} {B : Heap} {sI s' : Shared} {a : Addr} {cls : Value} {d : Option Addr} {m : Str → Option Value} (hst : X.stack = env0 :: outer0) (hf : env0.frame = some L) (hc : ce.frame = some L) (tk : TakesL X E L)
    (hC : ce.locals = C) (I : Inv X pins σ H sI) (nC : H C = none) (h1 : C ∈ X.ex ∨ X.s_0.heap.objs.size ≤ C) (h2 : C ≠ X.env.locals) (h3 : ∀ x c, X.env.cells.lookup x = some c → c ≠ C) (h4 : ∀ p ∈ X.pn ++ pins, p.1 ≠ C) (hn : sI.heap.Ns C m)
    (nb : ∀ b o, sI.heap.get? b = some o → b ∉ frs X.stack → B.get? b = some o) (up : sI.heap.UpToSlots s'.heap) (sky : Sky B X.stack a (Zc cls d) L s'.heap) (na : H a = none) (os : s'.os = sI.os) (ag : AllBare s'.gens) (w : E cls d H) :
    notedBy (model X.prog X.w) X.A ce (CompFails (model X.prog X.w) X.A X.xe ce) (.ref a) s' := by
  have hfr : X.A.frames = some (env0 :: outer0) := by rw [I.ok.frames, hst]
  rw [hst] at sky
  have fin : ∀ hp1, HandSPX.HeldZ B (env0 :: outer0) a (Zc cls d) L hp1 → s'.heap.UpToSlots hp1 → CompFails (model X.prog X.w) X.A X.xe ce (.ref a) { s' with heap := hp1 } := by
    intro hp1 hh up1
    have up01 := up.trans up1
    have hn1 : hp1.Ns C m := by
      obtain ⟨o, es, ep, ho, hd, r⟩ := hn
      obtain ⟨sl, q⟩ := up01 C o ho fun vs z => by rw [hd] at z; cases z
      exact ⟨_, es, ep, q, hd, r⟩
    refine ⟨m, by rw [hC]; exact hn1, fun hp2 m2 hn2 hs2 => ?_⟩
    rw [hC] at hn2 hs2
    obtain ⟨f1, f2, f3, oe, vs, T, oT, ts, q1, q2, q3, q4, q5, q6, q7, q8, q9⟩ := hh
    have notC : ∀ {b : Addr} {o : Obj} {xs : Array Value}, hp1.get? b = some o → o.data = .fields xs → b ≠ C := fun {b o xs} z z2 z3 => by
      obtain ⟨o', es, ep, ho, hd, _⟩ := hn1
      rw [z3, ho] at z; cases z
      rw [hd] at z2; cases z2
    obtain ⟨B2, b1, b2⟩ := restrict B fun b => decide (b ≠ C)
    have bB : ∀ b, b ≠ C → B2.get? b = B.get? b := fun b hb => b1 b (by simp [hb])
    have bC : B2.get? C = none := b2 C (by simp)
    have st2 : B2.StaysIn hp2 := fun b o z => by
      by_cases hb : b = C
      · subst hb; rw [bC] at z; cases z
      · rw [bB b hb] at z
        exact (hs2.2 b hb).trans (f1 b o z)
    have ff2 : hp2.FunFrames B2 (env0 :: outer0) := by
      refine funFrames_none (Heap.FunFrames.sameBut hs2 hn2 f3) fun b hb => ?_
      by_cases z : b = C
      · rw [z]; exact bC
      · rw [bB b z]; exact (f3.mem hb).1
    have tr2 : HandSPX.TracedZ hp2 B2 a (Zc cls d) (rawInt L) := by
      refine ⟨oe, vs, T, oT, ts, (hs2.2 a (notC q1 q3)).trans q1, q2, q3, q4, ?_, q6, (hs2.2 T (notC q7 q8)).trans q7, q8, q9⟩
      rw [bB T (notC q7 q8)]
      exact q5
    have na2 : B2.get? a = none := by rw [bB a (notC q1 q3)]; exact f2
    unfold PySem.passOn
    refine wpAny_bind (wpAny_field ((hs2.2 a (notC q1 q3)).trans q1) q3 q4 ?_)
    rw [if_neg (show ¬ ((Value.ref T == Value.none) = true) from by simp)]
    rw [hc]
    have go : wpAny (model X.prog X.w) X.A (setFlight (.ref a) (some L)) (fun _ s4 => wpAny (model X.prog X.w) X.A (throw (.ref a) : Sem Value) (fun _ _ => False) X.xe s4) X.xe { s' with heap := hp2 } := by
      refine HandSPX.setFlight_anyZ (s := { s' with heap := hp2 }) st2 ff2 tr2 fun hp3 k1 k2 k3 k4 => wpAny_throw (tk _ _ ?_)
      obtain ⟨G, g1, g2⟩ := restrict sI.heap fun b => decide (b ≠ C)
      have gG : ∀ b, b ≠ C → G.get? b = sI.heap.get? b := fun b hb => g1 b (by simp [hb])
      have gC : G.get? C = none := g2 C (by simp)
      refine ⟨a, B2, { sI with heap := G }, pins, σ, H, cls, d, rfl, inv_hide I nC h1 h2 h3 h4 gG, fun b o z hb => ?_, fun b o z hnf => ?_, ?_, na, os, ag, w⟩
      · by_cases q : b = C
        · subst q; rw [show (Shared.heap { sI with heap := G }).get? b = G.get? b from rfl, gC] at z; cases z
        · rw [bB b q]
          exact nb b o ((gG b q).symm.trans z) hb
      · by_cases q : b = C
        · subst q; rw [show (Shared.heap { sI with heap := G }).get? b = G.get? b from rfl, gC] at z; cases z
        · obtain ⟨sl, z1⟩ := up01 b o ((gG b q).symm.trans z) hnf
          obtain ⟨sl2, z2⟩ := k4 b _ ((hs2.2 b q).trans z1) hnf
          exact ⟨sl2, z2⟩
      · rw [hst]
        exact .inr (.inr ⟨k1, na2, k2, k3⟩)
    first
      | exact wpAny_bind (wpAny_pure (wpAny_bind go))
      | exact wpAny_bind go
  show wpAny (model X.prog X.w) X.A (noteFrame (.ref a) ce) _ _ s'
  rw [noteFrame_env _ (hc.trans hf.symm)]
  rcases sky with ⟨hB, hn', hl, oe, vs, he, hz, hd, z1⟩ | fl | hh
  · exact HandSPX.look_newZ Zc.steady hfr hl hf he hB hn' hd z1 hz fin
  · exact HandSPX.looks_onZ Zc.steady hfr hf fl fin
  · exact HandSPX.againZ hf hh.2.2.2 (fin s'.heap hh (Heap.UpToSlots.refl _))
end
end Y

namespace Y
open PySem PySem.Spec PyProof.Rows L2
theorem ends_of_post {M : Model} {A : Around} {E : Value → Shared → Prop} {use : Option (Value → Sem Unit)} {Q : Value → Shared → Prop} {acc : Value} {ce : Env} {s' : Shared} (h : compPost M A E use Q acc ce.locals (.ok .next) s') : compEnds M A E use Q acc ce (.ok .next) s' := by
  cases use <;> exact h
section
variable {X : Cx}
/-- [elt for target in iter if ..] whose element may raise -/
theorem lc_coreX {pins : List (Addr × Obj)} {s : Shared} {σ : L2.St} {H : Hp} {Q : VK} {elt tg iter : Expr} {ifs : List Expr} {scope : Scope} {own : List (Str × Nat)} {pos pos' : Pos} {wi : TI} {g : TG} {tt : TT} {te : TE} {use : Option (Value → Sem Unit)} {Qf : Value → Shared → Prop}
    {E : XK} {L : Addr} {env0 : Env} {outer0 : List Env} (hst : X.stack = env0 :: outer0) (hf0 : env0.frame = some L) (hfE : X.env.frame = some L) (tk : TakesL X E L)
    (hc : X.calm = true) (hN : X.N.Nodup) (I : Inv X pins σ H s) (hi : PI X tg iter wi) (ok : BlkOk X.N X.env.scope scope own)
    (hg : ∀ (s : Shared) (H : Hp) (C : Addr) (cl : List (Str × Addr)) (fp : List Addr), PG (X.blk s H scope (compEnvC scope cl C X.env) fp) tg g) (ht : ∀ (s : Shared) (H : Hp) (C : Addr) (cl : List (Str × Addr)) (fp : List Addr), PTs (X.blk s H scope (compEnvC scope cl C X.env) fp) ifs tt)
    (he : ∀ (s : Shared) (H : Hp) (C : Addr) (cl : List (Str × Addr)) (fp : List Addr) (xe : Value → Shared → Prop), TakesL ((X.blk s H scope (compEnvC scope cl C X.env) fp).wish xe) E L → PE ((X.blk s H scope (compEnvC scope cl C X.env) fp).wish xe) elt te)
    (hs : ∀ x, foldedSetIterable iter X.env x = pure x) (h : tLc wi g tt te (own.map (·.2)) σ H Q)
    (hRR : ∀ D C s' m H', Inv X pins σ H' s' → Q (.ref D) H' → s'.heap.Ns C m → FpOk X pins H' C → compPost (model X.prog X.w) X.A X.xe use Qf (.ref D) C (.ok .next) s') :
    wpAny (model X.prog X.w) X.A (comprehension (.ListComp elt [⟨tg, iter, ifs, 0⟩] scope pos) scope X.env pos' (newList []) false (eval iter X.env) use) Qf X.xe s := by
  have hfree : ∀ y ∈ scope.names, y.2 = .free → ∃ c, X.env.cells.lookup y.1 = some c := fun y hy e => by
    rcases ok.free y hy e with k | k
    · exact I.ok.has _ (.inl k)
    · exact I.ok.has _ (.inr k)
  refine comprehension_at (use := use) rfl hs (closure_ok hfree) ok.kind (fun y hy e => by rw [ok.uniq y hy, e])
    (thn (hi.run pins s σ H _ I h) fun xv s1 hx => thn hx fun itv s2 h2 => ?_)
  obtain ⟨it, fp, tn, J, H2, e, I2, T, st2, f2, q⟩ := h2
  subst e
  refine wpAny_newObj_type (newEnv_comp ?_) (by show 0 ≤ sizeLine; decide)
  generalize hD : s2.heap.objs.size = D
  have hDn : H2 D = none := I2.hok.fresh (Nat.le_of_eq hD)
  obtain ⟨W, ⟨m0, w0⟩, turn⟩ := q D hDn
  generalize hs3 : ({ s2 with heap := s2.heap.push { cls := .type "list", data := .seq ([] : List Value).toArray } } : Shared) = s3
  have h3 : s3.heap = s2.heap.push { cls := .type "list", data := .seq ([] : List Value).toArray } := by rw [← hs3]
  have I3 : Inv X pins σ (upd H2 D (.lst [])) s3 := by
    rw [← hs3]
    refine I2.laid (t' := s2.toks) (fun b o e => Heap.get?_push_of_some _ e) (Nat.le_of_eq hD) ⟨Nat.zero_le _, [], 0, .nil, ?_⟩
    rw [← hD]
    exact Heap.get?_push_size _ rfl
  have f3 : ∀ b ∈ fp, FpOk X pins (upd H2 D (.lst [])) b ∧ b < s3.heap.objs.size := fun b hb => by
    obtain ⟨o, e, _⟩ := T.obj _ _ st2 b hb
    have hlt := Heap.lt_size e
    have nb : b ≠ D := by rw [← hD]; exact Nat.ne_of_lt hlt
    exact ⟨⟨by rw [upd_ne nb]; exact (f2 b hb).1, (f2 b hb).2⟩, by rw [h3, Heap.size_push]; exact Nat.lt_succ_of_lt hlt⟩
  have st3 : tn 0 s3.heap := T.keep _ _ _ st2 fun b _ o e => by rw [h3]; exact Heap.get?_push_of_some _ e
  have I4 := block_start I3 ok hN f3
  generalize hcl : cellsFrom (s3.heap.objs.size + 1) scope.names (cloFrom X.env.cells scope.names []) = cl at I4 ⊢
  have fC : FpOk X pins (upd H2 D (.lst [])) s3.heap.objs.size := I3.fpOk (Nat.le_refl _) (I3.hok.fresh (Nat.le_refl _))
  have pg := hg s3 (upd H2 D (.lst [])) s3.heap.objs.size cl fp
  have pt := ht s3 (upd H2 D (.lst [])) s3.heap.objs.size cl fp
  have pe := he s3 (upd H2 D (.lst [])) s3.heap.objs.size cl fp
  have nfp : ∀ b ∈ fp, (upd H2 D (.lst [])) b = none := fun b hb => (f3 b hb).1.1
  show codeAny _ _ (.compStart (.ListComp elt [⟨tg, iter, ifs, 0⟩] scope pos) 0 (.ref it) (.ref D) (compEnvC scope cl s3.heap.objs.size X.env)) (compEnds (model X.prog X.w) X.A X.xe use Qf (.ref D) (compEnvC scope cl s3.heap.objs.size X.env)) _
  generalize hce : compEnvC scope cl s3.heap.objs.size X.env = ce at I4 pg pt pe ⊢
  have cL : ce.locals = s3.heap.objs.size := by rw [← hce]; rfl
  have cF : ce.frame = some L := by rw [← hce]; exact hfE
  generalize hH3 : upd H2 D (.lst []) = H3 at I3 I4 pg pt pe w0 nfp f3 fC
  generalize hs4 : ({ s3 with heap := pushCells (s3.heap.push { cls := .type "dict", data := .dict #[] }) scope.names } : Shared) = s4 at I4 ⊢
  have st4 : tn 0 s4.heap := T.keep _ _ _ st3 fun b _ o e => by rw [← hs4]; exact pushCells_keeps _ _ _ _ (Heap.get?_push_of_some _ e)
  -- back in the context ahead
  have back : ∀ {pn : List (Addr × Obj)} {σ' : L2.St} {H' : Hp} {s' : Shared}, Inv (X.blk s3 H3 scope ce fp) pn σ' H' s' → Inv X pins σ H' s' ∧ H' s3.heap.objs.size = none := fun {pn σ' H' s'} I' =>
    ⟨I3.call' (ch := fp) I'.os I'.base I'.hok I'.bare fun b hb => ⟨(f3 b hb).1.2.2.2.1, (f3 b hb).1.2.1, (f3 b hb).1.2.2.2.2.1, (f3 b hb).1.2.2.2.2.2⟩, by rw [← cL]; exact I'.free⟩
  have stat : ∀ {σ' : L2.St} {H' : Hp} {s' : Shared}, Inv (X.blk s3 H3 scope ce fp) [] σ' H' s' → (∀ b ∈ fp, H' b = none) → ∀ b ∈ fp, FpOk (X.blk s3 H3 scope ce fp) [] H' b := fun {σ' H' s'} I' hn b hb =>
    ⟨hn b hb, (I'.ok.exf b hb).1, I'.ok.exfs b hb, .inl hb, fun x c e => (I'.ok.exf b hb).2 x c e, fun p hp => absurd (show p ∈ ([] : List (Addr × Obj)) ++ [] from hp) (by simp)⟩
  -- what the element may let out
  have tkB : TakesL ((X.blk s3 H3 scope ce fp).wish (notedBy (model X.prog X.w) X.A ce (CompFails (model X.prog X.w) X.A X.xe ce))) E L := by
    rintro u s' ⟨a, B, sI, pins', σ', H', cls, d, rfl, J', nb, up, sky, na, os, ag, w⟩
    have J0 : Inv (X.blk s3 H3 scope ce fp) pins' σ' H' sI := J'.unwish
    obtain ⟨I7, nC⟩ := back J0
    obtain ⟨m, hn, _⟩ := J0.loc
    have hn : sI.heap.Ns ce.locals m := hn
    rw [cL] at hn
    exact block_fails hst hf0 cF tk cL I7 nC fC.2.2.2.1 fC.2.1 fC.2.2.2.2.1 fC.2.2.2.2.2 hn nb up sky na os ag w
  have pe' := pe _ tkB
  have loop : codeAny (model X.prog X.w) X.A (.compLoop (.ListComp elt [⟨tg, iter, ifs, 0⟩] scope pos) 0 (.ref it) (.ref D) ce) (compEnds (model X.prog X.w) X.A X.xe use Qf (.ref D) ce) s4 := by
    refine compLoop_any (fun n s' => ∃ i H', Inv (X.blk s3 H3 scope ce fp) [] (wipe σ (own.map (·.2))) H' s' ∧ tn i s'.heap ∧ (∀ b ∈ fp, H' b = none) ∧ W i n H') ?_ m0 ⟨0, H3, I4, st4, nfp, w0⟩
    rintro n s5 ⟨i, H5, I5, st5, n5, w5⟩
    rcases turn i n H5 w5 with ⟨stop, qq⟩ | ⟨go, Nx, hNx, step⟩
    · refine thnF (T.done (X.blk s3 H3 scope ce fp) rfl rfl rfl hc i [] s5 _ H5 (fun _ _ => False) I5 (stat I5 n5) st5 stop) fun r s6 ⟨hr, I6⟩ => ?_
      subst hr
      obtain ⟨I7, nC⟩ := back I6
      obtain ⟨m, hn, _⟩ := I6.loc
      have hn : s6.heap.Ns ce.locals m := hn
      rw [cL] at hn
      refine ends_of_post ?_
      rw [cL]
      exact hRR D s3.heap.objs.size s6 m H5 I7 qq hn (I3.fpOk (Nat.le_refl _) nC)
    · refine thnF (T.item (X.blk s3 H3 scope ce fp) rfl rfl rfl hc i [] s5 _ H5 (fun _ _ => False) I5 (stat I5 n5) st5 go) fun r s6 ⟨u, hr, h6⟩ => ?_
      subst hr
      refine thnF h6 fun _ s7 ⟨x, H7, I7, r7, y7, st7, n7⟩ => ?_
      refine thnF (pg.run _ s7 _ H7 x u _ (I7.pinned (stat I7 n7) (T.obj _ _ st7)) r7 (step x H7 y7)) fun _ s8 ⟨σ8, H8, I8, hw8, q8⟩ => ?_
      refine thnF (pt.run _ s8 σ8 H8 _ I8 q8) fun b s9 ⟨H9, I9, q9⟩ => ?_
      have fin : ∀ {s' : Shared} {H' : Hp}, Inv (X.blk s3 H3 scope ce fp) ([] ++ pinsAt fp s7.heap) σ8 H' s' → Nx H' → ∃ m, m < n ∧ ∃ i H', Inv (X.blk s3 H3 scope ce fp) [] (wipe σ (own.map (·.2))) H' s' ∧ tn i s'.heap ∧ (∀ b ∈ fp, H' b = none) ∧ W i m H' := fun {s' H'} I' nx => by
        obtain ⟨m', hm, w'⟩ := hNx H' nx
        have pin' : ∀ b ∈ fp, ∀ o, s7.heap.get? b = some o → s'.heap.get? b = some o ∧ H' b = none := fun b hb o e =>
          let z := I'.pin (b, o) (List.mem_append_right _ (List.mem_append_right _ (mem_pinsAt hb e)))
          ⟨z.1, z.2.1⟩
        refine ⟨m', hm, i + 1, H', (I'.unpinned (pins := [])).weak (by rw [← hw8, wipe_length]) (fun j v e => ?_), T.keep _ _ _ st7 fun b hb o e => (pin' b hb o e).1, fun b hb => ?_, w'⟩
        · rw [← hw8] at e
          exact (wipe_some e).1
        · obtain ⟨o, e, _⟩ := T.obj _ _ st7 b hb
          exact (pin' b hb o e).2
      cases b with
      | false =>
        simp only [Bool.false_eq_true, if_false] at q9 ⊢
        exact fin I9 q9
      | true =>
        simp only [if_true] at q9 ⊢
        refine thn (pe'.run _ s9 σ8 H9 _ (I9.wish _) q9) fun z s10 ⟨yv, H10, I10, r10, acc, hD10, hz10, nx⟩ => ?_
        exact app_ok (X := X.blk s3 H3 scope ce fp) I10.unwish hD10 hz10 r10 fun s11 I11 => fin I11 nx
  exact codeAny_compStart_list loop (T.self X.A 0 _ _ _ st4 loop)
theorem pe_lcX {elt tg iter : Expr} {ifs : List Expr} {scope : Scope} {own : List (Str × Nat)} {pos : Pos} {wi : TI} {g : TG} {tt : TT} {te : TE} {E : XK} {L : Addr} {env0 : Env} {outer0 : List Env} (tk : TakesL X E L) (hst : X.stack = env0 :: outer0) (hf0 : env0.frame = some L) (hfE : X.env.frame = some L)
    (hc : X.calm = true) (hN : X.N.Nodup) (hi : PI X tg iter wi) (ok : BlkOk X.N X.env.scope scope own)
    (hg : ∀ (s : Shared) (H : Hp) (C : Addr) (cl : List (Str × Addr)) (fp : List Addr), PG (X.blk s H scope (compEnvC scope cl C X.env) fp) tg g) (ht : ∀ (s : Shared) (H : Hp) (C : Addr) (cl : List (Str × Addr)) (fp : List Addr), PTs (X.blk s H scope (compEnvC scope cl C X.env) fp) ifs tt)
    (he : ∀ (s : Shared) (H : Hp) (C : Addr) (cl : List (Str × Addr)) (fp : List Addr) (xe : Value → Shared → Prop), TakesL ((X.blk s H scope (compEnvC scope cl C X.env) fp).wish xe) E L → PE ((X.blk s H scope (compEnvC scope cl C X.env) fp).wish xe) elt te)
    (hs : ∀ x, foldedSetIterable iter X.env x = pure x := by intro _; rfl) :
    PE X (.ListComp elt [⟨tg, iter, ifs, 0⟩] scope pos) (tLc wi g tt te (own.map (·.2))) := by
  refine ⟨fun pins s σ H Q I h => ?_⟩
  rw [eval_ListComp]
  refine lc_coreX hst hf0 hfE tk hc hN I hi ok hg ht he hs h fun D C s' m H' I' q hn f => ⟨m, hn, fun h'' sb => ?_⟩
  obtain ⟨f0, f1, f2, f3, f4, f5⟩ := f
  exact ⟨.ref D, H', I'.turned (t' := s'.toks) (fun b o hb e => (sb.2 b hb).trans e) f0 f1 f3 f4 f5, rfl, q⟩
end
end Y

/-! isinstance of a caught error that has fields of its own -/
namespace PySem.W
open PySem PySem.Spec PySem.Calls PyProof.Rows
section
variable {prog : Program} {w : World} {A : Around} {E : Value → Shared → Prop} {s : Shared} {K : Frag} {x D : Addr} {ox od : Obj}
theorem yObj_data {C : Addr} {name : Str} {a g : Value} {o : Option Obj} (hc : (clsIn K C).isSome = true) (ha : findIn K (.ref C) name = some (some a)) (hg : specialIn K a "__get__" = some (some g)) (ht : takesIn K a = some true) : findObj K C o name = some (.bind g a) := by
  obtain ⟨cd, hc⟩ := Option.isSome_iff_exists.mp hc
  unfold findObj
  rw [hc, Option.bind_some, ha, Option.bind_some]
  simp [hg, ht]
theorem yin_class {Q : Option Value → Shared → Prop} (hga : findIn K (.ref D) "__getattribute__" = some (some (.builtin "BaseException.__getattribute__"))) (hgt : findIn K (.ref D) "__getattr__" = some none) (hsub : subIn K (.ref D) (.type "BaseException") = some true)
    (hdct : hasDictIn K D = true) (ha : findIn K (.ref D) "__class__" = some (some (.builtin "object.__class__")))
    (hn : specialIn K (.builtin "object.__class__") "__get__" = some (some (.builtin "getset_descriptor.__get__"))) (htk : takesIn K (.builtin "object.__class__") = some true) (hm : mroIn K D (.type "object") = some true)
    (X : K.In s.heap) (I : InstAt s.heap x ox D (some od)) (h : Q (some (.ref D)) { s with toks := s.toks + 1 }) : wpAny (model prog w) A (getAttr? (.ref x) "__class__") Q E s := by
  have hf : findObj K D (some od) "__class__" = some (.bind (.builtin "getset_descriptor.__get__") (.builtin "object.__class__")) := yObj_data (by obtain ⟨cd, hc, _⟩ := any_some hdct; rw [hc]; rfl) ha hn htk
  obtain ⟨hp, g, d, t, os⟩ := s
  have L0 := I.type (M := model prog w)
  have L1 := looks_findIn (M := model prog w) X hga
  have L2 := looks_findIn (M := model prog w) X hgt
  have L3 := looks_find (M := model prog w) X I hf
  have sub : Looks (model prog w) hp (isInstance (.ref x) (.type "BaseException")) true := L0.andThen (looks_subIn X hsub)
  have z0 : (false && onTheHeap (Value.builtin "BaseException.__getattribute__")) = false := rfl
  have z1 : (onTheHeap (Value.ref D) && Value.builtin "BaseException.__getattribute__" == Value.builtin "object.__getattribute__") = false := by
    rw [show (Value.builtin "BaseException.__getattribute__" == Value.builtin "object.__getattribute__") = false from by decide +kernel, Bool.and_false]
  unfold getAttr? getAttrBy? getAttrBy
  refine wpAny_bind (wpAny_mkText (wpAny_bind (wpAny_attempt (wpAny_holding (wpAny_bind (L0.at (wpAny_bind (L1.at ?_))))))))
  show wpAny _ _ (if (onTheHeap (Value.ref D) && Value.builtin "BaseException.__getattribute__" == Value.builtin "object.__getattribute__") = true then _ else _) _ _ _
  rw [z1, if_neg Bool.false_ne_true]
  unfold getAttrByItsOwn hookBefore
  refine wpAny_bind ?_
  rw [if_pos (show onTheHeap (Value.ref D) = true from rfl)]
  refine L2.at (wpAny_bind (wpAny_attempt (wpAny_holding ?_)))
  unfold callGetattribute
  rw [z0, if_neg Bool.false_ne_true]
  unfold boundAndCalled
  rw [PySem.F.excAttr_ValueError.ga.bind (.ref x)]
  refine wpAny_bind (wpAny_pure ?_)
  show wpAny _ _ (call (.builtin "BaseException.__getattribute__") [.ref x, .str "__class__" t]) _ _ _
  refine wpAny_call (codeAny_call_builtin PySem.F.excAttr_ValueError.ga.plain PySem.F.entry_bexc_ga ?_)
  refine @check_slot (model prog w) _ _ ⟨hp, g, d, t + 1, os⟩ "BaseException.__getattribute__" "BaseException" "__getattribute__" (.ref x) [.str "__class__" t] [] _ (by decide +kernel) (by decide +kernel) sub (PySem.F.args_bexc_ga (.ref x) (.str "__class__" t)) ?_
  unfold Builtin.«object.__getattribute__»
  refine wpAny_bind (wpAny_of_eq (a := ((Value.ref x : Value), [Value.str "__class__" t])) (by first | rfl | (simp only [slotArgs]; rfl)) ?_)
  refine wpAny_bind (wpAny_pure (wpAny_bind (L0.at (wpAny_bind (L3.at ?_)))))
  show wpAny _ _ (holding [Value.builtin "object.__class__"] (call (.builtin "getset_descriptor.__get__") [.builtin "object.__class__", .ref x, .ref D]) >>= ret) _ _ _
  refine wpAny_bind (wpAny_holding (wpAny_call (class_get (s := ⟨hp, g, d, t + 1, os⟩) (ox := ox) (od := some od) X I hm (wpAny_pure ?_))))
  show wpAny _ _ (handedOut (.ref D)) _ _ _
  rw [handedOut_of (v := .ref D) rfl]
  first
    | exact wpAny_pure (wpAny_pure h)
    | exact wpAny_pure h
    | exact wpAny_pure (wpAny_bind (wpAny_pure (wpAny_pure h)))
theorem y_kitx (hga : findIn K (.ref D) "__getattribute__" = some (some (.builtin "BaseException.__getattribute__"))) (hgt : findIn K (.ref D) "__getattr__" = some none) (hsub : subIn K (.ref D) (.type "BaseException") = some true) (hdct : hasDictIn K D = true)
    (ha : findIn K (.ref D) "__class__" = some (some (.builtin "object.__class__")))
    (hn : specialIn K (.builtin "object.__class__") "__get__" = some (some (.builtin "getset_descriptor.__get__"))) (htk : takesIn K (.builtin "object.__class__") = some true) (hm : mroIn K D (.type "object") = some true) :
    KitX K (.ref x) (.ref D) (fun h => ∃ od, InstAt h x ox D (some od)) where
  ty := fun _ _ _ ⟨_, I⟩ => I.type
  it := fun M h X _ A' Q' E' s' k q => by
    obtain ⟨cd, hc, _⟩ := any_some hdct
    unfold clsIn at hc
    split at hc
    · rename_i ho
      unfold isType loadHead
      exact wpAny_bind (wpAny_loadPart (k _ _ (X _ _ ho)) (wpAny_pure q))
    · cases hc
  ne := (handS_kitx_exc (x := x) (ox := ox) hga hgt hsub hdct ha hn htk hm).ne
  ca := fun X ⟨_, I⟩ k => yin_class hga hgt hsub hdct ha hn htk hm X I k
end
end PySem.W
namespace Y
open PySem PySem.Spec PyProof.Rows L2
theorem all_at {l : List Bool} {b : Bool} (h : l.all id = true) (i : Nat) (e : l[i]? = some b) : b = true := List.all_eq_true.mp h b (List.mem_of_getElem? e)
/-! ### own exception classes over ValueError with one field -/
structure ExC (K : PySem.W.Frag) (C : Addr) (f : Str) : Prop where
  oex : OexC K C
  xf : XfC K C
  no : PySem.W.findIn K (.ref C) f = some none
  iC : PySem.W.findIn K (.ref C) "__init__" = some (some (.ref (He.ma K C "__init__")))
  tI : PySem.W.typeIn K (.ref (He.ma K C "__init__")) = some (.type "function")
  ec : ExcC K C
theorem exB_ok {K : PySem.W.Frag} {C : Addr} {f : Str} (h : exB K C f = true) : ExC K C f := by
  unfold exB at h
  simp only [Bool.and_eq_true, decide_eq_true_eq] at h
  obtain ⟨⟨⟨⟨h1, ⟨⟨h2, h3⟩, h4⟩, h5⟩, ⟨h6, h7⟩, h8⟩, ⟨h9, h10⟩, h11⟩, ⟨⟨h12, h13⟩, h14⟩, h15⟩ := h
  refine ⟨⟨?_, h2, h3, h4, h5⟩, ⟨h6, h7, h3, h8⟩, h9, h10, h11, ⟨h6, h7, h3, h8, h12, h13, h14, h15⟩⟩
  split at h1
  · rename_i dd cd sl ho
    split at h1
    · rename_i D bm k0 k1 k2 k3 n k5 hm hs
      simp only [Bool.and_eq_true, beq_iff_eq, Bool.not_eq_true'] at h1
      obtain ⟨⟨⟨⟨rfl, rfl⟩, hdel⟩, hdc⟩, hr⟩ := h1
      obtain ⟨nm, bs, mro, ns, qn, hd, sn, sub, ab, col, del⟩ := cd
      dsimp only at hm hdel hdc
      subst hm hdel hdc
      have hsl : sl = #[k0, k1, k2, k3, some (.builtin "ValueError.__new__"), k5] := by
        obtain ⟨l⟩ := sl
        simp only at hs
        rw [hs]
      subst hsl
      exact ⟨nm, qn, ns, bs, bm, sn, sub, ab, col, dd, k0, k1, k2, k3, k5, ho, hr⟩
    · cases h1
  · cases h1
/-- __init__(self, v): self.f = v -/
def spXi (C : Addr) (f : Str) : Sp := fun vs H Q _ => ∃ a v, vs = [.ref a, v] ∧ H a = some (exo a C none) ∧ ∀ dx, H dx = none → dx ≠ a → Q .non (upd (upd H dx (exd dx [(f, v)])) a (exo a C (some dx)))
/-- raise C(e) -/
def tRaiseI (C : Addr) (f : Str) (E : XK) (ta : TA) : TS := fun _ σ H => ta σ H fun vs H1 => ∃ v, vs = [v] ∧ ∀ d, H1 d = none → E (.ref C) (some d) (upd H1 d (.xd [(f, v)]))
section
variable {X : Cx} {es : List Expr} {ta : TA}
/-- arguments, what they give weakened -/
def upA (ta : TA) : TA := fun σ H Q => ∃ R : List V → Hp → Prop, ta σ H R ∧ ∀ vs H1, R vs H1 → Q vs H1
theorem pa_up (h : PA X es ta) : PA X es (upA ta) := ⟨fun pos pins s σ H Q I ⟨R, hR, hQ⟩ => thn (h.run pos pins s σ H R I hR) fun us s1 ⟨vs, H1, I1, r, q⟩ => ⟨vs, H1, I1, r, hQ vs H1 q⟩⟩
theorem xd_heap {H : Hp} {a d : Addr} {o u : HO} {z : HO} (ha : H a = none) (hd : d ≠ a) : upd (del (upd (upd (upd H a o) d u) a z) a) d (.xd fs) = upd H d (.xd fs) := by
  funext b
  by_cases h1 : b = d
  · rw [h1, upd_same, upd_same]
  · rw [upd_ne h1, upd_ne h1]
    by_cases h2 : b = a
    · rw [h2, del_same, ha]
    · rw [del_ne h2, upd_ne h2, upd_ne h1, upd_ne h2]
theorem mk_read {C : Addr} {f : Str} {E : XK} {σ : L2.St} {H : Hp} (h : ta σ H fun vs H1 => ∃ v, vs = [v] ∧ ∀ d, H1 d = none → E (.ref C) (some d) (upd H1 d (.xd [(f, v)]))) :
    tMkO C (spXi C f) [] (upA ta) σ H fun cls d H' => E cls d H' := by
  refine ⟨_, h, fun vs H1 ⟨v, e, k⟩ => ?_⟩
  subst e
  refine ⟨by show 1 ≤ 1000; decide, fun a ha => ⟨a, v, rfl, upd_same, fun dx hdx hne => ⟨rfl, dx, [(f, v)], upd_same, by rw [upd_ne hne, upd_same], ?_, ?_⟩⟩⟩
  · rw [upd_ne hne] at hdx
    exact hdx
  · rw [xd_heap ha hne]
    rw [upd_ne hne] at hdx
    exact k dx hdx
theorem ps_raiseI {C : Addr} {f x : Str} {k : Nat} {E : XK} {e : Expr} {p pos pos' : Pos} (T : ExC X.K C f) (hm : X.mg x = some (.ref C))
    (F : FnOk X.prog X.w X.K X.mg X.base CX0 k (He.ma X.K C "__init__") (fdOf X.K (He.ma X.K C "__init__")) ["self", f] (spXi C f)) (b : Binds X.K (fdOf X.K (He.ma X.K C "__init__")) ["self", f] []) (hr : Room (k + 1) X.A) (hg : Gl X x) (hc : X.calm = true)
    (tk : Takes X fun cls d _ H => E cls d H) (ha : PA X (e :: es) ta) (hdb : (x == ("__debug__" : Str)) = false := by decide) (he : starEach (e :: es) X.env = (false, eval e X.env) :: starEach es X.env := by rfl) (hpl : (backTo pos (starEach es X.env)).any (·.1) = false := by rfl) :
    PS X (.Raise (some (.Call (.Name x p) (e :: es) [] pos)) none pos') (tRaiseI C f E ta) := by
  have h := ps_raise (pos := pos') hc tk (pmk_oex (p := p) (pos := pos) (dvs := []) T.oex T.iC T.tI F hr b .nil (pass0 : Passes CX0 X E0) hg hm (pa_up ha) hdb he hpl)
  exact ⟨fun pins s σ H D I q => h.run pins s σ H D I (mk_read q)⟩
end
/-- isinstance(e, c) of a caught error with fields -/
theorem call_isEf {X : Cx} {a D dd : Addr} {oe : Obj} {pn : List (Addr × Obj)} {fs : List (Str × V)} (C : ExcC X.K D) (hz : Zc (.ref D) (some dd) oe) (hf : ∃ vs, oe.data = .fields vs) :
    CallR (X.suite a ((a, oe) :: pn)) (.builtin "isinstance") (fun xs H Q => (∃ fs, H dd = some (.xd fs)) ∧ rIsE X.K D a xs H Q) := by
  intro pins s σ H xs us Q I r h
  obtain ⟨⟨fs, hd0⟩, c, cv, b, rfl, hcv, e, q⟩ := h
  cases r with
  | cons rx rr =>
    cases rr with
    | cons rt rr =>
      cases rr
      cases rx
      have ec := hcv _ rt
      subst ec
      obtain ⟨hget, _⟩ := I.pin (a, oe) (List.mem_append.mpr (.inl List.mem_cons_self))
      obtain ⟨vs, hv⟩ := hf
      obtain ⟨mA, ⟨od, es, ep, ho, _⟩, _⟩ := (show ObjOk X.prog X.w H s.heap dd (.xd fs) from I.hok dd _ hd0)
      have J : PySem.W.InstAt s.heap a oe D (some od) := by
        obtain ⟨oc, od', oda, osl⟩ := oe
        obtain ⟨h1, h2⟩ := hz
        dsimp only at h1 h2 hv
        subst h1 h2 hv
        exact ⟨hget, rfl, rfl, ho⟩
      exact PySem.W.kia_one (PySem.W.y_kitx C.hg C.hk C.hs C.hd C.ha C.hn C.ht C.hm) I.kIn ⟨od, J⟩ e (fun z => nomatch z) fun tk => ⟨.bl b, H, I.kept (t' := tk) fun _ _ z => z, rfl, q⟩
end Y

namespace Y
open PySem PySem.Spec PyProof.Rows L2
/-- a tuple times 1 is the tuple itself -/
theorem tuple_mul1 (l : Addr) (items : Array Value) (n : Nat) (dd : Option Addr) (sl : Array (Option Value)) (u : Tok) :
    Meets (Builtin.«tuple.__mul__» ⟨[.ref l, .int 1 u], []⟩) (fun _ R s => s.heap.get? l = some { cls := .type "tuple", dict := dd, data := .seq items n, slots := sl } ∧ R (.ok (.ret (Value.ref l))) s) :=
  .of_wp fun prog w A R s h => by
    obtain ⟨hp, g, d, tk, os⟩ := s
    obtain ⟨hl, h⟩ := h
    have c0 : (decide ((1 : Int) < -(2 ^ 63)) || decide ((1 : Int) ≥ 2 ^ 63)) = false := by decide
    have c1 : (items.isEmpty || ((1 : Int) == 1)) = true := by simp
    have f1 := AutoSeq1.idx_int
    wp_walk using wpAny_loadPart' hl
    repeat (first
      | (refine wpAny_ite_false (decide_eq_false (by rw [c0]; exact Bool.false_ne_true)) ?_; wp_walk using wpAny_loadPart' hl)
      | (refine wpAny_ite_true (decide_eq_true c1) ?_; wp_walk using wpAny_loadPart' hl))
    exact ⟨_, rfl, h⟩
end Y
namespace Y
open PySem PySem.Spec PyProof.Rows L2
/-- tuple * int, from 1 on -/
def rRepU (K : PySem.W.Frag) : R2 := fun x y H Q => rRepT K x y H Q ∨ ∃ l xs, x = .ref l ∧ y = .int 1 ∧ SqT K H l xs ∧ Q (.ref l) H
def rRepS : R2 := fun x y H Q => ∃ z k, x = .str z ∧ y = .int k ∧ 2 ≤ k ∧ k ≤ 1000 ∧ 1 ≤ z.length ∧ z.length ≤ 1000 ∧ Q (.str ⟨(List.replicate k.toNat z.cps).foldl (· ++ ·) #[]⟩) H
section
variable {X : Cx} {K : PySem.W.Frag}
theorem op_repU (hK : X.K = K) : OpR X (binaryOp .Mult) (rRepU K) := by
  subst hK
  intro pins s σ H x y v u Q I rx ry h
  rcases h with h | ⟨l, xs, rfl, rfl, hT, q⟩
  · exact op_repT pins s σ H x y v u Q I rx ry h
  · cases rx
    obtain ⟨t, rfl⟩ := ry
    obtain ⟨its, r, ⟨⟨cls, dd, data, sl⟩, ho, hc, n, hd⟩, hs⟩ := I.tuple hT
    simp only at hc hd
    subst hc hd
    refine wpAny_binaryOp_repeat_ref (T := "tuple") (U := "int") (by decide) ⟨_, ho, rfl⟩ (fun s' => typeIs_int s' 1 t) noFill_tuple_mul F.fills_int_mul F.slot_int_rmul repeat_tuple F.slot_int_index.lookup
      (call_meets F.slot_int_rmul (typeIs_int s 1 t) F.entry_int_rmul (F.args_int_rmul_2 _ _) (int_rmul_tuple 1 t l its.toArray n dd sl)
        ⟨ho, rfl, ⟨_, ho, rfl⟩, call_meets F.slot_tuple_mul ⟨_, ho, rfl⟩ F.entry_tuple_mul (F.args_tuple_mul_2 _ _) (tuple_mul1 l its.toArray n dd sl t) ⟨ho, ?_⟩⟩)
    exact ⟨.ref l, H, I, rfl, q⟩
theorem rep_size (c : Array Nat) : ∀ (n : Nat) (a : Array Nat), ((List.replicate n c).foldl (· ++ ·) a).size = a.size + n * c.size
  | 0, a => by simp
  | n + 1, a => by
    rw [List.replicate_succ, List.foldl_cons, rep_size c n, Array.size_append, Nat.succ_mul]
    omega
theorem op_repS : OpR X (binaryOp .Mult) rRepS := by
  intro pins s σ H x y v u Q I rx ry h
  obtain ⟨z, k, rfl, rfl, h1, h2, h3, h4, q⟩ := h
  obtain ⟨t, rfl⟩ := rx
  obtain ⟨t', rfl⟩ := ry
  have hb : z.length * k.toNat ≤ 1000000 := Nat.le_trans (Nat.mul_le_mul h4 (show k.toNat ≤ 1000 by omega)) (by decide)
  have e1 : ¬ k < 1 := by omega
  have e2 : ¬ (k == 1 || z.length == 0) = true := by simp; omega
  refine PySem.P.mul_str (by rw [decide_eq_false (by omega), decide_eq_false (by omega)]; rfl) (fun _ _ => ?_) (fun _ _ => ?_) ?_
  · have : (9223372036854775807 : Int) / k ≥ 9223372036854775807 / 1000 := by
      apply Int.le_ediv_of_mul_le (by omega)
      calc (9223372036854775807 : Int) / 1000 * k ≤ 9223372036854775807 / 1000 * 1000 := Int.mul_le_mul_of_nonneg_left h2 (by decide)
        _ ≤ 9223372036854775807 := by decide
    have : (2 ^ 63 - 1 : Int) / k ≥ 9223372036854775 := by
      show (9223372036854775807 : Int) / k ≥ _
      exact this
    omega
  · unfold Builtin.Str.tooLong
    rw [sizeLine_eq]
    exact decide_eq_false (by omega)
  · rw [if_neg e1, if_neg e2]
    refine ⟨?_, .str _, H, I.tok _, ⟨_, rfl⟩, q⟩
    show Array.size _ ≤ _
    rw [rep_size, sizeLine_eq]
    show 0 + k.toNat * z.length ≤ _
    rw [Nat.mul_comm] at hb
    omega
end
end Y

namespace Y
open PySem PySem.Spec PyProof.Rows L2
/-! ### a list that changes: read, stored -/
section
variable {K : PySem.W.Frag} {σ : L2.St} {G H H' G' : Hp} {Q : VK} {v x y : V} {d d' : PyData} {ds es : List PyData} {i : Int} {M : List Addr}
theorem g_ixM {p : Addr} {xs : List V} {k : Nat} (h : H p = some (.lst xs)) (hv : xs[k]? = some v) (hj : i = (k : Int)) (q : Q v H) : rIxL K (.ref p) (.int i) H Q := by
  subst hj
  exact ⟨p, xs, _, v, rfl, rfl, .of h, atI_nat hv, q⟩
theorem g_ixK {p : Addr} {xs : List V} {k : Nat} (e : Ex G H) (h : SqL K G p xs) (hv : xs[k]? = some v) (hj : i = (k : Int)) (q : Q v H) : rIxL K (.ref p) (.int i) H Q := by
  subst hj
  exact ⟨p, xs, _, v, rfl, rfl, e.seqL h, atI_nat hv, q⟩
theorem g_lenK {p : Addr} {xs : List V} (e : Ex G H) (h : SqL K G p xs) (q : Q (.int (xs.length : Int)) H) : rLen K [.ref p] H Q := ⟨p, xs, rfl, .inl (e.seqL h), q⟩
theorem g_sub {to ti : TE} {t : TSet} {R : L2.St → Hp → Prop} (q : to σ H fun o H1 => ti σ H1 fun i H2 => t o i v H2 fun H3 => R σ H3) : gSub to ti t v σ H R := q
theorem g_setM {p : Addr} {xs : List V} {k : Nat} {R : Hp → Prop} (h : H p = some (.lst xs)) (hj : i = (k : Int)) (hk : k < xs.length) (q : R (upd H p (.lst (xs.set k v)))) : rSetL (.ref p) (.int i) v H R := by
  subst hj
  exact ⟨p, xs, _, k, rfl, rfl, h, Evl.ixN_nat hk, q⟩
/-- an item at a drawn place -/
theorem g_ixLn (e : Ex G H) (h : Dp K G x (.list ds)) (h0 : 0 ≤ i) (h1 : i < (ds.length : Int)) (q : ∀ v d, d ∈ ds → ds[i.toNat]? = some d → Dp K G v d → Q v H) : rIxL K x (.int i) H Q := by
  have hl : i.toNat < ds.length := by omega
  exact g_ixL e h (k := i.toNat) (d := ds[i.toNat]) (by simp [hl]) (by omega) fun v dv => q v _ (List.getElem_mem hl) (by simp [hl]) dv
theorem g_ixTn (e : Ex G H) (h : Dp K G x (.tuple ds)) (h0 : 0 ≤ i) (h1 : i < (ds.length : Int)) (q : ∀ v d, d ∈ ds → ds[i.toNat]? = some d → Dp K G v d → Q v H) : rIxT K x (.int i) H Q := by
  have hl : i.toNat < ds.length := by omega
  exact g_ixT e h (k := i.toNat) (d := ds[i.toNat]) (by simp [hl]) (by omega) fun v dv => q v _ (List.getElem_mem hl) (by simp [hl]) dv
theorem g_ixSn {s : Str} (hs : s.length ≤ sizeLine) (h0 : 0 ≤ i) (h1 : i < (s.length : Int)) (q : ∀ c, c ∈ s.cps.toList → Q (.str ⟨#[c]⟩) H) : rIxS (.str s) (.int i) H Q := by
  have hl : i.toNat < s.cps.toList.length := by rw [Array.length_toList]; show i.toNat < s.length; omega
  exact g_ixS hs (k := i.toNat) (c := s.cps.toList[i.toNat]) (by simp) (by omega) (q _ (List.getElem_mem hl))
theorem g_cat {p b : Addr} {xs zs : List V} (hp : H p = some (.lst xs)) (hb : H b = some (.lst zs)) (hl : xs.length + zs.length ≤ sizeLine) (e : Ex G H) (q : ∀ r H', Nx [] G H G H' → H r = none → H' r = some (.lst (xs ++ zs)) → G r = none → Q (.ref r) H') : rCat (.ref p) (.ref b) H Q :=
  ⟨p, b, xs, zs, rfl, rfl, hp, hb, hl, fun r hr => q r _ (Nx.own e hr) hr upd_same (e.free hr)⟩
theorem g_pop0 {p : Addr} {xs : List V} (hp : H p = some (.lst (v :: xs))) (hl : xs.length < 100000) (q : Q v (upd H p (.lst xs))) : rPopAt (.ref p) [.int 0] H Q :=
  ⟨p, v :: xs, 0, 0, v, rfl, rfl, hp, by decide, by decide, by simp [seqIndex?], rfl, q⟩
/-! ### tuples joined and cut -/
theorem g_catA (e : Ex G H) (hx : Dp K G x (.tuple ds)) (hy : Dp K G y (.tuple es)) (hz : ds.length + es.length ≤ sizeLine) (q : ∀ v G' H', Nx [] G H G' H' → Dp K G' v (.tuple (ds ++ es)) → Q v H') : rCatA K x y H Q := by
  obtain ⟨a, xs, rfl, ha, da⟩ := dp_tup hx
  obtain ⟨b, ys, rfl, hb, db⟩ := dp_tup hy
  refine ⟨a, b, xs, ys, rfl, rfl, e.seqT ha, e.seqT hb, by rw [dpAll_len da, dpAll_len db]; exact hz, fun hn => ?_, fun _ hn => ?_, fun _ _ p hp => ?_⟩
  · subst hn
    cases da
    exact q _ G H (Nx.refl e) hy
  · subst hn
    cases db
    rw [List.append_nil] at q
    exact q _ G H (Nx.refl e) hx
  · have h2 := nx_tup e (dpAll_app da db) hp
    exact q _ _ _ h2.1 h2.2
theorem cut_lo (xs : List V) (k : Nat) : cutV xs (some (k : Int)) none = xs.drop k := by
  unfold cutV
  rw [HT.sIx_nat, HT.sIx_none]
  by_cases h : k ≤ xs.length
  · rw [Nat.min_eq_left h, List.take_of_length_le (by rw [List.length_drop]; omega)]
  · rw [Nat.min_eq_right (by omega), List.drop_eq_nil_of_le (Nat.le_refl _), List.drop_eq_nil_of_le (by omega)]
    simp
theorem cut_hi (xs : List V) (k : Nat) : cutV xs none (some (k : Int)) = xs.take k := by
  unfold cutV
  rw [HT.sIx_nat, HT.sIx_none, List.drop_zero, Nat.sub_zero]
  by_cases h : k ≤ xs.length
  · rw [Nat.min_eq_left h]
  · rw [Nat.min_eq_right (by omega), List.take_of_length_le (Nat.le_refl _), List.take_of_length_le (by omega)]
theorem cut_all {xs : List V} {lo hi : Option Int} (h : HT.sIx xs.length 0 lo = 0 ∧ HT.sIx xs.length xs.length hi = xs.length) : cutV xs lo hi = xs := by
  unfold cutV
  rw [h.1, h.2, List.drop_zero, Nat.sub_zero, List.take_length]
theorem g_sl {r : V → Option Int → Option Int → Hp → VK → Prop} {te : TE} {tl th : TO} (q : te σ H fun x H1 => tl σ H1 fun l H2 => th σ H2 fun u H3 => r x l u H3 Q) : tSl r te tl th σ H Q := q
theorem g_noPart {R : Option Int → Hp → Prop} (q : R none H) : tNoPart σ H R := q
theorem g_part {t : TE} {R : Option Int → Hp → Prop} (q : t σ H fun x H1 => ∃ i, x = .int i ∧ R (some i) H1) : tPart t σ H R := q
theorem g_isint {P : Int → Prop} (q : P i) : ∃ k, V.int i = .int k ∧ P k := ⟨i, rfl, q⟩
theorem g_slAll {lo hi : Option Int} (e : Ex G H) (hx : Dp K G x (.tuple ds)) (hc : ∀ xs : List V, DpAll K G xs ds → DpAll K G (cutV xs lo hi) es) (q : ∀ v G' H', Nx [] G H G' H' → Dp K G' v (.tuple es) → Q v H') : rSlA K x lo hi H Q := by
  obtain ⟨a, xs, rfl, ha, da⟩ := dp_tup hx
  have dc := hc xs da
  refine ⟨a, xs, rfl, e.seqT ha, fun hw => ?_, fun _ p hp => ?_⟩
  · rw [cut_all hw] at dc
    exact q _ G H (Nx.refl e) (.tup ha dc)
  · have h2 := nx_tup e dc hp
    exact q _ _ _ h2.1 h2.2
theorem g_slHi {k : Nat} (e : Ex G H) (hx : Dp K G x (.tuple ds)) (hj : i = (k : Int)) (q : ∀ v G' H', Nx [] G H G' H' → Dp K G' v (.tuple (ds.take k)) → Q v H') : rSlA K x none (some i) H Q := by
  subst hj
  exact g_slAll e hx (fun xs da => by rw [cut_hi]; exact dpAll_take k da) q
theorem g_slLo {k : Nat} (e : Ex G H) (hx : Dp K G x (.tuple ds)) (hj : i = (k : Int)) (q : ∀ v G' H', Nx [] G H G' H' → Dp K G' v (.tuple (ds.drop k)) → Q v H') : rSlA K x (some i) none H Q := by
  subst hj
  exact g_slAll e hx (fun xs da => by rw [cut_lo]; exact dpAll_drop k da) q
theorem dpAll_rep {xs : List V} (h : DpAll K G xs ds) : ∀ n : Nat, DpAll K G (List.replicate n xs).flatten (List.replicate n ds).flatten
  | 0 => .nil
  | n + 1 => by
    rw [List.replicate_succ, List.flatten_cons, List.replicate_succ, List.flatten_cons]
    exact dpAll_app h (dpAll_rep h n)
theorem g_repU {k : Nat} (e : Ex G H) (hx : Dp K G x (.tuple ds)) (hn : ds ≠ []) (hk : 1 ≤ k ∧ k ≤ 1000) (hl : ds.length ≤ 1000) (hj : i = (k : Int)) (q : ∀ v G' H', Nx [] G H G' H' → Dp K G' v (.tuple (List.replicate k ds).flatten) → Q v H') : rRepU K x (.int i) H Q := by
  subst hj
  obtain ⟨a, xs, rfl, ha, da⟩ := dp_tup hx
  by_cases h1 : k = 1
  · subst h1
    refine .inr ⟨a, xs, rfl, rfl, e.seqT ha, q _ G H (Nx.refl e) ?_⟩
    simpa using hx
  · refine .inl ⟨a, _, xs, rfl, rfl, e.seqT ha, fun z => hn (by
      have := dpAll_len da
      rw [z] at this
      exact List.eq_nil_of_length_eq_zero this.symm), by omega, by omega, by rw [dpAll_len da]; exact hl, fun p hp => ?_⟩
    have h2 := nx_tup e (dpAll_rep da k) hp
    exact q _ _ _ h2.1 h2.2

/-! ### the pool of a law: a drawn number, the script's own list, a place -/
def PoolAt (K : PySem.W.Frag) (a : Addr) (G H : Hp) : Prop := G a = none ∧ ∃ (x k : Int) (l : Addr) (ns : List Int), H a = some (.lst [.int x, .ref l, .int k]) ∧ SqL K G l (ns.map V.int) ∧ 0 ≤ x ∧ -1 ≤ k
theorem PoolAt.go {a : Addr} (p : PoolAt K a G H) (n : Nx M G H G' H') (ha : a ∉ M) : PoolAt K a G' H' := by
  obtain ⟨g, x, k, l, ns, h, hl, r⟩ := p
  exact ⟨n.old a g ⟨_, h, fun _ z => nomatch z⟩, x, k, l, ns, n.fr a _ ha h, n.gg.seqL hl, r⟩
theorem PoolAt.live {a : Addr} (p : PoolAt K a G H) : H a ≠ none := by
  obtain ⟨_, _, _, _, _, h, _⟩ := p
  rw [h]; exact fun z => nomatch z
theorem PoolAt.upd {a A : Addr} {o : HO} (p : PoolAt K a G H) (h : A ≠ a) : PoolAt K a G (upd H A o) := by
  obtain ⟨g, x, k, l, ns, h1, hl, r⟩ := p
  exact ⟨g, x, k, l, ns, by rw [upd_ne h.symm]; exact h1, hl, r⟩
/-- a comprehension whose element draws -/
theorem g_lcPool {J : It} {te : TE} {tt : TT} {σ : L2.St} {a A : Addr} {j : Nat} (S : Src K [a] J G H ds) (e : Ex G H) (hA : H A = none) (hp : PoolAt K a G H) (hz : ds.length < sizeLine) (Jv : Nat → List PyData → Prop) (j0 : Jv 0 [])
    (hs : ∀ i d v acc G' H', ds[i]? = some d → Dp K G' v d → Nx [a] G H G' H' → PoolAt K a G' H' → acc.length ≤ i → Jv i acc → ∀ (QE : VK) (QN : Hp → Prop),
      (∀ y G4 H4 d', Nx [a] G' H' G4 H4 → PoolAt K a G4 H4 → Dp K G4 y d' → Jv (i + 1) (acc ++ [d']) → QE y H4) → (∀ G3 H3, Nx [a] G' H' G3 H3 → PoolAt K a G3 H3 → Jv (i + 1) acc → QN H3) →
      tt ((wipe σ [j]).set j (some v)) H' fun b H3 => if b = true then te ((wipe σ [j]).set j (some v)) H3 QE else QN H3)
    (hd : ∀ G' H' ys acc, Jv ds.length acc → Nx [a] G H G' H' → PoolAt K a G' H' → G' A = none → H' A = some (.lst ys) → DpAll K G' ys acc → Q (.ref A) H') : LcW J (gName j) tt te [j] σ A Q H :=
  g_lcG S e hA (fun b hb => by simp at hb; rw [hb]; exact hp.live) hz (PoolAt K a) hp (fun G' H' o p => by
    by_cases z : A = a
    · exact absurd hA (by rw [z]; exact hp.live)
    · exact p.upd z) (fun G' H' G1 H1 n p => p.go n (by simp)) Jv j0 hs hd
/-- the promise of a helper that draws: φ tells the value -/
def Drawn (K : PySem.W.Frag) (a : Addr) (G H : Hp) (Q : VK) (φ : Hp → V → Prop) : Prop := ∀ v G' H', Nx [a] G H G' H' → PoolAt K a G' H' → φ G' v → Q v H'
end
end Y

namespace Y
open PySem PySem.Spec PyProof.Rows L2
section
variable {X : Cx} {k : Nat} {ps : List Str} {sp : Sp} {W : WX} {x : Str} {p pos : Pos} {e : Expr} {es : List Expr} {t : TA}
/-- a call within a try's body -/
theorem pe_callSC (F : FnOk X.prog X.w X.K X.mg X.base (L2.CX X.prog X.w) k (He.ga X.K x) (fdOf X.K (He.ga X.K x)) ps sp) (c : Cal X.K X.mg x ps) (hr : Room k X.A) (hg : Gl X x) (tk : Takes X W)
    (ha : PA X (e :: es) t) (hdb : (x == ("__debug__" : Str)) = false := by decide) (he : starEach (e :: es) X.env = (false, eval e X.env) :: starEach es X.env := by rfl) (hpl : (backTo pos (starEach es X.env)).any (·.1) = false := by rfl) :
    PE X (.Call (.Name x p) (e :: es) [] pos) (tCallS sp (WE W) t) := pe_callS F hr hg c.g c.k c.b (fun σ => passAt tk σ) ha hdb he hpl
end
/-- isinstance(e, c) of the error that a suite holds -/
def rIsEo (K : PySem.W.Frag) (a : Addr) (cls : Value) (d : Option Addr) : List V → Hp → VK → Prop := fun xs H Q => ∃ (D dd : Addr) (fs : List (Str × V)) (c : V) (cv : Value) (b : Bool),
  cls = .ref D ∧ d = some dd ∧ H dd = some (.xd fs) ∧ ExcC K D ∧ xs = [.ref a, c] ∧ (∀ u, RelV c u → u = cv) ∧ PySem.W.kitOne K (.ref D) cv = some b ∧ Q (.bl b) H
theorem call_isEo {X : Cx} {a : Addr} {oe : Obj} {pn : List (Addr × Obj)} {cls : Value} {d : Option Addr} (hz : Zc cls d oe) (hf : ∃ vs, oe.data = .fields vs) : CallR (X.suite a ((a, oe) :: pn)) (.builtin "isinstance") (rIsEo X.K a cls d) := by
  intro pins s σ H xs us Q I r h
  obtain ⟨D, dd, fs, c, cv, b, rfl, rfl, h1, h2, h3, h4, h5, q⟩ := h
  exact call_isEf (fs := fs) h2 hz hf pins s σ H xs us Q I r ⟨⟨fs, h1⟩, c, cv, b, h3, h4, h5, q⟩
section
variable {K : PySem.W.Frag} {σ : L2.St} {H : Hp} {Q : VK}
theorem g_callS {sp : Sp} {E : L2.St → XK} {ar : TA} (q : ar σ H fun vs H1 => sp vs H1 Q (E σ)) : tCallS sp E ar σ H Q := q
theorem g_isE {a D dd C : Addr} {fs : List (Str × V)} {b : Bool} (h : H dd = some (.xd fs)) (hc : ExcC K D) (hk : PySem.W.kitOne K (.ref D) (.ref C) = some b) (q : Q (.bl b) H) : rIsEo K a (.ref D) (some dd) [.ref a, .ref C] H Q :=
  ⟨D, dd, fs, .ref C, .ref C, b, rfl, rfl, h, hc, rfl, fun u r => r, hk, q⟩
theorem g_xf {a C dd : Addr} {f : Str} {fs : List (Str × V)} {v : V} {i : Nat} (hv : σ[i]? = some (some (.ref a))) (h : H dd = some (.xd fs)) (hl : fs.lookup f = some v) (q : Q v H) : tXf a (.ref C) (some dd) C f (tVar i) σ H Q :=
  ⟨_, hv, rfl, rfl, dd, fs, v, rfl, h, hl, q⟩
end
end Y

namespace Y
open PySem PySem.Spec PyProof.Rows L2
/-! ### list(e.values()) -/
def rListVals : V → Hp → VK → Prop := fun x H Q => ∃ (d : Addr) (kvs : List (Key × V)), x = .ref d ∧ H d = some (.dK kvs) ∧ ∀ p, H p = none → Q (.ref p) (upd H p (.lst (kvs.map (·.2))))
def tListVals (te : TE) : TE := fun σ H Q => te σ H fun x H1 => rListVals x H1 Q
section
variable {X : Cx} {e : Expr} {te : TE} {p apos cpos pos : Pos}
theorem pe_listVals (hc : X.calm = true) (he : PE X e te) (hg : Gl X "list") (hm : X.mg "list" = none) (hv : bootBuiltins "list" = some (.type "list") := by decide +kernel) (hbase : attributeBase e "values" X.env (eval e X.env) = eval e X.env := by rfl) (hline : (apos.endLine == cpos.line) = true := by rfl)
    (hs : starEach [.Call (.Attribute e "values" apos) [] [] cpos] X.env = (false, eval (.Call (.Attribute e "values" apos) [] [] cpos) X.env) :: starEach [] X.env := by rfl) :
    PE X (.Call (.Name "list" p) [.Call (.Attribute e "values" apos) [] [] cpos] [] pos) (tListVals te) := by
  refine ⟨fun pins s σ H Q I hq => ?_⟩
  refine wpAny_Call_Name_kw (ld_blt I hg hm hv ?_)
  refine PyProof.Rows.callWith_type1 ?_ hs rfl
  rw [hs]
  show wpAny _ _ (spliced ((false, eval (.Call (.Attribute e "values" apos) [] [] cpos) X.env) :: backTo pos (starEach [] X.env))) _ _ s
  refine Calls.spliced_cons ?_
  refine wpAny_Call_method (T := "dict") (id := "dict.values") hbase rfl hline F.plainAttrs_dict F.slot_dict_values F.type_dict_values (thn (he.run pins s σ H _ I hq) fun u s1 ⟨x, H1, I1, rx, d, kvs, ex, hd, q⟩ => ?_)
  subst ex
  obtain rfl : u = Value.ref d := rx
  obtain ⟨hz, hs0, vs, kv, hdo⟩ := I1.hok d _ hd
  obtain ⟨ep, hat⟩ := hdo.dictAt
  have lk : kvs.length = vs.length := Paired.length kv
  have I2 : Inv X pins σ H1 { s1 with heap := s1.heap.push { cls := .type "dict_values", data := .fields #[.ref d] } } := I1.kept (t' := s1.toks) fun b ob q => Heap.get?_push_of_some _ q
  refine ⟨hdo.typeIs, hdo.mapOf.noDict, ?_⟩
  show wpAny _ _ (callWith cpos (.builtin "dict.values") [.ref d] [] []) _ X.xe s1
  refine method_meetsIn F.slot_dict_values F.entry_dict_values rfl (PySem.evalArgs_none ⟨rfl, hdo.typeIs, F.args_dict_values_1 _, _, meets_dict_values (mixKind X.prog X.w) d hs0, ⟨vs, hdo⟩, ?_⟩)
  refine Calls.spliced_nil ?_
  refine PySem.W.kdl_call (PySem.W.kdl_values (knd := mixKind X.prog X.w) (kvs := vs) (ep := ep)) (I1.ok.hd hc) ⟨⟨_, Heap.get?_push_size _ rfl, rfl, rfl⟩, hat.push _⟩ (by rw [← lk]; exact hz) fun h' tk acc c hk hS hacc => ?_
  refine ⟨.ref _, upd H1 _ (.lst (kvs.map (·.2))), I2.laid hk (Nat.le_refl _) (show ObjOk X.prog X.w _ _ _ (.lst (kvs.map (·.2))) from ⟨?_, acc.toList, c, ?_, ?_⟩), rfl, q _ (I2.hok.fresh (Nat.le_refl _))⟩
  · rw [List.length_map]; exact hz
  · have el : acc.toList.length = acc.size := by simp
    refine vals_of_at (by rw [List.length_map, el, hacc.1, lk]) fun j x w h1 h2 => ?_
    obtain ⟨k, hky⟩ := hacc.2 j w (by rw [← Array.getElem?_toList]; exact h2)
    obtain ⟨y, g1, g2⟩ := KV.at' kv hky
    rw [List.getElem?_map, g1] at h1
    cases h1
    exact g2
  · rw [Array.toArray_toList]; exact hS
end
end Y

namespace Y
open PySem PySem.Spec PyProof.Rows L2
/-! ### several except clauses, with names or without -/
abbrev HdT := Value × Option Nat × (Addr → Value → Option Addr → TS)
/-- the ends behind a named clause: the name is unbound -/
def endsAs (D : Ends) (i : Nat) : Ends := { nx := fun σ' H' => D.nx (σ'.set i none) H', rt := D.rt, bk := fun σ' H' => D.bk (σ'.set i none) H', ct := fun σ' H' => D.ct (σ'.set i none) H' }
def runA (D : Ends) (i : Option Nat) (t : TS) (a : Addr) (σ : L2.St) (H : Hp) : Prop := match i with
  | none => t D σ H
  | some i => t (endsAs D i) (σ.set i (some (.ref a))) H
def wManyA (K : PySem.W.Frag) (Wout : WX) (D : Ends) : List HdT → WX
  | [] => Wout
  | (c, i, ts) :: r => fun cls d σ H => ∃ b, PySem.W.exmOne K cls c = some b ∧ (b = true → ∀ a, H a = none → runA D i (ts a cls d) a σ H) ∧ (b = false → wManyA K Wout D r cls d σ H)
inductive HdsA (X : Cx) : List ExceptHandler → List HdT → Prop
  | nil : HdsA X [] []
  | cons {x : Str} {c : Value} {ts : Addr → Value → Option Addr → TS} {b₀ : Stmt} {suite : List Stmt} {np pos' : Pos} {hds : List ExceptHandler} {l : List HdT} (hc : Names X x c)
      (hsu : ∀ (a : Addr) (oe : Obj) (cls : Value) (d : Option Addr) (pn : List (Addr × Obj)), Zc cls d oe → (∃ vs, oe.data = .fields vs) → PSs (X.suite a ((a, oe) :: pn)) (b₀ :: suite) (ts a cls d)) (r : HdsA X hds l) :
      HdsA X (.ExceptHandler (some (.Name x np)) none (b₀ :: suite) pos' :: hds) ((c, none, ts) :: l)
  | as_ {x n : Str} {i : Nat} {c : Value} {ts : Addr → Value → Option Addr → TS} {b₀ : Stmt} {suite : List Stmt} {np pos' : Pos} {hds : List ExceptHandler} {l : List HdT} (hi : X.N[i]? = some n) (hln : X.env.kindOf n = some .local) (hc : Names X x c)
      (hsu : ∀ (a : Addr) (oe : Obj) (cls : Value) (d : Option Addr) (pn : List (Addr × Obj)), Zc cls d oe → (∃ vs, oe.data = .fields vs) → PSs (X.suite a ((a, oe) :: pn)) (b₀ :: suite) (ts a cls d)) (r : HdsA X hds l) :
      HdsA X (.ExceptHandler (some (.Name x np)) (some n) (b₀ :: suite) pos' :: hds) ((c, some i, ts) :: l)
section
variable {X : Cx} {body : List Stmt} {h₀ : ExceptHandler} {hds : List ExceptHandler} {l : List HdT} {pos : Pos} {tb : WX → TS} {Wout : WX}
theorem ps_try_manyA (hs : X.stack = X.env :: X.outer) (hf : X.env.frame = some X.env.locals) (hN : X.N.Nodup) (tk : Takes X Wout)
    (hb : ∀ (W : WX) (pn : List (Addr × Obj)) (xe : Value → Shared → Prop), Takes (X.tr pn xe) W → PassesOwn (model X.prog X.w) X.A X.env xe → PSs (X.tr pn xe) body (tb W))
    (hh : HdsA X (h₀ :: hds) l) : PS X (.Try body (h₀ :: hds) [] [] pos) (fun D σ H => tb (wManyA X.K Wout D l) D σ H) := by
  refine ⟨fun pins s σ H D I h => ?_⟩
  have ok := I.ok
  have hfr : X.A.frames = some (X.env :: X.outer) := by rw [ok.frames, hs]
  refine wpAny_Try_except ?_
  refine wpAny_mono ((hb (wManyA X.K Wout D l) (X.pn ++ pins) (fun e s₁ => wpAny (model X.prog X.w) X.A (noteFrame e X.env) (fun _ s₂ => wpAny (model X.prog X.w) X.A (setFlight e none) (fun _ s₃ =>
    wpAny (model X.prog X.w) X.A (handleBy e X.env (h₀ :: hds)) (SP X pins D) X.xe s₃) X.xe s₂) X.xe s₁) (fun u s' xx => ?_) PassesOwn.looking).run [] s σ H D (I.toTry _) h) (fun f s1 hsp => ?_) (fun e s1 he => he)
  · -- the catch
    obtain ⟨a, B, sI, pins', σ', H', cls, d, rfl, J', nb, up, sky, na, os, ag, w⟩ := xx
    have J : Inv X pins σ' H' sI := J'.ofTry ok
    have sky' : Sky B (X.env :: X.outer) a (Zc cls d) X.env.locals s'.heap := by rw [← hs]; exact sky
    show wpAny (model X.prog X.w) X.A (noteFrame (.ref a) X.env) _ _ _
    refine Sky.land Zc.steady hfr hf sky' fun h3 fl3 up3 => ?_
    have J3 : Inv X pins σ' H' { s' with heap := h3 } := J.landed nb fl3.1 (up.trans up3) os ag
    obtain ⟨oe3, vs3, he3, hz3, hd3⟩ := fl3.there
    have notFr : ∀ {h : Heap} {o : Obj} {vs : Array Value}, h.FunFrames B (X.env :: X.outer) → h.get? a = some o → o.data = .fields vs → a ∉ frs (X.env :: X.outer) := fun {h o vs} ff e dd hm => by
      obtain ⟨_, o', e', hnf⟩ := ff.mem hm
      rw [e] at e'; cases e'
      exact hnf _ dd
    have nfr := notFr fl3.2.2.1 he3 hd3
    have nL : a ≠ X.env.locals := fun z => nfr (List.mem_filterMap.mpr ⟨X.env, List.mem_cons_self, by rw [hf, z]⟩)
    have nF : a ∉ X.fs := fun hm => by
      obtain ⟨e, he, q⟩ := List.mem_filterMap.mp hm
      exact nfr (List.mem_filterMap.mpr ⟨e, List.mem_cons_of_mem _ he, q⟩)
    have S3 := J3.suite he3 hd3 na nL nF
    have LT : PySem.W.Looks (model X.prog X.w) h3 (typeOf (.ref a)) cls := fun A Q E s k q => wpAny_typeOf_ref (k _ _ he3) (by rw [hz3.1]; exact q)
    have test : ∀ {x : Str} {c : Value} {np : Pos} (hc : Names X x c) {Q : Value → Shared → Prop} {E : Value → Shared → Prop}, Q c { s' with heap := h3 } → wpAny (model X.prog X.w) (X.A.mark (some (.ref a))) (eval (.Name x np) X.env) Q E { s' with heap := h3 } := fun {x c np} hc {Q E} q => by
      obtain ⟨hg, hdbg, hm | ⟨hm, hv, hnn⟩⟩ := hc
      · exact ld_glob (X := X.suite a ((a, oe3) :: (X.pn ++ pins))) S3 hg hm q hdbg
      · exact ld_blt (X := X.suite a ((a, oe3) :: (X.pn ++ pins))) S3 hg hm hv q hnn hdbg
    have go : ∀ {hds' : List ExceptHandler} {l' : List HdT}, HdsA X hds' l' → wManyA X.K Wout D l' cls d σ' H' →
        wpAny (model X.prog X.w) X.A (handleBy (.ref a) X.env hds') (SP X pins D) X.xe { s' with heap := h3 } := by
      intro hds' l' hk
      induction hk with
      | nil =>
        intro w
        refine wpAny_handleBy_nil ?_
        obtain ⟨k1, k2, k3, oe, vs, T, oT, ts', he, hz, hd, h1, hr⟩ := id fl3
        unfold PySem.passOn
        refine wpAny_bind (wpAny_field he hd h1 ?_)
        rw [if_neg (show ¬ ((Value.ref T == Value.none) = true) from by simp)]
        have fin : wpAny (model X.prog X.w) X.A (setFlight (.ref a) X.env.frame) (fun _ s4 => wpAny (model X.prog X.w) X.A (throw (.ref a) : Sem Flow) (SP X pins D) X.xe s4) X.xe { s' with heap := h3 } := by
          rw [hf]
          refine HandSPX.setFlight_upZ fl3 fun h4 hh4 up4 => wpAny_throw (tk _ _ ?_)
          exact ⟨a, B, sI, pins, σ', H', cls, d, rfl, J, nb, (up.trans up3).trans up4, .inr (.inr (by rw [hs]; exact hh4)), na, os, ag, w⟩
        first
          | exact wpAny_bind (wpAny_pure (wpAny_bind fin))
          | exact wpAny_bind fin
      | @cons x c ts b₀ suite np pos' hds2 l2 hc hsu r ih =>
        intro w
        obtain ⟨b, hb1, hyes, hno⟩ := w
        refine wpAny_handleBy_cons (codeAny_handlers_test ?_) (by intro q; cases q)
        have LM := PySem.W.exm_one (M := model X.prog X.w) (J3.kIn) LT hb1
        refine test hc (LM.here ?_)
        cases b with
        | true =>
          refine codeAny_handlers_suite ?_
          refine HandSPX.lands_againZ fl3 fun h4 fl4 up4 => ?_
          have J4 : Inv X pins σ' H' { s' with heap := h4 } := J.landed nb fl4.1 ((up.trans up3).trans up4) os ag
          obtain ⟨oe4, vs4, he4, hz4, hd4⟩ := fl4.there
          have S4 := J4.suite he4 hd4 na nL nF
          refine wpAny_mono ((hsu a oe4 cls d (X.pn ++ pins) hz4 ⟨_, hd4⟩).run [] _ _ H' _ S4 (hyes rfl a na)) (fun f s6 hsp => ?_) (fun _ _ z => False.elim z)
          cases f with
          | next =>
            obtain ⟨σ6, H6, S6, q6⟩ := hsp
            exact ⟨_, _, S6.unsuite ok, q6⟩
          | brk =>
            obtain ⟨σ6, H6, S6, q6⟩ := hsp
            exact ⟨_, _, S6.unsuite ok, q6⟩
          | cont =>
            obtain ⟨σ6, H6, S6, q6⟩ := hsp
            exact ⟨_, _, S6.unsuite ok, q6⟩
          | ret u =>
            obtain ⟨v6, σ6, H6, S6, r6, q6⟩ := hsp
            exact ⟨_, _, _, S6.unsuite ok, r6, q6⟩
        | false =>
          show wpAny _ X.A (handleBy (.ref a) X.env hds2) _ _ _
          exact ih (hno rfl)
      | @as_ x n i c ts b₀ suite np pos' hds2 l2 hi hln hc hsu r ih =>
        intro w
        obtain ⟨b, hb1, hyes, hno⟩ := w
        refine wpAny_handleBy_cons (codeAny_handlers_test ?_) (by intro q; cases q)
        have LM := PySem.W.exm_one (M := model X.prog X.w) (J3.kIn) LT hb1
        refine test hc (LM.here ?_)
        cases b with
        | true =>
          refine codeAny_handlers_suite_as ?_
          refine HandSPX.lands_againZ fl3 fun h4 fl4 up4 => ?_
          have J4 : Inv X pins σ' H' { s' with heap := h4 } := J.landed nb fl4.1 ((up.trans up3).trans up4) os ag
          obtain ⟨oe4, vs4, he4, hz4, hd4⟩ := fl4.there
          have S4 := J4.suite he4 hd4 na nL nF
          refine store_ok (X := X.suite a ((a, oe4) :: (X.pn ++ pins))) (v := .ref a) S4 hN hi (.inl hln) rfl (fun s5 S5 => ?_) (.inr hln)
          refine wpAny_mono ((hsu a oe4 cls d (X.pn ++ pins) hz4 ⟨_, hd4⟩).run [] s5 _ H' _ S5 (hyes rfl a na)) (fun f s6 hsp => ?_) (fun _ _ z => False.elim z)
          have end_ : ∀ {σ6 : L2.St} {H6 : Hp} {Q : Shared → Prop}, Inv (X.suite a ((a, oe4) :: (X.pn ++ pins))) [] σ6 H6 s6 → (∀ s7, Inv X pins (σ6.set i none) H6 s7 → Q s7) →
              wpAny (model X.prog X.w) X.A (do bindName X.env n .none; unbindBehindTheSuite X.env n pos') (fun _ s7 => Q s7) X.xe s6 := fun {σ6 H6 Q} S6 hq => gone_ok (S6.unsuite ok) hN hi hln hq
          cases f with
          | next =>
            obtain ⟨σ6, H6, S6, q6⟩ := hsp
            exact end_ S6 fun s7 J7 => ⟨_, _, J7, q6⟩
          | brk =>
            obtain ⟨σ6, H6, S6, q6⟩ := hsp
            exact end_ S6 fun s7 J7 => ⟨_, _, J7, q6⟩
          | cont =>
            obtain ⟨σ6, H6, S6, q6⟩ := hsp
            exact end_ S6 fun s7 J7 => ⟨_, _, J7, q6⟩
          | ret u =>
            obtain ⟨v6, σ6, H6, S6, r6, q6⟩ := hsp
            exact end_ S6 fun s7 J7 => ⟨_, _, _, J7, r6, q6⟩
        | false =>
          show wpAny _ X.A (handleBy (.ref a) X.env hds2) _ _ _
          exact ih (hno rfl)
    exact go hh w
  · cases f with
    | next =>
      obtain ⟨σ', H', J', q⟩ := hsp
      exact wpAny_execs_nil ⟨σ', H', J'.ofTry ok, q⟩
    | brk =>
      obtain ⟨σ', H', J', q⟩ := hsp
      exact ⟨σ', H', J'.ofTry ok, q⟩
    | cont =>
      obtain ⟨σ', H', J', q⟩ := hsp
      exact ⟨σ', H', J'.ofTry ok, q⟩
    | ret u =>
      obtain ⟨v, σ', H', J', r, q⟩ := hsp
      exact ⟨v, σ', H', J'.ofTry ok, r, q⟩
end
end Y

namespace Y
open PySem PySem.Spec PyProof.Rows L2
/-! ### objects: methods and fields -/
def tMethS1 (C : Addr) (m : Str) (sp : Sp) (E : L2.St → XK) (ta : TE) (t : TA) : TE := fun σ H Q => ta σ H fun x H1 => ∃ a dx fs, x = .ref a ∧ H1 a = some (.ins C dx fs) ∧ fs.lookup m = none ∧ t σ H1 fun vs H2 => sp (.ref a :: vs) H2 Q (E σ)
section
variable {X : Cx} {CX : CXT} {k : Nat} {C : Addr} {ps : List Str} {sp : Sp} {E : XK} {m : Str} {f : Addr} {pos apos : Pos} {e o : Expr} {es : List Expr} {ta : TE} {t : TA}
theorem pe_methC {pl : Sem Bool} (he : PE X o ta) (c : Cls X.K C) (hm : Meth X.K C m f) (F : FnOk X.prog X.w X.K X.mg X.base CX k f (fdOf X.K f) ps sp) (hr : Room k X.A) (ca : CalM X.K f ps) (hx : Passes CX X E) (ha : PA X (e :: es) t)
    (hst : starEach (e :: es) X.env = (false, eval e X.env) :: starEach es X.env := by rfl) (hpl : (backTo pos (starEach es X.env)).any (·.1) = false := by rfl)
    (ht : eval (.Call (.Attribute o m apos) (e :: es) [] pos) X.env = (do
      let ov ← eval o X.env
      standAt apos.atName
      let (f, first) ← holding [ov] (getMethod ov m pl)
      callWith pos f first (backTo pos (starEach (e :: es) X.env)) (backToKw pos (keywordEach [] X.env))) := by rfl) :
    PE X (.Call (.Attribute o m apos) (e :: es) [] pos) (tMeth1 C m sp E ta t) := by
  refine ⟨fun pins s σ H Q I h => ?_⟩
  refine PySem.W.methodCall_KW (pl := pl) (thn (he.run pins s σ H _ I h) fun u s1 ⟨x, H1, I1, rx, a, dx, fs, ex, ea, l, q⟩ => ?_) ht
  subst ex
  obtain rfl : u = Value.ref a := rx
  refine getmeth_ok I1 ea c hm l ?_
  refine PySem.W.callWith_K (first := [.ref a]) (h₀ := X.base) I.ok.mod.kin hm.kp (thn (ha.run pos pins s1 σ H1 _ I1 q) fun us s2 ⟨vs, H2, I2, r, q2⟩ => ⟨I2.kIn, ?_⟩) hst hpl
  exact run_fn (us := .ref a :: us) (vs := .ref a :: vs) F hr ca.b .nil hx I2 (.cons rfl r) (by rw [List.append_nil]; exact q2)
theorem pe_meth0C {pl : Sem Bool} (he : PE X o ta) (c : Cls X.K C) (hm : Meth X.K C m f) (F : FnOk X.prog X.w X.K X.mg X.base CX k f (fdOf X.K f) ps sp) (hr : Room k X.A) (ca : CalM X.K f ps) (hx : Passes CX X E)
    (ht : eval (.Call (.Attribute o m apos) [] [] pos) X.env = (do
      let ov ← eval o X.env
      standAt apos.atName
      let (f, first) ← holding [ov] (getMethod ov m pl)
      callWith pos f first (backTo pos (starEach [] X.env)) (backToKw pos (keywordEach [] X.env))) := by rfl) :
    PE X (.Call (.Attribute o m apos) [] [] pos) (tMeth1 C m sp E ta tNil) := by
  refine ⟨fun pins s σ H Q I h => ?_⟩
  refine PySem.W.methodCall_KW (pl := pl) (thn (he.run pins s σ H _ I h) fun u s1 ⟨x, H1, I1, rx, a, dx, fs, ex, ea, l, q⟩ => ?_) ht
  subst ex
  obtain rfl : u = Value.ref a := rx
  refine getmeth_ok I1 ea c hm l ?_
  exact PySem.W.callWith_K0 (first := [.ref a]) I1.kIn hm.kp (run_fn (us := [.ref a]) (vs := [.ref a]) F hr ca.b .nil hx I1 (.cons rfl .nil) (by rw [List.append_nil]; exact q))
theorem pe_methCS {pl : Sem Bool} {E : L2.St → XK} (he : PE X o ta) (c : Cls X.K C) (hm : Meth X.K C m f) (F : FnOk X.prog X.w X.K X.mg X.base CX k f (fdOf X.K f) ps sp) (hr : Room k X.A) (ca : CalM X.K f ps) (hx : ∀ σ, PassesAt CX X σ (E σ)) (ha : PA X (e :: es) t)
    (hst : starEach (e :: es) X.env = (false, eval e X.env) :: starEach es X.env := by rfl) (hpl : (backTo pos (starEach es X.env)).any (·.1) = false := by rfl)
    (ht : eval (.Call (.Attribute o m apos) (e :: es) [] pos) X.env = (do
      let ov ← eval o X.env
      standAt apos.atName
      let (f, first) ← holding [ov] (getMethod ov m pl)
      callWith pos f first (backTo pos (starEach (e :: es) X.env)) (backToKw pos (keywordEach [] X.env))) := by rfl) :
    PE X (.Call (.Attribute o m apos) (e :: es) [] pos) (tMethS1 C m sp E ta t) := by
  refine ⟨fun pins s σ H Q I h => ?_⟩
  refine PySem.W.methodCall_KW (pl := pl) (thn (he.run pins s σ H _ I h) fun u s1 ⟨x, H1, I1, rx, a, dx, fs, ex, ea, l, q⟩ => ?_) ht
  subst ex
  obtain rfl : u = Value.ref a := rx
  refine getmeth_ok I1 ea c hm l ?_
  refine PySem.W.callWith_K (first := [.ref a]) (h₀ := X.base) I.ok.mod.kin hm.kp (thn (ha.run pos pins s1 σ H1 _ I1 q) fun us s2 ⟨vs, H2, I2, r, q2⟩ => ⟨I2.kIn, ?_⟩) hst hpl
  exact run_fnS (us := .ref a :: us) (vs := .ref a :: vs) F hr ca.b (hx σ) I2 (.cons rfl r) q2
end
def MthW (C : Addr) (m : Str) (R : Addr → Hp → Prop) (x : V) (H1 : Hp) : Prop := ∃ a dx fs, x = .ref a ∧ H1 a = some (.ins C dx fs) ∧ fs.lookup m = none ∧ R a H1
def FldW (K : PySem.W.Frag) (f : Str) (Q : VK) (x : V) (H1 : Hp) : Prop := ∃ a C dx fs v, x = .ref a ∧ H1 a = some (.ins C dx fs) ∧ Cls K C ∧ NoAttr K C f ∧ fs.lookup f = some v ∧ Q v H1
def SfdW (K : PySem.W.Frag) (f : Str) (y : V) (R : Hp → Prop) (x : V) (H2 : Hp) : Prop := ∃ a C dx fs, x = .ref a ∧ H2 a = some (.ins C dx fs) ∧ Cls K C ∧ NoAttr K C f ∧ fs.length < 1000 ∧ R (upd H2 a (.ins C dx (putF f y fs)))
section
variable {K : PySem.W.Frag} {σ : L2.St} {H : Hp} {Q : VK} {D : Ends} {C : Addr} {m f : Str} {sp : Sp} {E : XK} {ta tv : TE} {ar : TA} {dx : Addr} {a : Addr} {fs : List (Str × V)} {v y : V}
theorem g_meth (q : ta σ H fun x H1 => MthW C m (fun a H2 => ar σ H2 fun vs H3 => sp (.ref a :: vs) H3 Q E) x H1) : tMeth1 C m sp E ta ar σ H Q := q
theorem g_methS {E : L2.St → XK} (q : ta σ H fun x H1 => MthW C m (fun a H2 => ar σ H2 fun vs H3 => sp (.ref a :: vs) H3 Q (E σ)) x H1) : tMethS1 C m sp E ta ar σ H Q := q
theorem g_fld (q : ta σ H fun x H1 => FldW K f Q x H1) : tFld K ta f σ H Q := q
theorem g_sfd (q : tv σ H fun y H1 => ta σ H1 fun x H2 => SfdW K f y (fun H3 => D.nx σ H3) x H2) : sFld K ta tv f D σ H := q
theorem g_mth {R : Addr → Hp → Prop} (h : H a = some (.ins C dx fs)) (hl : fs.lookup m = none) (q : R a H) : MthW C m R (.ref a) H := ⟨a, dx, fs, rfl, h, hl, q⟩
theorem g_fdW (h : H a = some (.ins C dx fs)) (c : Cls K C) (n : NoAttr K C f) (hl : fs.lookup f = some v) (q : Q v H) : FldW K f Q (.ref a) H := ⟨a, C, dx, fs, v, rfl, h, c, n, hl, q⟩
theorem g_sfW {R : Hp → Prop} (h : H a = some (.ins C dx fs)) (c : Cls K C) (n : NoAttr K C f) (hl : fs.length < 1000) (q : R (upd H a (.ins C dx (putF f y fs)))) : SfdW K f y R (.ref a) H := ⟨a, C, dx, fs, rfl, h, c, n, hl, q⟩
end
theorem g_nbool {b : Bool} {A B : Prop} {i : Decidable ((!b) = true)} (h1 : b = false → A) (h2 : b = true → B) : @ite Prop ((!b) = true) i A B := by
  cases b with
  | true => rw [if_neg (by simp)]; exact h2 rfl
  | false => rw [if_pos (by simp)]; exact h1 rfl
/-! ### dicts -/
def DInW (Q : VK) (y x : V) (H : Hp) : Prop := ∃ a o, x = V.ref a ∧ DGet H a y o ∧ Q (V.bl (Option.isSome o)) H
def DNiW (Q : VK) (y x : V) (H : Hp) : Prop := ∃ a o, x = V.ref a ∧ DGet H a y o ∧ Q (V.bl (!Option.isSome o)) H
def DGeW (Q : VK) (x y : V) (H : Hp) : Prop := ∃ a v, x = V.ref a ∧ DGet H a y (some v) ∧ Q v H
def DPuW (R : Hp → Prop) (v x y : V) (H : Hp) : Prop := ∃ a H4, x = V.ref a ∧ DPut H a y v H4 ∧ R H4
def DDeW (R : Hp → Prop) (x y : V) (H : Hp) : Prop := ∃ a kvs k, x = V.ref a ∧ H a = some (HO.dK kvs) ∧ y = kV k ∧ (valV kvs k).isSome = true ∧ R (upd H a (HO.dK (dropK kvs k)))
section
variable {K : PySem.W.Frag} {σ : L2.St} {H : Hp} {Q : VK} {D : Ends} {td ty tv te : TE} {d : Addr} {kvs : List (Key × V)} {s : Str} {v : V}
theorem g_din (q : ty σ H fun y H1 => td σ H1 fun x H2 => DInW Q y x H2) : tDIn ty td σ H Q := q
theorem g_dni (q : ty σ H fun y H1 => td σ H1 fun x H2 => DNiW Q y x H2) : tDNotIn ty td σ H Q := q
theorem g_dge (q : td σ H fun x H1 => ty σ H1 fun y H2 => DGeW Q x y H2) : tDGet td ty σ H Q := q
theorem g_dpu (q : tv σ H fun v H1 => td σ H1 fun x H2 => ty σ H2 fun y H3 => DPuW (fun H4 => D.nx σ H4) v x y H3) : sDPut td ty tv D σ H := q
theorem g_dde (q : td σ H fun x H1 => ty σ H1 fun y H2 => DDeW (fun H4 => D.nx σ H4) x y H2) : sDDel td ty D σ H := q
theorem g_lvs (q : te σ H fun x H1 => rListVals x H1 Q) : tListVals te σ H Q := q
theorem g_new (q : ∀ p, H p = none → Q (.ref p) (upd H p (.dK []))) : tDNewK σ H Q := q
theorem g_dinW (h : H d = some (.dK kvs)) (q : Q (.bl (valV kvs (Sum.inr s : Key)).isSome) H) : DInW Q (.str s) (.ref d) H := ⟨d, _, rfl, .inl ⟨kvs, .inr s, .inl h, rfl, rfl⟩, q⟩
theorem g_dniW (h : H d = some (.dK kvs)) (q : Q (.bl (!(valV kvs (Sum.inr s : Key)).isSome)) H) : DNiW Q (.str s) (.ref d) H := ⟨d, _, rfl, .inl ⟨kvs, .inr s, .inl h, rfl, rfl⟩, q⟩
theorem g_dgeW (h : H d = some (.dK kvs)) (hv : valV kvs (Sum.inr s : Key) = some v) (q : Q v H) : DGeW Q (.ref d) (.str s) H := ⟨d, v, rfl, .inl ⟨kvs, .inr s, .inl h, rfl, hv.symm⟩, q⟩
theorem g_ddeW {R : Hp → Prop} (h : H d = some (.dK kvs)) (hv : (valV kvs (Sum.inr s : Key)).isSome = true) (q : R (upd H d (.dK (dropK kvs (Sum.inr s : Key))))) : DDeW R (.ref d) (.str s) H := ⟨d, kvs, .inr s, rfl, h, rfl, hv, q⟩
end
/-- raised from (G, H): an error of the class at C whose field f is z -/
def RaX (C : Addr) (f : Str) (z : V) (G H : Hp) (E : XK) : Prop := ∀ G' H' dd, Nx [] G H G' H' → H' dd = some (.xd [(f, z)]) → E (.ref C) (some dd) H'
theorem RaX.go {C : Addr} {f : Str} {z : V} {G H G1 H1 : Hp} {E : XK} (r : RaX C f z G H E) (n : Nx [] G H G1 H1) {dd : Addr} (hd : H1 dd = none) : E (.ref C) (some dd) (upd H1 dd (.xd [(f, z)])) := r G1 _ dd (n.trans (Nx.own n.gh hd)) upd_same
theorem RaX.trans {C : Addr} {f : Str} {z : V} {G H G1 H1 : Hp} {E : XK} (r : RaX C f z G H E) (n : Nx [] G H G1 H1) : RaX C f z G1 H1 E := fun G' H' dd n' h => r G' H' dd (n.trans n') h
/-- a list that stands, apart from what is known -/
def LstAt (K : PySem.W.Frag) (p : Addr) (G H : Hp) (L : List PyData) : Prop := ∃ vs, H p = some (.lst vs) ∧ G p = none ∧ DpAll K G vs L
section
variable {K : PySem.W.Frag} {p A : Addr} {G H G' H' G0 H0 : Hp} {L : List PyData} {M : List Addr} {o : HO}
theorem LstAt.go (r : LstAt K p G H L) (n : Nx M G H G' H') (hp : p ∉ M) : LstAt K p G' H' L := by
  obtain ⟨vs, h, g, d⟩ := r
  exact ⟨vs, n.fr p _ hp h, n.old p g ⟨_, h, fun _ z => nomatch z⟩, dpAll_mono n.gg d⟩
theorem LstAt.upd (r : LstAt K p G H L) (h : A ≠ p) : LstAt K p G (upd H A o) L := by
  obtain ⟨vs, h1, g, d⟩ := r
  exact ⟨vs, by rw [upd_ne h.symm]; exact h1, g, d⟩
theorem LstAt.live (r : LstAt K p G H L) : H p ≠ none := by
  obtain ⟨vs, h1, _⟩ := r
  rw [h1]; exact fun z => nomatch z
/-- .. known from now on -/
theorem LstAt.know (r : LstAt K p G H L) (n : Nx M G0 H0 G H) (h : H0 p = none) : ∃ G', Nx M G0 H0 G' H ∧ Y.Ex G G' ∧ Dp K G' (.ref p) (.list L) := by
  obtain ⟨vs, h1, g, d⟩ := r
  exact ⟨_, n.know h h1 g, Ex.new g, .lst (.of upd_same) (dpAll_mono (Ex.new g) d)⟩
theorem Nx.sub {M' : List Addr} (a : Nx M' G H G' H') (h : ∀ x ∈ M', x ∈ M ∨ H x = none) : Nx M G H G' H' := ⟨a.gg, a.gh, a.old, a.live, fun c u hc q => a.fr c u (fun z => by
  rcases h c z with z | z
  · exact hc z
  · rw [z] at q; cases q) q, a.nt⟩
theorem g_make0 {C : Addr} {sp : Sp} {E : XK} {σ : L2.St} {Q : VK} (q : ∀ x dx, H x = none → H dx = none → dx ≠ x → sp [.ref x] (L2.upd (L2.upd H dx (.own x)) x (.ins C dx [])) (fun v H2 => v = .non ∧ Q (.ref x) H2) E) : tMake C sp [] E tNil σ H Q := q
theorem nx_make {C x dx : Addr} (e : Y.Ex G H) (h1 : H x = none) (h2 : H dx = none) (h3 : dx ≠ x) : Nx [] G H G (L2.upd (L2.upd H dx (.own x)) x (.ins C dx [])) :=
  (Nx.own e h2).trans (Nx.own (e.out (e.free h2)) (by rw [upd_ne h3.symm]; exact h1))
theorem g_listM {x : V} {Q : VK} (e : Y.Ex G H) (h : Dp K G x (.list L)) (q : ∀ p H', Nx [] G H G H' → H p = none → LstAt K p G H' L → Q (.ref p) H') : rListOf K [x] H Q := by
  obtain ⟨a, vs, rfl, hs, hd⟩ := dp_lst h
  exact ⟨a, vs, rfl, .inl (e.seqL hs), fun l hl => q l _ (Nx.own e hl) hl ⟨vs, upd_same, e.free hl, hd⟩⟩
theorem g_listL {Q : VK} (e : Y.Ex G H) (h : LstAt K A G H L) (q : ∀ p H', Nx [] G H G H' → H p = none → LstAt K p G H' L → Q (.ref p) H') : rListOf K [.ref A] H Q := by
  obtain ⟨vs, hs, g, hd⟩ := h
  exact ⟨A, vs, rfl, .inl (.of hs), fun l hl => q l _ (Nx.own e hl) hl ⟨vs, upd_same, e.free hl, hd⟩⟩
end
def rDictC : List V → Hp → VK → Prop := fun xs H Q => ∃ a kvs, xs = [V.ref a] ∧ Rd H a (.dK kvs) ∧ ∀ (p : Addr), H p = none → Q (V.ref p) (upd H p (.dK kvs))
theorem call_dictC {X : Cx} : CallR X (.type "dict") rDictC := call_dictD
theorem g_dictC {H : Hp} {Q : VK} {a : Addr} {kvs : List (Key × V)} (h : H a = some (.dK kvs)) (q : ∀ p, H p = none → Q (.ref p) (upd H p (.dK kvs))) : rDictC [.ref a] H Q := ⟨a, kvs, rfl, .inl h, q⟩
theorem g_listDk {H : Hp} {Q : VK} {a : Addr} {kvs : List (Key × V)} (h : H a = some (.dK kvs)) (q : ∀ p, H p = none → Q (.ref p) (upd H p (.lst (kvs.map fun kv => kV kv.1)))) : rListD [.ref a] H Q := ⟨a, kvs, rfl, h, q⟩
theorem g_listVs {H : Hp} {Q : VK} {a : Addr} {kvs : List (Key × V)} (h : H a = some (.dK kvs)) (q : ∀ p, H p = none → Q (.ref p) (upd H p (.lst (kvs.map (·.2))))) : rListVals (.ref a) H Q := ⟨a, kvs, rfl, h, q⟩
def DelW (R : Hp → Prop) (x y : V) (H : Hp) : Prop := ∃ l xs i k, x = V.ref l ∧ y = V.int i ∧ H l = some (HO.lst xs) ∧ -2 ^ 63 ≤ i ∧ i < 2 ^ 63 ∧ seqIndex? i xs.length = some k ∧ R (upd H l (HO.lst (xs.eraseIdx k)))
theorem g_del {D : Ends} {σ : L2.St} {H : Hp} {to ti : TE} (q : to σ H fun x H1 => ti σ H1 fun y H2 => DelW (fun H3 => D.nx σ H3) x y H2) : tDelL to ti D σ H := q
theorem g_delW {R : Hp → Prop} {H : Hp} {l : Addr} {xs : List V} {i : Int} (h : H l = some (.lst xs)) (h0 : 0 ≤ i) (h1 : i < (xs.length : Int)) (hs : xs.length ≤ 100000) (q : R (upd H l (.lst (xs.eraseIdx i.toNat)))) : DelW R (.ref l) (.int i) H :=
  ⟨l, xs, i, i.toNat, rfl, rfl, h, by omega, by omega, by simp [seqIndex?, show ¬ i < 0 by omega, h0, h1], q⟩
section
variable {K : PySem.W.Frag} {G H : Hp} {Q : VK} {y : V} {a b s : Str}
theorem g_nin2 (e : Y.Ex G H) (h : Dp K G y (.tuple [.str a, .str b])) (q : Q (.bl (!(decide (a = s) || decide (b = s)))) H) : rIn K true (.str s) y H Q := by
  obtain ⟨p, xs, rfl, hs, hd⟩ := dp_tup h
  cases hd with
  | cons d1 t => cases t with
    | cons d2 t =>
      cases t; cases d1; cases d2
      refine ⟨p, _, rfl, .inr (e.seqT hs), rfl, rfl, ?_⟩
      have z : ∀ a : Str, (a == s) = decide (a = s) := fun a => by
        by_cases h : a = s
        · subst h; rw [decide_eq_true rfl]; exact beq_self_eq_true a
        · rw [decide_eq_false h]; exact beq_eq_false_iff_ne.mpr h
      have e2 : inV (.str s) [V.str a, V.str b] = (decide (a = s) || decide (b = s)) := by
        show (a == s || (b == s || false)) = _
        rw [z, z, Bool.or_false]
      rw [e2]
      exact q
/-- xs.index(s) for texts -/
theorem g_index {p : Addr} {ss : List Str} {j : Nat} (h : H p = some (.lst (ss.map V.str))) (hj : ss[j]? = some s) (hm : ∀ m, m < j → ss[m]? ≠ some s) (q : Q (.int (j : Int)) H) : rIndex K (.ref p) [.str s] H Q := by
  refine ⟨p, _, _, j, .str s, rfl, rfl, .of h, rfl, ?_, by rw [List.getElem?_map, hj]; rfl, beq_self_eq_true s, fun m z' hlt hz => ?_, q⟩
  · rw [List.all_map]
    exact List.all_eq_true.mpr fun _ _ => rfl
  · rw [List.getElem?_map] at hz
    obtain ⟨t, ht, rfl⟩ := Option.map_eq_some_iff.mp hz
    refine beq_eq_false_iff_ne.mpr fun z => hm m hlt ?_
    rw [ht, z]
end
theorem cutS_hi (z : Str) (k : Nat) : (cutS z none (some (k : Int))).cps.toList = z.cps.toList.take k := by
  unfold cutS
  rw [HT.sIx_nat, HT.sIx_none, List.drop_zero, Nat.sub_zero, List.toList_toArray]
  have hl : z.cps.toList.length = z.length := Array.length_toList
  by_cases h : k ≤ z.length
  · rw [Nat.min_eq_left h]
  · rw [Nat.min_eq_right (by omega), List.take_of_length_le (by omega), List.take_of_length_le (by omega)]
theorem dpAll_str_inv {K : PySem.W.Frag} {G : Hp} : ∀ {ns : List Str} {vs : List V}, DpAll K G vs (ns.map PyData.str) → vs = ns.map V.str
  | [], _, h => by cases h; rfl
  | n :: r, _, h => by
    cases h with
    | cons a t =>
      cases a
      rw [dpAll_str_inv t]; rfl
theorem dpAll_str {K : PySem.W.Frag} {G : Hp} : ∀ ns : List Str, DpAll K G (ns.map V.str) (ns.map PyData.str)
  | [] => .nil
  | n :: r => .cons (.str n) (dpAll_str r)
theorem rng_get {n i : Nat} {d : PyData} (h : (rng 0 n)[i]? = some d) : i < n ∧ d = .int (i : Int) := by
  have hl : i < n := by
    have := (List.getElem?_eq_some_iff.mp h).1
    simpa [rng] using this
  unfold rng at h
  rw [List.getElem?_map, List.getElem?_range hl] at h
  cases h
  exact ⟨hl, by simp⟩
theorem rng_len (n : Nat) : (rng 0 n).length = n := by simp [rng]
theorem take_get {xs : List PyData} {i : Nat} {d : PyData} (h : xs[i]? = some d) : xs.take (i + 1) = xs.take i ++ [d] := by
  rw [List.take_add_one, h]
  rfl
/-- a text among texts -/
theorem g_inS {K : PySem.W.Frag} {H : Hp} {Q : VK} {p : Addr} {ss : List Str} {t : Str} {neg : Bool} (h : SqL K H p (ss.map V.str)) (q : Q (.bl (if neg = true then !decide (t ∈ ss) else decide (t ∈ ss))) H) : rIn K neg (.str t) (.ref p) H Q := by
  refine ⟨p, _, rfl, .inl h, rfl, ?_, ?_⟩
  · rw [List.all_map]
    exact List.all_eq_true.mpr fun _ _ => rfl
  · have e : inV (.str t) (ss.map V.str) = decide (t ∈ ss) := by
      show (ss.map V.str).any (fun y => eqV y (.str t)) = _
      rw [List.any_map, Bool.eq_iff_iff, List.any_eq_true, decide_eq_true_eq]
      constructor
      · rintro ⟨x, hx, hx2⟩
        have : x = t := eq_of_beq hx2
        exact this ▸ hx
      · intro hx
        exact ⟨t, hx, beq_self_eq_true t⟩
    rw [e]
    exact q
theorem g_strI {H : Hp} {Q : VK} {i : Int} (h : i.natAbs.log2 < 1920) (q : Q (.str (toString i)) H) : rStrI [.int i] H Q := ⟨i, rfl, h, q⟩
theorem g_slS {H : Hp} {Q : VK} {z : Str} {lo hi : Option Int} (h : z.length ≤ sizeLine) (q : Q (.str (cutS z lo hi)) H) : rSlS (.str z) lo hi H Q := ⟨z, rfl, h, q⟩
theorem g_inSF {K : PySem.W.Frag} {H : Hp} {Q : VK} {p : Addr} {ss : List Str} {t : Str} (h : SqL K H p (ss.map V.str)) (q : Q (.bl (decide (t ∈ ss))) H) : rIn K false (.str t) (.ref p) H Q := g_inS h q
theorem g_inST {K : PySem.W.Frag} {H : Hp} {Q : VK} {p : Addr} {ss : List Str} {t : Str} (h : SqL K H p (ss.map V.str)) (q : Q (.bl (!decide (t ∈ ss))) H) : rIn K true (.str t) (.ref p) H Q := g_inS h q
theorem g_runS {D : Ends} {i : Nat} {t : TS} {a : Addr} {σ : L2.St} {H : Hp} (q : t (endsAs D i) (σ.set i (some (.ref a))) H) : runA D (some i) t a σ H := q
section
variable {H : Hp} {Q : VK} {l b : Addr} {xs zs : List V} {i : Int}
theorem g_popN (h : H l = some (.lst xs)) (h0 : 0 ≤ i) (h1 : i < (xs.length : Int)) (hs : xs.length ≤ 100000) (q : ∀ y, Q y (upd H l (.lst (xs.eraseIdx i.toNat)))) : rPopAt (.ref l) [.int i] H Q := by
  have hl : i.toNat < xs.length := by omega
  exact ⟨l, xs, i, i.toNat, xs[i.toNat], rfl, rfl, h, by omega, by omega, by simp [seqIndex?, show ¬ i < 0 by omega, h0, h1], by simp [hl], q _⟩
theorem g_clr (h : H l = some (.lst xs)) (q : Q .non (upd H l (.lst []))) : rClear (.ref l) [] H Q := ⟨l, xs, rfl, rfl, h, q⟩
theorem g_ext (h : H l = some (.lst xs)) (h2 : H b = some (.lst zs)) (hl : xs.length + zs.length ≤ sizeLine) (q : Q .non (upd H l (.lst (xs ++ zs)))) : rExtend (.ref l) [.ref b] H Q := ⟨l, b, xs, zs, rfl, rfl, h, h2, hl, q⟩
end
theorem depthAll_le {n : Nat} : ∀ {xs : List PyData}, (∀ d ∈ xs, d.depth ≤ n) → PyData.depthAll xs ≤ n
  | [], _ => by simp [PyData.depthAll]
  | x :: xs, h => by
    have h1 := h x (by simp)
    have h2 := depthAll_le (xs := xs) fun d hd => h d (by simp [hd])
    simp only [PyData.depthAll]
    omega
theorem depth_tup {n : Nat} {xs : List PyData} (h : ∀ d ∈ xs, d.depth ≤ n) : (PyData.tuple xs).depth ≤ n + 1 := by
  have := depthAll_le h
  simp only [PyData.depth]
  omega
theorem depth_lst {n : Nat} {xs : List PyData} (h : ∀ d ∈ xs, d.depth ≤ n) : (PyData.list xs).depth ≤ n + 1 := by
  have := depthAll_le h
  simp only [PyData.depth]
  omega
theorem shaped_lay {d : PyData} (h : SeqAt.shaped d = true) : d.canLay0 = true := by
  unfold SeqAt.shaped at h
  rw [Bool.and_eq_true] at h
  exact h.1
theorem LstAt.dp {K : PySem.W.Frag} {p : Addr} {G H : Hp} {L : List PyData} (r : LstAt K p G H L) (e : Y.Ex G H) : Dp K H (.ref p) (.list L) := by
  obtain ⟨vs, h, _, d⟩ := r
  exact .lst (.of h) (dpAll_mono e d)
/-- what is compared with itself -/
theorem g_neSame {K : PySem.W.Frag} {H : Hp} {x y : V} {d : PyData} {Q : VK} (h1 : Dp K H x d) (h2 : Dp K H y d) (s : SeqAt.shaped d = true) (q : Q (.bl false) H) : rNeD K x y H Q :=
  ⟨d, d, h1, h2, s, s, by rw [SeqAt.eqv_refl _ (shaped_lay s)]; exact q⟩
theorem g_neL {K : PySem.W.Frag} {G H : Hp} {a b : Addr} {L : List PyData} {Q : VK} (e : Y.Ex G H) (h1 : LstAt K a G H L) (h2 : LstAt K b G H L) (s : SeqAt.shaped (.list L) = true) (q : Q (.bl false) H) : rNeD K (.ref a) (.ref b) H Q :=
  g_neSame (h1.dp e) (h2.dp e) s q
/-- a loop over a range, all told by the invariant -/
theorem g_forR {g : TG} {tb : TS} {D : Ends} {σ : L2.St} {H : Hp} {n : Nat} (Pv : Nat → L2.St → Hp → Prop) (h0 : Pv 0 σ H)
    (hs : ∀ i σ' H', i < n → Pv i σ' H' → g (.int (i : Int)) σ' H' fun σ2 H2 => tb { D with nx := Pv (i + 1), ct := Pv (i + 1), bk := D.nx } σ2 H2) (hd : ∀ σ' H', Pv n σ' H' → D.nx σ' H') : ForW (Itr 0 n) g tb D σ H := by
  refine ⟨fun i m σ' H' => m = n - i ∧ i ≤ n ∧ Pv i σ' H', ⟨n, by simp, Nat.zero_le _, h0⟩, ?_⟩
  rintro i m σ' H' ⟨rfl, hi, p⟩
  by_cases hlt : i < n
  · refine .inr ⟨hlt, Pv (i + 1), fun σ3 H3 p3 => ⟨n - (i + 1), by omega, rfl, hlt, p3⟩, fun v H1 y => ?_⟩
    obtain ⟨rfl, rfl⟩ := y
    rw [Int.zero_add]
    exact hs i σ' _ hlt p
  · have e' : i = n := by omega
    subst e'
    exact .inl ⟨Nat.le_refl _, hd σ' H' p⟩
theorem nodup_le {α : Type} [DecidableEq α] : ∀ {xs ys : List α}, xs.Nodup → (∀ x ∈ xs, x ∈ ys) → xs.length ≤ ys.length
  | [], _, _, _ => Nat.zero_le _
  | x :: xs, ys, hn, hm => by
    rw [List.nodup_cons] at hn
    have hx : x ∈ ys := hm x (by simp)
    have ih := nodup_le (xs := xs) (ys := ys.erase x) hn.2 fun y hy => by
      have hne : y ≠ x := fun z => hn.1 (z ▸ hy)
      exact (List.mem_erase_of_ne hne).mpr (hm y (by simp [hy]))
    rw [List.length_erase_of_mem hx] at ih
    have : 0 < ys.length := List.length_pos_of_mem hx
    simp only [List.length_cons]
    omega
end Y

namespace Y
open PySem PySem.Spec PyProof.Rows L2
/-! ### texts as lists of signs -/
theorem str_ext {a b : Str} (h : a.cps.toList = b.cps.toList) : a = b := by
  cases a with
  | mk x => cases b with
    | mk y =>
      have : x = y := Array.toList_inj.mp h
      rw [this]
theorem lst_app (a b : Str) : (a ++ b).cps.toList = a.cps.toList ++ b.cps.toList := by
  show (a.cps ++ b.cps).toList = _
  simp
def glue (c : Nat) : List (List Nat) → List Nat
  | [] => []
  | [x] => x
  | x :: y :: r => x ++ c :: glue c (y :: r)
theorem join_lst (c : Nat) : ∀ ws : List Str, (Str.join ⟨#[c]⟩ ws).cps.toList = glue c (ws.map (·.cps.toList))
  | [] => rfl
  | [x] => rfl
  | x :: y :: r => by
    show (x ++ ⟨#[c]⟩ ++ Str.join ⟨#[c]⟩ (y :: r)).cps.toList = _
    rw [lst_app, lst_app, join_lst c (y :: r)]
    show (x.cps.toList ++ [c]) ++ _ = x.cps.toList ++ c :: _
    rw [List.append_assoc]
    rfl
theorem cut_inj {c : Nat} : ∀ {x y a b : List Nat}, c ∉ x → c ∉ y → x ++ c :: a = y ++ c :: b → x = y ∧ a = b
  | [], [], a, b, _, _, h => by
    simp only [List.nil_append, List.cons.injEq] at h
    exact ⟨rfl, h.2⟩
  | [], z :: y, a, b, _, h2, h => by
    simp only [List.nil_append, List.cons_append, List.cons.injEq] at h
    exact absurd (by rw [← h.1]; simp : c ∈ z :: y) h2
  | z :: x, [], a, b, h1, _, h => by
    simp only [List.nil_append, List.cons_append, List.cons.injEq] at h
    exact absurd (by rw [h.1]; simp : c ∈ z :: x) h1
  | z :: x, w :: y, a, b, h1, h2, h => by
    simp only [List.cons_append, List.cons.injEq] at h
    obtain ⟨e1, e2⟩ := cut_inj (fun m => h1 (by simp [m])) (fun m => h2 (by simp [m])) h.2
    exact ⟨by rw [h.1, e1], e2⟩
theorem glue_inj {c : Nat} : ∀ {A B : List (List Nat)}, A ≠ [] → B ≠ [] → (∀ p ∈ A, c ∉ p) → (∀ p ∈ B, c ∉ p) → glue c A = glue c B → A = B
  | [], _, h, _, _, _, _ => absurd rfl h
  | _ :: _, [], _, h, _, _, _ => absurd rfl h
  | [x], [y], _, _, _, _, h => by rw [show x = y from h]
  | [x], y :: z :: r, _, _, h1, _, h => by
    have : c ∈ x := by
      rw [show x = y ++ c :: glue c (z :: r) from h]
      simp
    exact absurd this (h1 x (by simp))
  | x :: y :: r, [z], _, _, _, h2, h => by
    have : c ∈ z := by
      rw [show z = x ++ c :: glue c (y :: r) from h.symm]
      simp
    exact absurd this (h2 z (by simp))
  | x :: y :: r, z :: w :: t, _, _, h1, h2, h => by
    obtain ⟨e1, e2⟩ := cut_inj (h1 x (by simp)) (h2 z (by simp)) (show x ++ c :: glue c (y :: r) = z ++ c :: glue c (w :: t) from h)
    rw [e1, glue_inj (by simp) (by simp) (fun p hp => h1 p (by simp at hp ⊢; exact .inr hp)) (fun p hp => h2 p (by simp at hp ⊢; exact .inr hp)) e2]
theorem map_cps_inj : ∀ {A B : List Str}, A.map (·.cps.toList) = B.map (·.cps.toList) → A = B
  | [], [], _ => rfl
  | [], _ :: _, h => by simp at h
  | _ :: _, [], h => by simp at h
  | a :: A, b :: B, h => by
    simp only [List.map_cons, List.cons.injEq] at h
    rw [str_ext h.1, map_cps_inj h.2]
theorem split_join (c : Nat) {ws : List Str} (h0 : ws ≠ []) (h : ∀ w ∈ ws, c ∉ w.cps.toList) : Txt.split (Str.join ⟨#[c]⟩ ws) ⟨#[c]⟩ = ws := by
  have hp := split_pos (Str.join ⟨#[c]⟩ ws) ⟨#[c]⟩
  refine map_cps_inj (glue_inj (c := c) (fun z => ?_) (fun z => h0 (List.map_eq_nil_iff.mp z)) (fun p hp => ?_) (fun p hp => ?_) ?_)
  · rw [List.map_eq_nil_iff] at z
    rw [z] at hp
    simp at hp
  · obtain ⟨q, hq, rfl⟩ := List.mem_map.mp hp
    exact StrLaws.split_free _ c q hq
  · obtain ⟨q, hq, rfl⟩ := List.mem_map.mp hp
    exact h q hq
  · rw [← join_lst, ← join_lst, StrLaws.join_split]
theorem join_eq (a : Str) (ys : List Str) : Txt.join a ys = Str.join a ys := StrLaws.glued_eq_join a ys
theorem emp_lst : Str.empty.cps.toList = [] := rfl
/-- each line with its end: joined, with one empty text behind -/
theorem ends_join (c : Nat) : ∀ ws : List Str, Str.join Str.empty (ws.map fun w => w ++ ⟨#[c]⟩) = Str.join ⟨#[c]⟩ (ws ++ [Str.empty])
  | [] => rfl
  | [x] => str_ext (by
    show (x ++ ⟨#[c]⟩).cps.toList = (x ++ ⟨#[c]⟩ ++ Str.empty).cps.toList
    simp only [lst_app, emp_lst, List.append_nil])
  | x :: y :: r => str_ext (by
    have ih := congrArg (fun s : Str => s.cps.toList) (ends_join c (y :: r))
    show (x ++ ⟨#[c]⟩ ++ Str.empty ++ Str.join Str.empty ((y :: r).map fun w => w ++ ⟨#[c]⟩)).cps.toList = (x ++ ⟨#[c]⟩ ++ Str.join ⟨#[c]⟩ ((y :: r) ++ [Str.empty])).cps.toList
    simp only [lst_app, emp_lst, List.append_nil] at ih ⊢
    rw [ih])
/-! ### numbers -/
def dig (c : Nat) : Bool := decide (48 ≤ c ∧ c ≤ 57)
def digs : List Nat → Bool
  | [] => false
  | c :: r => decide (r.length ≤ 8) && decide (c ≠ 48) && (c :: r).all dig
def numOk (w : Str) : Bool := match w.cps.toList with
  | [48] => true
  | 45 :: r => digs r
  | r => digs r
theorem digs_inv {r : List Nat} (h : digs r = true) : r ≠ [] ∧ r.length ≤ 9 ∧ r.all dig = true := by
  cases r with
  | nil => cases h
  | cons c r =>
    simp only [digs, Bool.and_eq_true, decide_eq_true_eq] at h
    exact ⟨by simp, by simp; omega, h.2⟩
theorem dig_dig {c : Nat} (h : dig c = true) : 48 ≤ c ∧ c ≤ 57 := by simpa [dig] using h
open PySem.NumText in
theorem fold_digs : ∀ (r : List Nat) (p : Array Nat × Bool), r.all dig = true → ∃ q : Array Nat × Bool, r.foldlM (NumText.step 10) p = some q ∧ (r ≠ [] → q.2 = true)
  | [], p, _ => ⟨p, rfl, fun h => absurd rfl h⟩
  | c :: r, p, h => by
    simp only [List.all_cons, Bool.and_eq_true] at h
    have hc := dig_dig h.1
    have e : NumText.step 10 p c = some (p.1.push (c - 48), true) := by
      have h1 : (c == 95) = false := by simp; omega
      have h2 : digit? c = some (c - 48) := by
        unfold digit?
        rw [if_pos (by simp; omega)]
      unfold NumText.step
      rw [h1, h2]
      have h3 : c - 48 < 10 := by omega
      simp [h3]
    obtain ⟨q, hq, hq2⟩ := fold_digs r (p.1.push (c - 48), true) h.2
    refine ⟨q, ?_, fun _ => ?_⟩
    · rw [List.foldlM_cons, e]
      exact hq
    · cases r with
      | nil =>
        have : some (p.1.push (c - 48), true) = some q := hq
        cases this
        rfl
      | cons d r => exact hq2 (by simp)
open PySem.NumText in
theorem digits_ok {r : List Nat} (h0 : r ≠ []) (h : r.all dig = true) : ∃ ds, digits? 10 r = some ds := by
  obtain ⟨q, hq, hq2⟩ := fold_digs r (#[], false) h
  refine ⟨q.1, ?_⟩
  unfold digits?
  rw [hq]
  show (if q.2 = true then some q.1 else none) = _
  rw [if_pos (hq2 h0)]
theorem blank_dig {c : Nat} (h : dig c = true) : NumText.blank c = false := by
  have := dig_dig h
  simp [NumText.blank]
  omega
theorem dropW_none {p : Nat → Bool} {l : List Nat} (h : ∀ c, l.head? = some c → p c = false) : l.dropWhile p = l := by
  cases l with
  | nil => rfl
  | cons c r => rw [List.dropWhile_cons, if_neg (by rw [h c rfl]; simp)]
open PySem.NumText in
theorem int_of {l r : List Nat} {b : Bool} {w : Str} (hl : w.cps.toList = l) (hlt : ∀ c ∈ l, 0 < c ∧ c < 128) (hb : ∀ c, l.head? = some c → blank c = false) (hs : sign l = (b, r)) (h0 : r ≠ []) (hr : r.all dig = true) (h9 : r.length ≤ 4300) : ∃ n, intText? w = some n := by
  have e1 : numTextOf w = l := by
    unfold numTextOf
    have : w.cps.all (· < 128) = true := by
      rw [← Array.all_toList, hl]
      exact List.all_eq_true.mpr fun c hc => decide_eq_true (hlt c hc).2
    rw [if_pos this, hl]
  have e2 : numSeenOf w = l := by
    unfold numSeenOf
    rw [e1]
    have : ∀ l : List Nat, (∀ c ∈ l, 0 < c) → l.takeWhile (· != 0) = l := by
      intro l
      induction l with
      | nil => intro _; rfl
      | cons c r ih =>
        intro h
        rw [List.takeWhile_cons, if_pos (by have := h c (by simp); simp; omega), ih fun x hx => h x (by simp [hx])]
    exact this l fun c hc => (hlt c hc).1
  have e3 : l.dropWhile blank = l := dropW_none hb
  have e4 : core l = r := by
    unfold core
    rw [e3, hs]
    show (r.reverse.dropWhile blank).reverse = r
    rw [dropW_none fun c hc => blank_dig (List.all_eq_true.mp hr c (List.mem_reverse.mp (List.mem_of_mem_head? hc))), List.reverse_reverse]
  obtain ⟨ds, hds⟩ := digits_ok h0 hr
  have hsz := digits_size hds
  unfold intText?
  rw [e1, e2, if_pos (beq_self_eq_true _), e4, hds]
  exact ⟨_, if_pos (by omega)⟩
theorem int_ok {w : Str} (h : numOk w = true) : ∃ n, intText? w = some n := by
  unfold numOk at h
  have pos : ∀ {r : List Nat}, r.all dig = true → ∀ c ∈ r, 0 < c ∧ c < 128 := fun hr c hc => by
    have := dig_dig (List.all_eq_true.mp hr c hc)
    omega
  split at h
  · rename_i e
    exact int_of (b := false) (r := [48]) e (by simp) (by intro c hc; cases hc; decide) rfl (by simp) (by decide) (by simp)
  · rename_i r e
    obtain ⟨h0, h9, hr⟩ := digs_inv h
    refine int_of (b := true) (r := r) e (fun c hc => ?_) (by intro c hc; cases hc; decide) rfl h0 hr (by omega)
    rcases List.mem_cons.mp hc with rfl | hc
    · omega
    · exact pos hr c hc
  · rename_i h48 h45
    obtain ⟨h0, h9, hr⟩ := digs_inv h
    refine int_of (b := false) (l := w.cps.toList) (r := w.cps.toList) rfl (pos hr) (fun c hc => blank_dig (List.all_eq_true.mp hr c (List.mem_of_mem_head? hc))) ?_ h0 hr (by omega)
    unfold NumText.sign
    split
    · rename_i r e
      rw [e] at hr
      simp [dig] at hr
    · rename_i r e
      rw [e] at hr
      simp [dig] at hr
    · rfl
def numV (w : Str) : Int := (intText? w).getD 0
theorem num_v {w : Str} (h : numOk w = true) : intText? w = some (numV w) := by
  obtain ⟨n, hn⟩ := int_ok h
  unfold numV
  rw [hn]
  rfl
/-! ### a list of parts, all of which are there -/
def allSome (f : PyData → Option PyData) : List PyData → Option (List PyData)
  | [] => some []
  | d :: r => match f d, allSome f r with
    | some a, some b => some (a :: b)
    | _, _ => none
theorem allSome_snoc {f : PyData → Option PyData} {d d' : PyData} (h : f d = some d') : ∀ {ds acc : List PyData}, allSome f ds = some acc → allSome f (ds ++ [d]) = some (acc ++ [d'])
  | [], acc, e => by
    simp only [allSome] at e
    cases e
    simp [allSome, h]
  | x :: r, acc, e => by
    simp only [allSome] at e
    cases hx : f x with
    | none => rw [hx] at e; cases e
    | some a =>
      rw [hx] at e
      cases hr : allSome f r with
      | none => rw [hr] at e; cases e
      | some b =>
        rw [hr] at e
        cases e
        show (match f x, allSome f (r ++ [d]) with | some a, some b => some (a :: b) | _, _ => none) = _
        rw [hx, allSome_snoc h hr]
        rfl
theorem allSome_none {f : PyData → Option PyData} {d : PyData} (h : f d = none) : ∀ {ds : List PyData}, d ∈ ds → allSome f ds = none
  | x :: r, hm => by
    rcases List.mem_cons.mp hm with e | hm
    · subst e; simp [allSome, h]
    · have := allSome_none h hm
      simp only [allSome]
      rw [this]
      cases f x <;> rfl
theorem fit_tuple {ds : List PyData} (h1 : ds.length ≤ 100000) (h : ∀ d ∈ ds, fit d = true) : fit (.tuple ds) = true := by rw [fit, decide_eq_true h1, Bool.true_and]; exact fitAll_iff.mpr h
/-! ### small numbers as texts -/
theorem small_num : ∀ n : Nat, n < 1000 → (numOk (toString (n : Int)) = true ∧ intText? (toString (n : Int)) = some (n : Int) ∧ Str.length (toString (n : Int)) ≤ 4) ∧ (n ≠ 0 → numOk (toString (-(n : Int))) = true ∧ intText? (toString (-(n : Int))) = some (-(n : Int)) ∧ Str.length (toString (-(n : Int))) ≤ 4) := by decide +kernel
theorem small_int {i : Int} (h : -999 ≤ i ∧ i ≤ 999) : numOk (toString i) = true ∧ intText? (toString i) = some i ∧ Str.length (toString i) ≤ 4 := by
  by_cases h0 : 0 ≤ i
  · have := (small_num i.toNat (by omega)).1
    rw [show ((i.toNat : Nat) : Int) = i by omega] at this
    exact this
  · have := (small_num (-i).toNat (by omega)).2 (by omega)
    rw [show -(((-i).toNat : Nat) : Int) = i by omega] at this
    exact this
theorem small_log {i : Int} (h : -999 ≤ i ∧ i ≤ 999) : i.natAbs.log2 < 1920 := Nat.lt_of_le_of_lt (Nat.log2_le_self _) (by omega)
theorem sum_le {n : Nat} : ∀ {xs : List Nat}, (∀ x ∈ xs, x ≤ n) → xs.sum ≤ n * xs.length
  | [], _ => Nat.zero_le _
  | x :: r, h => by
    have h1 := h x (by simp)
    have h2 := sum_le (xs := r) fun y hy => h y (by simp [hy])
    simp only [List.sum_cons, List.length_cons, Nat.mul_succ]
    omega
/-- a sign of a number -/
def numCh (c : Nat) : Bool := decide (c = 45) || dig c
theorem small_chr0 : ∀ n : Nat, n < 1000 → ((toString (n : Int) : Str).cps.toList.all numCh = true ∧ (toString (n : Int) : Str).cps.toList ≠ []) ∧ ((toString (-(n : Int)) : Str).cps.toList.all numCh = true ∧ (toString (-(n : Int)) : Str).cps.toList ≠ []) := by decide +kernel
theorem small_chr {i : Int} (h : -999 ≤ i ∧ i ≤ 999) : (toString i : Str).cps.toList.all numCh = true ∧ (toString i : Str).cps.toList ≠ [] := by
  by_cases h0 : 0 ≤ i
  · have := (small_chr0 i.toNat (by omega)).1
    rw [show ((i.toNat : Nat) : Int) = i by omega] at this
    exact this
  · have := (small_chr0 (-i).toNat (by omega)).2
    rw [show -(((-i).toNat : Nat) : Int) = i by omega] at this
    exact this
theorem numCh_ne {c : Nat} (h : numCh c = true) : c ≠ 10 ∧ c ≠ 32 ∧ c < 128 ∧ c ≠ 101 := by
  unfold numCh at h
  rcases (Bool.or_eq_true _ _).mp h with h | h
  · have := of_decide_eq_true h
    omega
  · have := dig_dig h
    omega
end Y

namespace Y
open PySem PySem.Spec PyProof.Rows L2
section
variable {P : Program} {w : World} {K : PySem.W.Frag} {mg : Str → Option Value} {base : Heap} {k : Nat} {f : Addr} {fd : FuncData} {ps : List Str} {sp : Sp}
/-- what is let out with an empty context is let out -/
theorem okN (F : FnOk P w K mg base (L2N.CX P w) k f fd ps sp) : FnOk P w K mg base (L2.CX P w) k f fd ps sp := by
  refine ⟨F.len, fun A outer s H args us vs Q E hr he hb hv hs => codeAny_mono (F.run A outer s H args us vs Q E hr he hb hv hs) fun r s' h => ?_⟩
  cases r with
  | ok fl => cases fl <;> exact h
  | error e =>
    obtain ⟨a, B, H', cls, d, e1, fl, more⟩ := h
    exact ⟨a, B, H', cls, d, e1, L2H.flyingZ_imp (fun o z => z.zc) fl, more⟩
end
section
variable {X : Cx} {es : List Expr} {ta : TA}
theorem passN {E : XK} (t : L2N.Takes X fun cls d _ H => E cls d H) : Passes (L2N.CX X.prog X.w) X E := fun pins σ H s u s' I c => L2N.passes_call (W := fun cls d _ H => E cls d H) t (fun _ _ _ _ z => z) pins σ H s u s' I c
/-- C(e, ..) made where nothing is handled: its context is empty -/
theorem pmk_oexN {CX : CXT} {x : Str} {e : Expr} {p pos : Pos} {C fI : Addr} {k : Nat} {fd : FuncData} {ps : List Str} {sp : Sp} (T : OexC X.K C) (iC : PySem.W.findIn X.K (.ref C) "__init__" = some (some (.ref fI))) (tI : PySem.W.typeIn X.K (.ref fI) = some (.type "function"))
    (F1 : FnOk X.prog X.w X.K X.mg X.base CX k fI fd ps sp) (hr : Room (k + 1) X.A) (bnd : Binds X.K fd ps []) (hx : Passes CX X (fun _ _ _ => False)) (hg : Gl X x) (hm : X.mg x = some (.ref C)) (ha : PA X (e :: es) ta)
    (hdb : (x == ("__debug__" : Str)) = false := by decide) (hst : starEach (e :: es) X.env = (false, eval e X.env) :: starEach es X.env := by rfl) (hpl : (backTo pos (starEach es X.env)).any (·.1) = false := by rfl) :
    L2N.PMk X (.Call (.Name x p) (e :: es) [] pos) (tMkO C sp [] ta) := by
  intro pins s σ H Q I q0
  obtain ⟨nm, qq, N, bs, bm, sn, sub, ab, col, dd, k0, k1, k2, k3, k5, hC, hbm⟩ := T.cls
  refine wpAny_Call_Name_kw (ld_glob I hg hm ?_ hdb)
  refine PySem.W.callWith_K (h₀ := X.base) I.ok.mod.kin T.kC (thn (ha.run pos pins s σ H _ I q0) fun us s1 ⟨vs, H1, J, r1, hz, q1⟩ => ⟨J.kIn, ?_⟩) hst hpl
  show wpAny _ _ (call (.ref C) us) _ _ _
  obtain ⟨hp, g, dr, tk, os⟩ := s1
  -- the new instance stands behind the tuple of its arguments
  obtain ⟨D, hD⟩ : ∃ D, D = hp.objs.size := ⟨_, rfl⟩
  obtain ⟨hp2, hhp2⟩ : ∃ h : Heap, h = (hp.push (PySem.W.kdv_tup us)).push (PySem.HandSPX.excO C hp.objs.size) := ⟨_, rfl⟩
  have le1 : hp.objs.size ≤ D + 1 := by omega
  have fr1 : H1 (D + 1) = none := J.hok.fresh le1
  have qs := q1 (D + 1) fr1
  rw [List.append_nil] at qs
  have old : ∀ b o, hp.get? b = some o → hp2.get? b = some o := fun b o z => by rw [hhp2]; exact Heap.get?_push_of_some _ (Heap.get?_push_of_some _ z)
  have it : hp2.get? (D + 1) = some (PySem.HandSPX.excO C hp.objs.size) := by rw [hhp2, hD]; heap_get
  have J2 : Inv X pins σ (upd H1 (D + 1) (exo (D + 1) C none)) ⟨hp2, g, dr, tk, os⟩ := J.laid (t' := tk) (a := D + 1) (o := exo (D + 1) C none) (h' := hp2) old le1 (exo_ok it)
  have rv : Vals (V.ref (D + 1) :: vs) (Value.ref (D + 1) :: us) := .cons rfl r1
  have ln : (Value.ref (D + 1) :: us ++ []).length = ps.length := by
    rw [List.append_nil, ← rv.length]
    exact F1.len _ _ _ _ qs
  have lu : us.length ≤ sizeLine := by
    have := Paired.length r1
    rw [sizeLine_eq]
    omega
  have bb := bnd _ (Value.ref (D + 1) :: us) J2.kIn ln
  rw [List.append_nil] at bb
  subst hD
  subst hhp2
  refine wpAny_call (PySem.HandSPX.call_own F.excBase_ValueError (fun Y => PySem.HandSPX.refsVE_contains Y bm hbm) (J.kIn _ _ hC) (PySem.W.looks_findIn J.kIn iC) (fun self => PySem.W.bind_fn J.kIn self tI) lu
    (codeAny_mono (F1.run _ X.stack _ _ ⟨Value.ref (hp.objs.size + 1) :: us, []⟩ (Value.ref (hp.objs.size + 1) :: us) _ _ (fun _ _ _ => False) (hr.make C us []) (J2.env0.make C us []) bb rv qs) fun r s' res => ?_))
  cases r with
  | error er => exact hx pins σ _ _ er s' J2 res
  | ok fl =>
    cases fl with
    | ret u =>
      obtain ⟨v, H2, o2, bare2, un2, hok2, rr, ev, d, fs, ea, ed, hd1, q2⟩ := res
      subst ev
      obtain ⟨h2, g2, d2, t2, os'⟩ := s'
      obtain ⟨t0, G, JJ, kG, ge, hoe, na⟩ := mk_end0 (d2 := d2) (t2 := t2) J le1 old un2 hok2 o2 bare2 ea ed hd1
      refine ⟨rr, hp.objs.size + 1, _, _, ⟨G, g2, d2, t2, os'⟩, _, .ref C, some d, rfl, JJ, kG, ge, hoe, ⟨rfl, rfl, fun ws hw => ?_⟩, rfl, rfl, na, rfl, bare2, raises_own T.exC T.tyC, q2⟩
      cases hw
      rfl
    | next => exact False.elim res
    | brk => exact False.elim res
    | cont => exact False.elim res
/-- raise C(e) where nothing is handled -/
theorem ps_raiseIN {C : Addr} {f x : Str} {k : Nat} {E : XK} {e : Expr} {p pos pos' : Pos} (T : ExC X.K C f) (hm : X.mg x = some (.ref C))
    (F : FnOk X.prog X.w X.K X.mg X.base CX0 k (He.ma X.K C "__init__") (fdOf X.K (He.ma X.K C "__init__")) ["self", f] (spXi C f)) (b : Binds X.K (fdOf X.K (He.ma X.K C "__init__")) ["self", f] []) (hr : Room (k + 1) X.A) (hg : Gl X x) (hc : X.calm = true)
    (tk : L2N.Takes X fun cls d _ H => E cls d H) (ha : PA X (e :: es) ta) (hdb : (x == ("__debug__" : Str)) = false := by decide) (he : starEach (e :: es) X.env = (false, eval e X.env) :: starEach es X.env := by rfl) (hpl : (backTo pos (starEach es X.env)).any (·.1) = false := by rfl) :
    PS X (.Raise (some (.Call (.Name x p) (e :: es) [] pos)) none pos') (tRaiseI C f E ta) := by
  have h := L2N.ps_raise (pos := pos') hc tk (pmk_oexN (p := p) (pos := pos) T.oex T.iC T.tI F hr b (pass0 : Passes CX0 X E0) hg hm (pa_up ha) hdb he hpl)
  exact ⟨fun pins s σ H D I q => h.run pins s σ H D I (mk_read q)⟩
/-- raise C(e) from None in an except suite -/
theorem ps_raiseIH {C : Addr} {f x : Str} {k j : Nat} {E : XK} {e : Expr} {p pos pos' cpos : Pos} (T : ExC X.K C f) (hm : X.mg x = some (.ref C))
    (F : L2H.FnH X.prog X.w X.K X.mg X.base CX0 k (He.ma X.K C "__init__") (fdOf X.K (He.ma X.K C "__init__")) ["self", f] (spXi C f)) (b : Binds X.K (fdOf X.K (He.ma X.K C "__init__")) ["self", f] []) (hr : L2H.RoomH (k + 1) X.A) (hg : Gl X x) (hc : L2H.HotC X)
    (tk : L2.Takes X fun cls d _ H => E cls d H) (ha : PA X (e :: es) ta) (hdb : (x == ("__debug__" : Str)) = false := by decide) (he : starEach (e :: es) X.env = (false, eval e X.env) :: starEach es X.env := by rfl) (hpl : (backTo pos (starEach es X.env)).any (·.1) = false := by rfl) :
    PS X (.Raise (some (.Call (.Name x p) (e :: es) [] pos)) (some (.Constant .none j cpos)) pos') (tRaiseI C f E ta) := by
  have h := L2H.ps_raiseHN (j := j) (cpos := cpos) (pos := pos') hc tk (L2H.pmk5_oexH (p := p) (pos := pos) T.oex T.iC T.tI F hr hc b (pass0 : Passes CX0 X E0) hg hm (pa_up ha) hdb he hpl)
  exact ⟨fun pins s σ H D I q => h.run pins s σ H D I (mk_read q)⟩
end
section
variable {P : Program} {w : World} {K : PySem.W.Frag} {mg : Str → Option Value} {base : Heap} {x qual : Str} {params : Arguments} {body : List Stmt} {scope : Scope} {dvs : List V} {kws : List (Str × V)} {f : Addr} {fd : FuncData}
theorem okH {CX : CXT} {N ps : List Str} {k : Nat} {sp : Sp} (F : FunD K x qual params body scope dvs kws f fd) (S : FnScope N ps scope) (len : ∀ vs H Q E, sp vs H Q E → vs.length = ps.length)
    (hbody : ∀ (cdv : Value) (A : Around) (outer : List Env) (s : Shared) (H : Hp) (vs : List V) (Q : VK) (E : XK) (p : Addr × Obj), sp vs H Q E →
      ∃ t, PSs (L2H.cxH CX P w K mg base N qual scope f cdv A outer s H E p) body t ∧ t { nx := fun _ H' => Q .non H', rt := Q } (start N vs) H) : L2H.FnH P w K mg base CX (k + 1) f fd ps sp := by
  obtain ⟨oc, od, dV, kV, doc, pm, an, cdv, ct, osl, rfl, lk, hcd, _, _⟩ := F.ex
  exact L2H.fn_ofH lk hcd S len fun A outer s H vs Q E p _ _ hsp => hbody cdv A outer s H vs Q E p hsp
end
/-! ### texts joined and split, made -/
def rSplit : V → List V → Hp → VK → Prop := fun x xs H Q => ∃ a b : Str, x = .str a ∧ xs = [.str b] ∧ (b.length == 0) = false ∧ a.length + 2 ≤ sizeLine ∧ rNewStrs (Txt.split a b) H Q
def rRmp : V → List V → Hp → VK → Prop := fun x xs H Q => ∃ a b : Str, x = .str a ∧ xs = [.str b] ∧ a.length ≤ sizeLine ∧ Q (.str (Txt.removeprefix a b)) H
def rStrS : List V → Hp → VK → Prop := fun xs H Q => ∃ a : Str, xs = [.str a] ∧ Q (.str a) H
def rStrA : List V → Hp → VK → Prop := fun xs H Q => rStrI xs H Q ∨ rStrS xs H Q
def rIntS : List V → Hp → VK → Prop := fun xs H Q => ∃ (a : Str) (n : Int), xs = [.str a] ∧ intText? a = some n ∧ a.length ≤ 640 ∧ Q (.int n) H
def tFs (ts : List TE) : TE := fun σ H Q => tJs ts Str.empty σ H fun out H1 => Q (.str out) H1
def StarW (K : PySem.W.Frag) (t : TA) (σ : L2.St) (Q : List V → Hp → Prop) (x : V) (H1 : Hp) : Prop := ∃ p xs, x = V.ref p ∧ (SqT K H1 p xs ∨ SqL K H1 p xs) ∧ t σ H1 fun ys H2 => Q (xs ++ ys) H2
section
variable {X : Cx} {K : PySem.W.Frag} {o e : Expr} {es : List Expr} {to te : TE} {t : TA} {apos pos p : Pos}
theorem call_strS : CallR X (.type "str") rStrS := SkE.call_str_str
theorem call_strA : CallR X (.type "str") rStrA := fun pins s σ H xs us Q I r h => h.elim (fun h => call_strI pins s σ H xs us Q I r h) fun h => call_strS pins s σ H xs us Q I r h
theorem call_intS : CallR X (.type "int") rIntS := L2.call_int_str
theorem pe_splitR (ho : PE X o to) (he : PE X e te) (hs : starEach [e] X.env = [(false, eval e X.env)] := by rfl) (hbase : attributeBase o "split" X.env (eval o X.env) = eval o X.env := by rfl) (hline : (apos.endLine == pos.line) = true := by rfl) :
    PE X (.Call (.Attribute o "split" apos) [e] [] pos) (tM1 rSplit to te) := pe_split ho he hs hbase hline
theorem pe_rmpre (ho : PE X o to) (he : PE X e te) (hs : starEach [e] X.env = [(false, eval e X.env)] := by rfl) (hbase : attributeBase o "removeprefix" X.env (eval o X.env) = eval o X.env := by rfl) (hline : (apos.endLine == pos.line) = true := by rfl) :
    PE X (.Call (.Attribute o "removeprefix" apos) [e] [] pos) (tM1 rRmp to te) := pe_m1 F.slot_str_removeprefix F.type_str_removeprefix mt_removeprefix ho he hs hbase hline
theorem pe_fs {v1 v2 : Expr} {rest : List Expr} {ts : List TE} (h : PJ X (v1 :: v2 :: rest) ts) : PE X (.JoinedStr (v1 :: v2 :: rest) pos) (tFs ts) := pe_joined h
theorem pa_starK (h : X.K = K) (he : PE X e te) (hr : PA X es t) (hs : starEach (.Starred e p :: es) X.env = (true, eval e X.env) :: starEach es X.env := by rfl) : PA X (.Starred e p :: es) (StX.tStar K te t) := h ▸ StX.pa_star he hr hs
end
section
variable {K : PySem.W.Frag} {σ : L2.St} {G H : Hp} {Q : VK} {to te : TE} {t : TA} {ts : List TE} {a b acc y : Str} {QA : List V → Hp → Prop} {ds : List PyData} {x : V}
theorem g_m1 {r : V → List V → Hp → VK → Prop} (q : to σ H fun x H1 => (∃ a, x = .str a) ∧ te σ H1 fun y H2 => r x [y] H2 Q) : tM1 r to te σ H Q := q
theorem g_isS {P : Prop} (q : P) : (∃ a', V.str a = .str a') ∧ P := ⟨⟨a, rfl⟩, q⟩
theorem g_fs (q : tJs ts Str.empty σ H fun out H1 => Q (.str out) H1) : tFs ts σ H Q := q
theorem g_js {QS : Str → Hp → Prop} (q : te σ H fun x H1 => ∃ y : Str, x = .str y ∧ (acc ++ y).length ≤ sizeLine ∧ tJs ts (acc ++ y) σ H1 QS) : tJs (te :: ts) acc σ H QS := q
theorem g_js0 {QS : Str → Hp → Prop} (q : QS acc H) : tJs [] acc σ H QS := q
theorem g_jsW {QS : Str → Hp → Prop} (h : (acc ++ y).length ≤ sizeLine) (q : tJs ts (acc ++ y) σ H QS) : ∃ z : Str, V.str y = .str z ∧ (acc ++ z).length ≤ sizeLine ∧ tJs ts (acc ++ z) σ H QS := ⟨y, rfl, h, q⟩
def FmtW (Q : VK) (x : V) (H1 : Hp) : Prop := (∃ y : Str, x = .str y ∧ y.length ≤ sizeLine ∧ Q (.str y) H1) ∨ ∃ i : Int, x = .int i ∧ i.natAbs.log2 < 1920 ∧ Q (.str (toString i)) H1
theorem g_fmt (q : te σ H fun x H1 => FmtW Q x H1) : tFmt te σ H Q := q
theorem g_fmtS (h : y.length ≤ sizeLine) (q : Q (.str y) H) : FmtW Q (.str y) H := .inl ⟨y, rfl, h, q⟩
theorem g_fmtI {i : Int} (h : i.natAbs.log2 < 1920) (q : Q (.str (toString i)) H) : FmtW Q (.int i) H := .inr ⟨i, rfl, h, q⟩
theorem g_star (q : te σ H fun x H1 => StarW K t σ QA x H1) : StX.tStar K te t σ H QA := q
theorem g_starM {p : Addr} {xs : List V} (h : H p = some (.lst xs)) (q : t σ H fun ys H2 => QA (xs ++ ys) H2) : StarW K t σ QA (.ref p) H := ⟨p, xs, rfl, .inr (.of h), q⟩
theorem g_split {c : Nat} (h : a.length ≤ 100000) (e : Ex G H) (q : ∀ p G' H', Nx [] G H G' H' → Dp K G' (.ref p) (.list ((Txt.split a ⟨#[c]⟩).map .str)) → Q (.ref p) H') : rSplit (.str a) [.str ⟨#[c]⟩] H Q :=
  ⟨a, _, rfl, rfl, rfl, by rw [sizeLine_eq]; omega, fun p hp => let ⟨n, d⟩ := nx_lst e (dpAll_str _) hp; q p _ _ n d⟩
theorem g_rmp (h : a.length ≤ sizeLine) (q : Q (.str (Txt.removeprefix a b)) H) : rRmp (.str a) [.str b] H Q := ⟨a, b, rfl, rfl, h, q⟩
theorem g_intS {n : Int} (h : intText? a = some n) (hl : a.length ≤ 640) (q : Q (.int n) H) : rIntS [.str a] H Q := ⟨a, n, rfl, h, hl, q⟩
theorem g_strAI {i : Int} (h : i.natAbs.log2 < 1920) (q : Q (.str (toString i)) H) : rStrA [.int i] H Q := .inl ⟨i, rfl, h, q⟩
theorem g_strAS (q : Q (.str a) H) : rStrA [.str a] H Q := .inr ⟨a, rfl, q⟩
theorem g_joinM {p : Addr} {ys : List Str} (h : H p = some (.lst (ys.map V.str))) (hl : (ys.map (·.length)).sum + ys.length * a.length ≤ 16777216) (q : Q (.str (Str.join a ys)) H) : rJoin K (.str a) [.ref p] H Q :=
  ⟨a, p, ys, rfl, rfl, .inl (.of h), hl, by rw [join_eq]; exact q⟩
end
end Y
namespace Y
open PySem PySem.Spec PyProof.Rows L2
section
variable {K : PySem.W.Frag} {σ : L2.St} {G H : Hp} {Q : VK} {ds es : List PyData} {x v : V} {lo hi : Option Int} {R : L2.St → Hp → Prop} {d1 d2 d3 : PyData} {i j k : Nat}
/-- a part of a known list -/
theorem g_slK (e : Ex G H) (hx : Dp K G x (.list ds)) (hc : ∀ xs : List V, DpAll K G xs ds → DpAll K G (cutV xs lo hi) es) (q : ∀ p G' H', Nx [] G H G' H' → Dp K G' (.ref p) (.list es) → Q (.ref p) H') : rSlL K x lo hi H Q := by
  obtain ⟨a, xs, rfl, ha, da⟩ := dp_lst hx
  exact ⟨a, xs, rfl, e.seqL ha, fun p hp => let ⟨n, d⟩ := nx_lst e (hc xs da) hp; q p _ _ n d⟩
theorem g_unL2 (e : Ex G H) (h : Dp K G v (.list [d1, d2])) (q : ∀ v1 v2, Dp K G v1 d1 → Dp K G v2 d2 → R ((σ.set i (some v1)).set j (some v2)) H) : gLst K 2 (gCons (gName i) (gCons (gName j) gNil)) v σ H R := by
  obtain ⟨a, xs, rfl, hs, hd⟩ := dp_lst h
  cases hd with
  | cons h1 t => cases t with
    | cons h2 t => cases t; exact ⟨a, _, rfl, e.seqL hs, rfl, _, _, rfl, _, _, rfl, rfl, q _ _ h1 h2⟩
theorem g_unLM3 {p : Addr} {xs : List V} (h : H p = some (.lst xs)) (hd : DpAll K G xs [d1, d2, d3]) (q : ∀ v1 v2 v3, Dp K G v1 d1 → Dp K G v2 d2 → Dp K G v3 d3 → R (((σ.set i (some v1)).set j (some v2)).set k (some v3)) H) : gLst K 3 (gCons (gName i) (gCons (gName j) (gCons (gName k) gNil))) (.ref p) σ H R := by
  cases hd with
  | cons h1 t => cases t with
    | cons h2 t => cases t with
      | cons h3 t => cases t; exact ⟨p, _, rfl, .of h, rfl, _, _, rfl, _, _, rfl, _, _, rfl, rfl, q _ _ _ h1 h2 h3⟩
end
end Y
namespace Y
open PySem PySem.Spec PyProof.Rows L2
def vwOf (n : Str) (rs : List PyData) : PyData := .tuple [.str n, .tuple rs]
theorem g_cont {D : Ends} {σ : L2.St} {H : Hp} (q : D.ct σ H) : tCont D σ H := q
theorem g_brk {D : Ends} {σ : L2.St} {H : Hp} (q : D.bk σ H) : tBreak D σ H := q
end Y

namespace Y
open PySem PySem.Spec PyProof.Rows L2
/-! ### tables -/
section
variable {κ α : Type} [DecidableEq κ]
def gtM (m : List (κ × α)) (k : κ) : Option α := (m.find? fun p => decide (p.1 = k)).map (·.2)
def ptM (m : List (κ × α)) (k : κ) (a : α) : List (κ × α) :=
  if (m.any fun p => decide (p.1 = k)) = true then m.map (fun p => if p.1 = k then (p.1, a) else p) else m ++ [(k, a)]
theorem gtM_cons {p : κ × α} {m : List (κ × α)} {k : κ} : gtM (p :: m) k = if p.1 = k then some p.2 else gtM m k := by
  unfold gtM
  rw [List.find?_cons]
  by_cases h : p.1 = k
  · simp [h]
  · simp [h]
theorem gtM_none {m : List (κ × α)} {k : κ} : gtM m k = none ↔ k ∉ m.map (·.1) := by
  induction m with
  | nil => simp [gtM]
  | cons p m ih =>
    rw [gtM_cons]
    by_cases h : p.1 = k
    · simp [h]
    · rw [if_neg h, ih, List.map_cons, List.mem_cons]
      exact ⟨fun a b => b.elim (fun z => h z.symm) a, fun a b => a (.inr b)⟩
theorem gtM_any {m : List (κ × α)} {k : κ} : (m.any fun p => decide (p.1 = k)) = (gtM m k).isSome := by
  induction m with
  | nil => rfl
  | cons p m ih =>
    rw [gtM_cons, List.any_cons, ih]
    by_cases h : p.1 = k <;> simp [h]
theorem gtM_map {m : List (κ × α)} {k k' : κ} {a : α} : gtM (m.map fun p => if p.1 = k then (p.1, a) else p) k' = if k = k' then (if (gtM m k).isSome then some a else none) else gtM m k' := by
  induction m with
  | nil => simp [gtM]
  | cons p m ih =>
    rw [List.map_cons, gtM_cons, ih, gtM_cons, gtM_cons]
    by_cases h1 : p.1 = k
    · subst h1
      by_cases h2 : p.1 = k' <;> simp [h2]
    · simp only [h1, if_false]
      by_cases h2 : k = k'
      · subst h2
        simp [h1]
      · simp [h2]
theorem gtM_app {m m' : List (κ × α)} {k : κ} : gtM (m ++ m') k = (gtM m k).or (gtM m' k) := by
  induction m with
  | nil => simp [gtM]
  | cons p m ih =>
    rw [List.cons_append, gtM_cons, gtM_cons, ih]
    by_cases h : p.1 = k <;> simp [h]
theorem gtM_ptM {m : List (κ × α)} {k k' : κ} {a : α} : gtM (ptM m k a) k' = if k = k' then some a else gtM m k' := by
  unfold ptM
  rw [gtM_any]
  by_cases h : (gtM m k).isSome = true
  · rw [if_pos h, gtM_map, if_pos h]
  · rw [if_neg h, gtM_app, gtM_cons]
    have h' : gtM m k = none := by simpa using h
    by_cases h2 : k = k'
    · subst h2
      simp [h']
    · simp [h2, gtM]
theorem keys_map {m : List (κ × α)} {k : κ} {a : α} : (m.map fun p => if p.1 = k then (p.1, a) else p).map (·.1) = m.map (·.1) := by
  rw [List.map_map]
  refine List.map_congr_left fun p _ => ?_
  show (if p.1 = k then (p.1, a) else p).1 = p.1
  split <;> rfl
theorem keys_ptM {m : List (κ × α)} {k : κ} {a : α} : (ptM m k a).map (·.1) = if k ∈ m.map (·.1) then m.map (·.1) else m.map (·.1) ++ [k] := by
  unfold ptM
  rw [gtM_any]
  by_cases h : k ∈ m.map (·.1)
  · have : (gtM m k).isSome = true := by
      cases e : gtM m k with
      | none => exact absurd h (gtM_none.mp e)
      | some _ => rfl
    rw [if_pos this, if_pos h, keys_map]
  · rw [if_neg (by rw [gtM_none.mpr h]; simp), if_neg h, List.map_append]
    rfl
theorem len_ptM {m : List (κ × α)} {k : κ} {a : α} : (ptM m k a).length ≤ m.length + 1 := by
  unfold ptM
  split <;> simp
theorem ptM_new {m : List (κ × α)} {k : κ} {a : α} (h : k ∉ m.map (·.1)) : ptM m k a = m ++ [(k, a)] := by
  unfold ptM
  rw [gtM_any, gtM_none.mpr h]
  simp
end
section
variable {K : PySem.W.Frag} {G : Hp} {κ : Type} [DecidableEq κ]
theorem gt_rel (k : κ) : ∀ {kvs : List (κ × V)} {md : List (κ × PyData)}, kvs.map (·.1) = md.map (·.1) → DpAll K G (kvs.map (·.2)) (md.map (·.2)) →
    (∀ x, gtM md k = some x → ∃ v, valV kvs k = some v ∧ Dp K G v x) ∧ (gtM md k = none → valV kvs k = none)
  | [], [], _, _ => ⟨(fun _ h => nomatch h), fun _ => rfl⟩
  | [], _ :: _, h, _ => by simp at h
  | _ :: _, [], h, _ => by simp at h
  | (k1, v) :: kvs, (k2, x) :: md, h, hd => by
    simp only [List.map_cons, List.cons.injEq] at h
    obtain ⟨rfl, h2⟩ := h
    cases hd with
    | cons d1 d2 =>
      have ih := gt_rel k h2 d2
      rw [gtM_cons]
      by_cases hk : k1 = k
      · rw [valV_pos (p := (k1, v)) hk]
        simp only [hk, if_true]
        exact ⟨fun y hy => by cases hy; exact ⟨v, rfl, d1⟩, fun z => nomatch z⟩
      · rw [valV_neg (p := (k1, v)) hk]
        simp only [hk, if_false]
        exact ih
theorem dpAll_at {vs : List V} {ds : List PyData} (hl : vs.length = ds.length) (h : ∀ (i : Nat) v d, vs[i]? = some v → ds[i]? = some d → Dp K G v d) : DpAll K G vs ds := by
  induction vs generalizing ds with
  | nil =>
    cases ds with
    | nil => exact .nil
    | cons _ _ => simp at hl
  | cons v vs ih =>
    cases ds with
    | nil => simp at hl
    | cons d ds =>
      exact .cons (h 0 v d rfl rfl) (ih (by simpa using hl) fun i v' d' h1 h2 => h (i + 1) v' d' h1 h2)
theorem pt_map (k : κ) {v : V} {x : PyData} (dv : Dp K G v x) : ∀ {kvs : List (κ × V)} {md : List (κ × PyData)}, kvs.map (·.1) = md.map (·.1) → DpAll K G (kvs.map (·.2)) (md.map (·.2)) →
    DpAll K G ((kvs.map fun p => if p.1 = k then (p.1, v) else p).map (·.2)) ((md.map fun p => if p.1 = k then (p.1, x) else p).map (·.2))
  | [], [], _, _ => .nil
  | [], _ :: _, h, _ => by simp at h
  | _ :: _, [], h, _ => by simp at h
  | (k1, u) :: kvs, (k2, y) :: md, h, hd => by
    simp only [List.map_cons, List.cons.injEq] at h
    obtain ⟨rfl, h2⟩ := h
    cases hd with
    | cons d1 d2 =>
      have ih := pt_map k dv h2 d2
      rw [List.map_cons, List.map_cons, List.map_cons, List.map_cons]
      refine .cons ?_ ih
      by_cases hk : k1 = k
      · simp only [hk, if_true]; exact dv
      · simp only [hk, if_false]; exact d1
theorem pt_rel (k : κ) {v : V} {x : PyData} (dv : Dp K G v x) {kvs : List (κ × V)} {md : List (κ × PyData)} (h : kvs.map (·.1) = md.map (·.1)) (hd : DpAll K G (kvs.map (·.2)) (md.map (·.2))) :
    (putK kvs k v).map (·.1) = (ptM md k x).map (·.1) ∧ DpAll K G ((putK kvs k v).map (·.2)) ((ptM md k x).map (·.2)) := by
  have e : putK kvs k v = ptM kvs k v := rfl
  refine ⟨by rw [e, keys_ptM, keys_ptM, h], ?_⟩
  rw [e]
  unfold ptM
  have ea : (kvs.any fun p => decide (p.1 = k)) = (md.any fun p => decide (p.1 = k)) := by
    have q1 : ∀ {β : Type} (m : List (κ × β)), (m.any fun p => decide (p.1 = k)) = (m.map (·.1)).any fun a => decide (a = k) := fun m => by rw [List.any_map]; rfl
    rw [q1, q1, h]
  rw [ea]
  split
  · exact pt_map k dv h hd
  · rw [List.map_append, List.map_append]
    exact dpAll_snoc hd dv
end
/-- a dict of data that stands, apart from what is known -/
def DctAt (K : PySem.W.Frag) (d : Addr) (G H : Hp) (md : List (Key × PyData)) : Prop := ∃ kvs, H d = some (.dK kvs) ∧ G d = none ∧ kvs.map (·.1) = md.map (·.1) ∧ DpAll K G (kvs.map (·.2)) (md.map (·.2))
section
variable {K : PySem.W.Frag} {d A : Addr} {G H G' H' : Hp} {md : List (Key × PyData)} {M : List Addr} {o : HO} {k : Key} {x y v : V} {dx : PyData} {Q : VK} {R : Hp → Prop}
theorem DctAt.go (r : DctAt K d G H md) (n : Nx M G H G' H') (hd : d ∉ M) : DctAt K d G' H' md := by
  obtain ⟨kvs, h, g, hk, dd⟩ := r
  exact ⟨kvs, n.fr d _ hd h, n.old d g ⟨_, h, fun _ z => nomatch z⟩, hk, dpAll_mono n.gg dd⟩
theorem DctAt.upd (r : DctAt K d G H md) (h : A ≠ d) : DctAt K d G (upd H A o) md := by
  obtain ⟨kvs, h1, g, r⟩ := r
  exact ⟨kvs, by rw [upd_ne h.symm]; exact h1, g, r⟩
theorem DctAt.live (r : DctAt K d G H md) : H d ≠ none := by
  obtain ⟨kvs, h1, _⟩ := r
  rw [h1]; exact fun z => nomatch z
theorem DctAt.len (r : DctAt K d G H md) : ∃ kvs, H d = some (.dK kvs) ∧ kvs.length = md.length := by
  obtain ⟨kvs, h1, _, hk, _⟩ := r
  exact ⟨kvs, h1, by simpa using congrArg List.length hk⟩
theorem g_newD (e : Ex G H) (q : ∀ p H', Nx [] G H G H' → H p = none → DctAt K p G H' [] → Q (.ref p) H') : tDNewK σ H Q := g_new fun p hp => q p _ (Nx.own e hp) hp ⟨[], upd_same, e.free hp, rfl, .nil⟩
theorem g_dcGet (r : DctAt K d G H md) (hk : y = kV k) (hg : gtM md k = some dx) (q : ∀ v, Dp K G v dx → Q v H) : DGeW Q (.ref d) y H := by
  obtain ⟨kvs, h, g, he, dd⟩ := r
  obtain ⟨v, hv, dv⟩ := (gt_rel k he dd).1 dx hg
  exact ⟨d, v, rfl, .inl ⟨kvs, k, .inl h, hk, hv.symm⟩, q v dv⟩
theorem isSome_rel {kvs : List (Key × V)} (he : kvs.map (·.1) = md.map (·.1)) (dd : DpAll K G (kvs.map (·.2)) (md.map (·.2))) : (valV kvs k).isSome = (gtM md k).isSome := by
  have h := gt_rel k he dd
  cases e : gtM md k with
  | none => rw [h.2 e]; rfl
  | some z =>
    obtain ⟨v, hv, _⟩ := h.1 z e
    rw [hv]; rfl
theorem g_dcIn (r : DctAt K d G H md) (hk : y = kV k) (q : Q (.bl (gtM md k).isSome) H) : DInW Q y (.ref d) H := by
  obtain ⟨kvs, h, g, he, dd⟩ := r
  exact ⟨d, _, rfl, .inl ⟨kvs, k, .inl h, hk, rfl⟩, by rw [isSome_rel he dd]; exact q⟩
theorem g_dcNi (r : DctAt K d G H md) (hk : y = kV k) (q : Q (.bl (!(gtM md k).isSome)) H) : DNiW Q y (.ref d) H := by
  obtain ⟨kvs, h, g, he, dd⟩ := r
  exact ⟨d, _, rfl, .inl ⟨kvs, k, .inl h, hk, rfl⟩, by rw [isSome_rel he dd]; exact q⟩
theorem g_dcPut (e : Ex G H) (r : DctAt K d G H md) (hk : y = kV k) (dv : Dp K G v dx) (hl : md.length < 100000) (q : ∀ H', Nx [d] G H G H' → DctAt K d G H' (ptM md k dx) → R H') : DPuW R v (.ref d) y H := by
  obtain ⟨kvs, h, g, he, dd⟩ := r
  have hlen : kvs.length = md.length := by simpa using congrArg List.length he
  obtain ⟨p1, p2⟩ := pt_rel k dv he dd
  exact ⟨d, _, rfl, .inl ⟨kvs, k, h, hk, szl (by omega), rfl⟩, q _ (Nx.set e g (by simp)) ⟨_, upd_same, g, p1, p2⟩⟩
end
/-! ### while, truth, parts of lists that stand -/
section
variable {K : PySem.W.Frag} {σ : L2.St} {G H : Hp} {Q : VK} {D : Ends} {c : TT} {tb : TS} {ta : TE} {QT : Bool → Hp → Prop} {x y : V} {p b : Addr} {ds es L L' : List PyData}
theorem g_while (n : Nat) (Pv : Nat → L2.St → Hp → Prop) (h0 : Pv n σ H)
    (hs : ∀ m σ' H', Pv m σ' H' → c σ' H' fun b H1 => if b = true then ∃ N : L2.St → Hp → Prop, (∀ σ2 H2, N σ2 H2 → ∃ m', m' < m ∧ Pv m' σ2 H2) ∧ tb { D with nx := N, ct := N, bk := D.nx } σ' H1 else D.nx σ' H1) : tWhile c tb D σ H :=
  ⟨Pv, ⟨n, h0⟩, hs⟩
theorem g_whN {n : Nat} {Pv : Nat → L2.St → Hp → Prop} (q : tb { D with nx := fun σ2 H2 => ∃ m, m < n ∧ Pv m σ2 H2, ct := fun σ2 H2 => ∃ m, m < n ∧ Pv m σ2 H2, bk := D.nx } σ H) :
    ∃ N : L2.St → Hp → Prop, (∀ σ2 H2, N σ2 H2 → ∃ m', m' < n ∧ Pv m' σ2 H2) ∧ tb { D with nx := N, ct := N, bk := D.nx } σ H := ⟨_, fun _ _ z => z, q⟩
def tTru (K : PySem.W.Frag) (ta : TE) : TT := fun σ H Q => ta σ H fun x H' => ∃ k, TruV K x H' k ∧ Q k H'
theorem pt_truthK {X : Cx} {a : Expr} (h : X.K = K) (ha : PE X a ta) (he : ∀ whole, isTrue a X.env whole = (do let v ← whole; standAt a.pos; holding [v] (truthy v))) : PT X a (tTru K ta) := h ▸ pt_truth ha he
def TruW (K : PySem.W.Frag) (QT : Bool → Hp → Prop) (x : V) (H' : Hp) : Prop := ∃ k, TruV K x H' k ∧ QT k H'
theorem g_tru (q : ta σ H fun x H' => TruW K QT x H') : tTru K ta σ H QT := q
theorem g_truL {xs : List V} (h : SqL K H p xs) (q : QT (!xs.isEmpty) H) : TruW K QT (.ref p) H := ⟨_, .inl ⟨xs, h, rfl⟩, q⟩
theorem g_slM {lo hi : Option Int} (e : Ex G H) (r : LstAt K b G H L) (hc : ∀ xs : List V, DpAll K G xs L → DpAll K G (cutV xs lo hi) es) (q : ∀ p H', Nx [] G H G H' → H p = none → LstAt K p G H' es → Q (.ref p) H') : rSlL K (.ref b) lo hi H Q := by
  obtain ⟨xs, h, g, d⟩ := r
  exact ⟨b, xs, rfl, .of h, fun p hp => q p _ (Nx.own e hp) hp ⟨_, upd_same, e.free hp, hc xs d⟩⟩
theorem g_slMHi {k : Nat} {i : Int} (e : Ex G H) (r : LstAt K b G H L) (hj : i = (k : Int)) (q : ∀ p H', Nx [] G H G H' → H p = none → LstAt K p G H' (L.take k) → Q (.ref p) H') : rSlL K (.ref b) none (some i) H Q := by
  subst hj
  exact g_slM e r (fun xs d => by rw [cut_hi]; exact dpAll_take k d) q
theorem g_slMLo {k : Nat} {i : Int} (e : Ex G H) (r : LstAt K b G H L) (hj : i = (k : Int)) (q : ∀ p H', Nx [] G H G H' → H p = none → LstAt K p G H' (L.drop k) → Q (.ref p) H') : rSlL K (.ref b) (some i) none H Q := by
  subst hj
  exact g_slM e r (fun xs d => by rw [cut_lo]; exact dpAll_drop k d) q
theorem g_catM (e : Ex G H) (r1 : LstAt K p G H L) (r2 : LstAt K b G H L') (hl : L.length + L'.length ≤ 100000) (q : ∀ r H', Nx [] G H G H' → H r = none → LstAt K r G H' (L ++ L') → Q (.ref r) H') : rCat (.ref p) (.ref b) H Q := by
  obtain ⟨xs, h, g, d⟩ := r1
  obtain ⟨ys, h2, g2, d2⟩ := r2
  refine ⟨p, b, xs, ys, rfl, rfl, h, h2, by rw [dpAll_len d, dpAll_len d2]; exact szle hl, fun r hr => q r _ (Nx.own e hr) hr ⟨_, upd_same, e.free hr, dpAll_app d d2⟩⟩
theorem g_ixLs {i : Int} {k : Nat} {d : PyData} (r : LstAt K p G H L) (hi : L[k]? = some d) (hj : i = (k : Int)) (q : ∀ v, Dp K G v d → Q v H) : rIxL K (.ref p) (.int i) H Q := by
  obtain ⟨xs, h, g, da⟩ := r
  obtain ⟨v, hv, dv⟩ := dpAll_get da hi
  subst hj
  exact ⟨p, xs, _, v, rfl, rfl, .of h, atI_nat hv, q v dv⟩
theorem g_lenLs (r : LstAt K p G H L) (q : Q (.int (L.length : Int)) H) : rLen K [.ref p] H Q := by
  obtain ⟨xs, h, g, da⟩ := r
  exact ⟨p, xs, rfl, .inl (.of h), by rw [dpAll_len da]; exact q⟩
theorem g_appLs (e : Ex G H) (r : LstAt K p G H L) (dy : Dp K G y d) (hl : L.length < 100000) (q : ∀ H', Nx [p] G H G H' → LstAt K p G H' (L ++ [d]) → Q .non H') : rAppend (.ref p) [y] H Q := by
  obtain ⟨xs, h, g, da⟩ := r
  exact ⟨p, xs, y, rfl, rfl, h, by rw [dpAll_len da]; exact szl (by omega), q _ (Nx.set e g (by simp)) ⟨_, upd_same, g, dpAll_snoc da dy⟩⟩
theorem g_tyLs {P : Prop} (r : LstAt K p G H L) (q : P) : tyV K "list" (.ref p) H ∧ P := by
  obtain ⟨xs, h, g, da⟩ := r
  exact g_tyL h q
theorem g_setLs {i : Int} {k : Nat} {R : Hp → Prop} (e : Ex G H) (r : LstAt K p G H L) (dy : Dp K G y d) (hj : i = (k : Int)) (hk : k < L.length) (q : ∀ H', Nx [p] G H G H' → LstAt K p G H' (L.set k d) → R H') : rSetL (.ref p) (.int i) y H R := by
  obtain ⟨xs, h, g, da⟩ := r
  refine g_setM h hj (by rw [dpAll_len da]; exact hk) (q _ (Nx.set e g (by simp)) ⟨_, upd_same, g, ?_⟩)
  refine dpAll_at (by simp [dpAll_len da]) fun j u w hu hw => ?_
  rw [List.getElem?_set] at hu hw
  rw [dpAll_len da] at hu
  by_cases hkj : k = j
  · subst hkj
    rw [if_pos rfl, if_pos hk] at hu hw
    cases hu; cases hw
    exact dy
  · rw [if_neg hkj] at hu hw
    obtain ⟨d', hd', dd⟩ := dpAll_got da hu
    rw [hw] at hd'
    cases hd'
    exact dd
theorem g_walkLs {P : Addr → Prop} (r : LstAt K p G H L) (q : (∀ M, p ∉ M → Src K M (Itl K p) G H L) → P p) : ∃ b, V.ref p = .ref b ∧ (∃ xs, SqL K H b xs) ∧ P b := by
  obtain ⟨xs, h, g, da⟩ := r
  exact g_walkM h da q
theorem g_lstLs {xs : List V} (e : Ex G H) (h : DpAll K G xs L) (hl : L.length ≤ 100000) (q : ∀ p H', Nx [] G H G H' → H p = none → LstAt K p G H' L → Q (.ref p) H') : MkL xs H Q :=
  ⟨by rw [dpAll_len h]; exact szle hl, fun p hp => q p _ (Nx.own e hp) hp ⟨_, upd_same, e.free hp, h⟩⟩
theorem g_inSs {neg : Bool} {ss : List Str} {t : Str} (r : LstAt K p G H (ss.map .str)) (q : Q (.bl (if neg = true then !decide (t ∈ ss) else decide (t ∈ ss))) H) : rIn K neg (.str t) (.ref p) H Q := by
  obtain ⟨xs, h, g, da⟩ := r
  rw [dpAll_str_inv da] at h
  exact g_inS (.of h) q
theorem g_inSsF {ss : List Str} {t : Str} (r : LstAt K p G H (ss.map .str)) (q : Q (.bl (decide (t ∈ ss))) H) : rIn K false (.str t) (.ref p) H Q := g_inSs r q
theorem g_inSsT {ss : List Str} {t : Str} (r : LstAt K p G H (ss.map .str)) (q : Q (.bl (!decide (t ∈ ss))) H) : rIn K true (.str t) (.ref p) H Q := g_inSs r q
theorem g_eqSame {H : Hp} {x y : V} {d : PyData} {Q : VK} (h1 : Dp K H x d) (h2 : Dp K H y d) (s : SeqAt.shaped d = true) (q : Q (.bl true) H) : rEqD K x y H Q :=
  ⟨d, d, h1, h2, s, s, by rw [SeqAt.eqv_refl _ (shaped_lay s)]; exact q⟩
theorem g_eqL {a b : Addr} (e : Ex G H) (h1 : LstAt K a G H L) (h2 : LstAt K b G H L) (s : SeqAt.shaped (.list L) = true) (q : Q (.bl true) H) : rEqD K (.ref a) (.ref b) H Q :=
  g_eqSame (h1.dp e) (h2.dp e) s q
end
/-! ### a comprehension whose items are told as they are -/
theorem g_lcV {K : PySem.W.Frag} {σ : L2.St} {G H : Hp} {Q : VK} {te : TE} {tt : TT} {J : It} {M : List Addr} {ds : List PyData} {A : Addr} {j : Nat} (S : Src K M J G H ds) (e : Ex G H) (hA : H A = none) (hM : ∀ b ∈ M, H b ≠ none) (hz : ds.length < sizeLine) (Jv : Nat → List V → Hp → Hp → Prop)
    (jA : ∀ i acc G' H' o, Jv i acc G' H' → Jv i acc G' (upd H' A o)) (jN : ∀ i acc G' H' G1 H1, Nx [] G' H' G1 H1 → Jv i acc G' H' → Jv i acc G1 H1) (j0 : Jv 0 [] G H)
    (hs : ∀ i d v acc G' H', ds[i]? = some d → Dp K G' v d → Nx M G H G' H' → acc.length ≤ i → Jv i acc G' H' → ∀ (QE : VK) (QN : Hp → Prop),
      (∀ y G4 H4, Nx M G' H' G4 H4 → Jv (i + 1) (acc ++ [y]) G4 H4 → QE y H4) → (∀ G3 H3, Nx M G' H' G3 H3 → Jv (i + 1) acc G3 H3 → QN H3) →
      tt ((wipe σ [j]).set j (some v)) H' fun b H3 => if b = true then te ((wipe σ [j]).set j (some v)) H3 QE else QN H3)
    (hd : ∀ G' H' ys, Jv ds.length ys G' H' → Nx M G H G' H' → G' A = none → H' A = some (.lst ys) → ys.length ≤ ds.length → Q (.ref A) H') : LcW J (gName j) tt te [j] σ A Q H := by
  have st0 : Nx [] G H G (upd H A (.lst [])) := Nx.own e hA
  have hAM : A ∉ M := fun z => hM A z hA
  refine ⟨fun i m H' => m = ds.length - i ∧ i ≤ ds.length ∧ ∃ G' ys, Nx M G H G' H' ∧ G' A = none ∧ H' A = some (.lst ys) ∧ ys.length ≤ i ∧ Jv i ys G' H',
    ⟨ds.length, by simp, Nat.zero_le _, G, [], st0.pure, e.free hA, upd_same, Nat.le_refl _, jA _ _ _ _ _ j0⟩, ?_⟩
  rintro i m H' ⟨rfl, hi, G', ys, n, gA, hys, hl, jv⟩
  by_cases hlt : i < ds.length
  · refine .inr ⟨S.go i G' H' n hlt, fun H'' => ∃ G'' ys, Nx M G H G'' H'' ∧ G'' A = none ∧ H'' A = some (.lst ys) ∧ ys.length ≤ i + 1 ∧ Jv (i + 1) ys G'' H'',
      fun H'' ⟨G'', ys', r⟩ => ⟨ds.length - (i + 1), by omega, rfl, hlt, G'', ys', r⟩, fun v H1 y => ?_⟩
    have hg : ds[i]? = some ds[i] := by simp [hlt]
    obtain ⟨G1, n1, d1⟩ := S.yld i _ G' H' v H1 n hg y
    have n2 : Nx M G H G1 H1 := n.trans n1.pure
    have gA1 : G1 A = none := n1.old A gA ⟨_, hys, fun _ z => nomatch z⟩
    have hys1 : H1 A = some (.lst ys) := n1.fr A _ (by simp) hys
    refine ⟨wipe1, hs i _ v ys G1 H1 hg d1 n2 hl (jN _ _ _ _ _ _ n1 jv) _ _ (fun y G4 H4 n4 jv' => ?_) (fun G3 H3 n3 jv' => ?_)⟩
    · have gA4 : G4 A = none := n4.old A gA1 ⟨_, hys1, fun _ z => nomatch z⟩
      have hys4 : H4 A = some (.lst ys) := n4.fr A _ hAM hys1
      have n5 : Nx M G H G4 H4 := n2.trans n4
      have n6 : Nx [A] G4 H4 G4 (upd H4 A (.lst (ys ++ [y]))) := Nx.set n4.gh gA4 (by simp)
      have n7 : Nx (A :: M) G H G4 (upd H4 A (.lst (ys ++ [y]))) := (n5.mono fun _ z => List.mem_cons_of_mem _ z).trans (n6.mono fun b z => by simp at z; simp [z])
      exact ⟨ys, hys4, by omega, G4, ys ++ [y], n7.drop hA, gA4, upd_same, by simp; omega, jA _ _ _ _ _ jv'⟩
    · exact ⟨G3, ys, n2.trans n3, n3.old A gA1 ⟨_, hys1, fun _ z => nomatch z⟩, n3.fr A _ hAM hys1, by omega, jv'⟩
  · have e' : i = ds.length := by omega
    subst e'
    exact .inl ⟨S.stop _ G' H' n (Nat.le_refl _), hd G' H' ys jv n gA hys hl⟩
end Y
namespace Y
open PySem PySem.Spec PyProof.Rows L2
section
variable {K : PySem.W.Frag} {G H : Hp} {Q : VK} {p : Addr} {ns : List Str} {i : Int} {L : List PyData}
theorem g_ixLsN (r : LstAt K p G H (ns.map .str)) (h0 : 0 ≤ i) (h1 : i < (ns.length : Int)) (q : ∀ s, s ∈ ns → ns[i.toNat]? = some s → Q (.str s) H) : rIxL K (.ref p) (.int i) H Q := by
  have hl : i.toNat < ns.length := by omega
  refine g_ixLs (k := i.toNat) (d := .str ns[i.toNat]) r (by rw [List.getElem?_map, List.getElem?_eq_getElem hl]; rfl) (by omega) fun v dv => ?_
  cases dp_str dv
  exact q _ (List.getElem_mem hl) (by simp [hl])
theorem g_ixLsD (r : LstAt K p G H L) (h0 : 0 ≤ i) (h1 : i < (L.length : Int)) (q : ∀ v d, d ∈ L → L[i.toNat]? = some d → Dp K G v d → Q v H) : rIxL K (.ref p) (.int i) H Q := by
  have hl : i.toNat < L.length := by omega
  exact g_ixLs (k := i.toNat) (d := L[i.toNat]) r (by simp [hl]) (by omega) fun v dv => q v _ (List.getElem_mem hl) (by simp [hl]) dv
end
end Y
namespace Y
open PySem PySem.Spec PyProof.Rows L2
/-- a loop over a list that stands, its items told as they are -/
theorem g_forV {K : PySem.W.Frag} {σ : L2.St} {G H : Hp} {D : Ends} {g : TG} {tb : TS} {M : List Addr} {a : Addr} {xs : List V} (ha : H a = some (.lst xs)) (hM : a ∉ M) (e : Ex G H) (Pv : Nat → L2.St → Hp → Hp → Prop) (h0 : Pv 0 σ G H)
    (hs : ∀ i v σ' G' H', xs[i]? = some v → Nx M G H G' H' → Pv i σ' G' H' →
      g v σ' H' fun σ2 H2 => tb { D with nx := fun σ3 H3 => ∃ G3, Nx M G H G3 H3 ∧ Pv (i + 1) σ3 G3 H3, ct := fun σ3 H3 => ∃ G3, Nx M G H G3 H3 ∧ Pv (i + 1) σ3 G3 H3, bk := D.nx } σ2 H2)
    (hd : ∀ σ' G' H', Nx M G H G' H' → Pv xs.length σ' G' H' → D.nx σ' H') : ForW (Itl K a) g tb D σ H := by
  refine ⟨fun i m σ' H' => m = xs.length - i ∧ i ≤ xs.length ∧ ∃ G', Nx M G H G' H' ∧ Pv i σ' G' H', ⟨xs.length, by simp, Nat.zero_le _, G, Nx.refl e, h0⟩, ?_⟩
  rintro i m σ' H' ⟨rfl, hi, G', n, p⟩
  have hH : H' a = some (.lst xs) := n.fr a _ hM ha
  by_cases hlt : i < xs.length
  · refine .inr ⟨⟨xs, xs[i], .of hH, by simp [hlt]⟩, fun σ3 H3 => ∃ G3, Nx M G H G3 H3 ∧ Pv (i + 1) σ3 G3 H3, fun σ3 H3 ⟨G3, n3, p3⟩ => ⟨xs.length - (i + 1), by omega, rfl, hlt, G3, n3, p3⟩, fun v H1 y => ?_⟩
    obtain ⟨rfl, f⟩ := y
    exact hs i v σ' G' _ (f xs (.of hH)) n p
  · have e' : i = xs.length := by omega
    subst e'
    exact .inl ⟨⟨xs, .of hH, Nat.le_refl _⟩, hd σ' G' H' n p⟩
theorem g_walkV {H : Hp} {K : PySem.W.Frag} {P : Addr → Prop} {a : Addr} {xs : List V} (h : H a = some (.lst xs)) (q : P a) : ∃ b, V.ref a = .ref b ∧ (∃ xs, SqL K H b xs) ∧ P b := ⟨a, rfl, ⟨xs, .of h⟩, q⟩
/-- a known list of texts, just so -/
def KnL (G : Hp) (v : V) (ss : List Str) : Prop := ∃ b, v = .ref b ∧ G b = some (.lst (ss.map V.str))
theorem KnL.ex {G G' : Hp} {v : V} {ss : List Str} (h : KnL G v ss) (e : Ex G G') : KnL G' v ss := by
  obtain ⟨b, rfl, hb⟩ := h
  exact ⟨b, rfl, e _ _ hb⟩
theorem LstAt.knowL {K : PySem.W.Frag} {p : Addr} {G H G0 H0 : Hp} {M : List Addr} {ss : List Str} (r : LstAt K p G H (ss.map .str)) (n : Nx M G0 H0 G H) (h : H0 p = none) : ∃ G', Nx M G0 H0 G' H ∧ Y.Ex G G' ∧ KnL G' (.ref p) ss := by
  obtain ⟨vs, h1, g, d⟩ := r
  rw [dpAll_str_inv d] at h1
  exact ⟨_, n.know h h1 g, Ex.new g, p, rfl, upd_same⟩
theorem g_catK {K : PySem.W.Frag} {G H : Hp} {Q : VK} {p : Addr} {v : V} {ss ts : List Str} (e : Ex G H) (r1 : LstAt K p G H (ss.map .str)) (r2 : KnL G v ts) (hl : ss.length + ts.length ≤ 100000) (q : ∀ r H', Nx [] G H G H' → H r = none → LstAt K r G H' ((ss ++ ts).map .str) → Q (.ref r) H') : rCat (.ref p) v H Q := by
  obtain ⟨xs, h, g, d⟩ := r1
  obtain ⟨b, rfl, h2⟩ := r2
  rw [dpAll_str_inv d] at h
  refine ⟨p, b, _, _, rfl, rfl, h, e _ _ h2, by rw [List.length_map, List.length_map]; exact szle hl, fun r hr => q r _ (Nx.own e hr) hr ⟨_, upd_same, e.free hr, ?_⟩⟩
  rw [← List.map_append]
  exact dpAll_str _
/-- a list of one text, repeated -/
theorem g_repM {K : PySem.W.Frag} {G H : Hp} {Q : VK} {p : Addr} {L : List PyData} {i : Int} (e : Ex G H) (r : LstAt K p G H L) (h0 : 0 ≤ i) (h1 : i < 1000) (hl : L.length ≤ 100) (q : ∀ r H', Nx [] G H G H' → H r = none → LstAt K r G H' (List.replicate i.toNat L).flatten → Q (.ref r) H') : rRep (.ref p) (.int i) H Q := by
  obtain ⟨xs, h, g, d⟩ := r
  have hb : xs.length * i.toNat ≤ 100 * 1000 := Nat.mul_le_mul (by rw [dpAll_len d]; exact hl) (by omega)
  exact ⟨p, i, xs, rfl, rfl, h, by omega, by omega, Nat.le_trans hb (by rw [sizeLine_eq]; decide), fun r hr => q r _ (Nx.own e hr) hr ⟨_, upd_same, e.free hr, dpAll_rep d _⟩⟩
end Y
namespace Y
open PySem PySem.Spec PyProof.Rows L2
def rInsert : V → List V → Hp → VK → Prop := fun x vs H Q => ∃ (l : Addr) (xs : List V) (i : Int) (y : V), x = .ref l ∧ vs = [.int i, y] ∧ H l = some (.lst xs) ∧ xs.length < sizeLine ∧ 0 ≤ i ∧ i < 2 ^ 63 ∧ Q .non (upd H l (.lst (xs.take i.toNat ++ [y] ++ xs.drop i.toNat)))
theorem mt_insert {X : Cx} : MtR X "list.insert" rInsert := L2.mt_insert
section
variable {K : PySem.W.Frag} {G H : Hp} {Q : VK} {p : Addr} {L : List PyData} {y : V} {d : PyData}
theorem g_insLs {k : Nat} {i : Int} (e : Ex G H) (r : LstAt K p G H L) (dy : Dp K G y d) (hl : L.length < 100000) (hj : i = (k : Int)) (hk : k < 1000) (q : ∀ H', Nx [p] G H G H' → LstAt K p G H' (L.take k ++ [d] ++ L.drop k) → Q .non H') : rInsert (.ref p) [.int i, y] H Q := by
  obtain ⟨xs, h, g, da⟩ := r
  subst hj
  refine ⟨p, xs, _, y, rfl, rfl, h, by rw [dpAll_len da]; exact szl (by omega), by omega, by omega, q _ (Nx.set e g (by simp)) ⟨_, upd_same, g, ?_⟩⟩
  rw [show (k : Int).toNat = k by omega]
  exact dpAll_app (dpAll_app (dpAll_take k da) (.cons dy .nil)) (dpAll_drop k da)
theorem cut_m1 (xs : List V) : cutV xs none (some (-1)) = xs.take (xs.length - 1) := by
  unfold cutV
  rw [HT.sIx_none, List.drop_zero, Nat.sub_zero]
  congr 1
  show (if (-1 : Int) < 0 then ((-1 : Int) + (xs.length : Int)).toNat else min (-1 : Int).toNat xs.length) = _
  rw [if_pos (by decide)]
  omega
theorem g_repLs {i : Int} (e : Ex G H) (r : LstAt K p G H L) (h0 : 0 ≤ i) (h1 : i < 1000) (hl : L.length ≤ 100) (q : ∀ r H', Nx [] G H G H' → H r = none → LstAt K r G H' (List.replicate i.toNat L).flatten → Q (.ref r) H') : rRep (.ref p) (.int i) H Q := g_repM e r h0 h1 hl q
end
end Y

namespace Y
open PySem PySem.Spec PyProof.Rows L2
/-! ### d.update(e) -/
def rUpd : V → List V → Hp → VK → Prop := fun x xs H Q => ∃ (d o : Addr) (kvs more : List (Key × V)), x = .ref d ∧ xs = [.ref o] ∧ H d = some (.dK kvs) ∧ H o = some (.dK more) ∧ d ≠ o ∧ kvs.length + more.length ≤ sizeLine ∧ Q .non (upd H d (.dK (mergeK kvs more)))
theorem mt_update {X : Cx} : MtR X "dict.update" rUpd := by
  intro pins s σ H x xs v us Q I rx rxs h
  obtain ⟨d, o, kvs, more, rfl, rfl, hd, ho, hne, hz, q⟩ := h
  cases rx
  cases rxs with
  | cons ru rn =>
    cases rn
    cases ru
    obtain ⟨z, h0, vs, rel, dd⟩ := dk_of I.hok hd
    obtain ⟨z2, h02, vs2, rel2, dd2⟩ := dk_of I.hok ho
    refine call_meetsIn PySem.F.slot_dict_update dd.typeIs PySem.F.entry_dict_update (PySem.F.args_dict_update_2 _ _) (meets_dict_update (mixKind X.prog X.w) d o hne h02) ⟨vs, vs2, dd, dd2, by rw [← rel.length, ← rel2.length]; exact hz, fun h' dd' _ hs => ?_⟩
    have he : ∃ q, h'.get? d = some q := let ⟨q, _, _, hq, _⟩ := dd'; ⟨q, hq⟩
    exact ⟨.non, _, d_write (t' := s.toks) I (by rw [hd]; exact True.intro) hs he (dk_new (Nat.le_trans (length_mergeK more kvs) hz) h0 (KV.merge rel2 rel) dd'), rfl, q⟩
theorem keys_merge {κ : Type} [DecidableEq κ] (k : κ) : ∀ {more kvs : List (κ × V)}, k ∈ ((more.foldl (fun acc kv => putK acc kv.1 kv.2) kvs).map (·.1)) ↔ k ∈ kvs.map (·.1) ∨ k ∈ more.map (·.1)
  | [], kvs => by simp
  | p :: r, kvs => by
    rw [List.foldl_cons, keys_merge k (more := r)]
    have e : (putK kvs p.1 p.2).map (·.1) = if p.1 ∈ kvs.map (·.1) then kvs.map (·.1) else kvs.map (·.1) ++ [p.1] := keys_ptM (m := kvs)
    rw [e, List.map_cons, List.mem_cons]
    split
    · rename_i h
      constructor
      · rintro (h1 | h1)
        · exact .inl h1
        · exact .inr (.inr h1)
      · rintro (h1 | h1 | h1)
        · exact .inl h1
        · exact .inl (h1 ▸ h)
        · exact .inr h1
    · rw [List.mem_append, List.mem_singleton, or_assoc]
/-- a dict whose keys alone are told -/
def KeysAt (d : Addr) (G H : Hp) (n : Nat) (S : Key → Prop) : Prop := ∃ kvs, H d = some (.dK kvs) ∧ G d = none ∧ kvs.length ≤ n ∧ ∀ k, k ∈ kvs.map (·.1) ↔ S k
section
variable {K : PySem.W.Frag} {G H G' H' : Hp} {Q : VK} {d o : Addr} {n m : Nat} {S S' : Key → Prop} {M : List Addr} {md : List (Key × PyData)} {k : Key} {y : V}
theorem KeysAt.go (r : KeysAt d G H n S) (x : Nx M G H G' H') (hd : d ∉ M) : KeysAt d G' H' n S := by
  obtain ⟨kvs, h, g, r⟩ := r
  exact ⟨kvs, x.fr d _ hd h, x.old d g ⟨_, h, fun _ z => nomatch z⟩, r⟩
theorem KeysAt.live (r : KeysAt d G H n S) : H d ≠ none := by
  obtain ⟨kvs, h1, _⟩ := r
  rw [h1]; exact fun z => nomatch z
theorem DctAt.keys (r : DctAt K d G H md) : KeysAt d G H md.length (fun k => k ∈ md.map (·.1)) := by
  obtain ⟨kvs, h, g, hk, _⟩ := r
  exact ⟨kvs, h, g, by rw [← List.length_map (f := (·.1)), hk, List.length_map]; exact Nat.le_refl _, fun k => by rw [hk]⟩
theorem g_upd (e : Ex G H) (r : KeysAt d G H n S) (r2 : KeysAt o G H m S') (hne : d ≠ o) (hz : n + m ≤ 100000) (q : ∀ H', Nx [d] G H G H' → KeysAt d G H' (n + m) (fun k => S k ∨ S' k) → Q .non H') : rUpd (.ref d) [.ref o] H Q := by
  obtain ⟨kvs, h, g, hl, hk⟩ := r
  obtain ⟨more, h2, g2, hl2, hk2⟩ := r2
  refine ⟨d, o, kvs, more, rfl, rfl, h, h2, hne, szle (by omega), q _ (Nx.set e g (by simp)) ⟨_, upd_same, g, Nat.le_trans (length_mergeK more kvs) (by omega), fun k => ?_⟩⟩
  have e := keys_merge k (more := more) (kvs := kvs)
  rw [hk, hk2] at e
  exact e
theorem g_tyKe {P : Prop} (r : KeysAt d G H n S) (q : P) : tyV K "dict" (.ref d) H ∧ P := by
  obtain ⟨kvs, h, _⟩ := r
  exact ⟨.inr (.inr (.inl ⟨rfl, .inl ⟨kvs, h⟩⟩)), q⟩
theorem valV_keys {kvs : List (Key × V)} : (valV kvs k).isSome = true ↔ k ∈ kvs.map (·.1) := by
  have e : valV kvs k = gtM kvs k := rfl
  rw [e]
  constructor
  · intro h
    exact Classical.byContradiction fun z => by rw [gtM_none.mpr z] at h; cases h
  · intro h
    cases e : gtM kvs k with
    | none => exact absurd h (gtM_none.mp e)
    | some v => rfl
theorem g_keIn {b : Bool} (r : KeysAt d G H n S) (hk : y = kV k) (hb : b = true ↔ S k) (q : Q (.bl b) H) : DInW Q y (.ref d) H := by
  obtain ⟨kvs, h, g, hl, hs⟩ := r
  refine ⟨d, _, rfl, .inl ⟨kvs, k, .inl h, hk, rfl⟩, ?_⟩
  have : (valV kvs k).isSome = b := by rw [Bool.eq_iff_iff, valV_keys, hb]; exact hs k
  rw [this]
  exact q
theorem g_keNi {b : Bool} (r : KeysAt d G H n S) (hk : y = kV k) (hb : b = true ↔ S k) (q : Q (.bl (!b)) H) : DNiW Q y (.ref d) H := by
  obtain ⟨kvs, h, g, hl, hs⟩ := r
  refine ⟨d, _, rfl, .inl ⟨kvs, k, .inl h, hk, rfl⟩, ?_⟩
  have : (valV kvs k).isSome = b := by rw [Bool.eq_iff_iff, valV_keys, hb]; exact hs k
  rw [this]
  exact q
theorem g_keNew (e : Ex G H) (q : ∀ p H', Nx [] G H G H' → H p = none → KeysAt p G H' 0 (fun _ => False) → Q (.ref p) H') : tDNewK σ H Q := g_new fun p hp => q p _ (Nx.own e hp) hp ⟨[], upd_same, e.free hp, Nat.le_refl _, by simp⟩
end
/-! ### {k: v for ..} -/
def DcW (J : It) (g : TG) (tt : TT) (tk tv : TE) (vs : List Nat) (σ : L2.St) (D : Addr) (Q : VK) (H1 : Hp) : Prop := ∃ W : Nat → Nat → Hp → Prop, (∃ m, W 0 m (upd H1 D (.dK []))) ∧ ∀ i m H, W i m H →
  (J.stop i H ∧ Q (.ref D) H) ∨ (J.go i H ∧ ∃ Nx : Hp → Prop, (∀ H', Nx H' → ∃ m', m' < m ∧ W (i + 1) m' H') ∧ ∀ x H', J.yld i H x H' → g x (wipe σ vs) H' fun σ2 H2 => wipe σ2 vs = wipe σ vs ∧ tt σ2 H2 fun b H3 =>
    if b = true then tk σ2 H3 fun y H4 => tv σ2 H4 fun z H5 => ∃ kvs k, y = kV k ∧ H5 D = some (.dK kvs) ∧ kvs.length < sizeLine ∧ Nx (upd H5 D (.dK (putK kvs k z))) else Nx H3)
theorem g_dc {wi : TI} {g : TG} {tt : TT} {tk tv : TE} {vs : List Nat} {σ : L2.St} {H : Hp} {Q : VK} (q : wi σ H fun J H1 => ∀ D, H1 D = none → DcW J g tt tk tv vs σ D Q H1) : tDc wi g tt tk tv vs σ H Q := q
/-- .. over one name -/
theorem g_dcC {K : PySem.W.Frag} {σ : L2.St} {G H : Hp} {Q : VK} {tk tv : TE} {tt : TT} {J : It} {M : List Addr} {ds : List PyData} {A : Addr} {j : Nat} (S : Src K M J G H ds) (e : Ex G H) (hA : H A = none) (hM : ∀ b ∈ M, H b ≠ none) (hz : ds.length < 100000) (Jv : Nat → List (Key × V) → Hp → Hp → Prop)
    (jA : ∀ i kvs G' H' o, Jv i kvs G' H' → Jv i kvs G' (upd H' A o)) (jN : ∀ i kvs G' H' G1 H1, Nx [] G' H' G1 H1 → Jv i kvs G' H' → Jv i kvs G1 H1) (j0 : Jv 0 [] G H)
    (hs : ∀ i d v kvs G' H', ds[i]? = some d → Dp K G' v d → Nx M G H G' H' → H' A ≠ none → Jv i kvs G' H' → ∀ (QE : V → V → Hp → Prop) (QN : Hp → Prop),
      (∀ y z k G4 H4, y = kV k → Nx M G' H' G4 H4 → Jv (i + 1) (putK kvs k z) G4 H4 → QE y z H4) → (∀ G3 H3, Nx M G' H' G3 H3 → Jv (i + 1) kvs G3 H3 → QN H3) →
      tt ((wipe σ [j]).set j (some v)) H' fun b H3 => if b = true then tk ((wipe σ [j]).set j (some v)) H3 fun y H4 => tv ((wipe σ [j]).set j (some v)) H4 fun z H5 => QE y z H5 else QN H3)
    (hd : ∀ G' H' kvs, Jv ds.length kvs G' H' → Nx M G H G' H' → G' A = none → H' A = some (.dK kvs) → kvs.length ≤ ds.length → Q (.ref A) H') : DcW J (gName j) tt tk tv [j] σ A Q H := by
  have st0 : Nx [] G H G (upd H A (.dK [])) := Nx.own e hA
  have hAM : A ∉ M := fun z => hM A z hA
  refine ⟨fun i m H' => m = ds.length - i ∧ i ≤ ds.length ∧ ∃ G' kvs, Nx M G H G' H' ∧ G' A = none ∧ H' A = some (.dK kvs) ∧ kvs.length ≤ i ∧ Jv i kvs G' H',
    ⟨ds.length, by simp, Nat.zero_le _, G, [], st0.pure, e.free hA, upd_same, Nat.le_refl _, jA _ _ _ _ _ j0⟩, ?_⟩
  rintro i m H' ⟨rfl, hi, G', kvs, n, gA, hys, hl, jv⟩
  by_cases hlt : i < ds.length
  · refine .inr ⟨S.go i G' H' n hlt, fun H'' => ∃ G'' kvs, Nx M G H G'' H'' ∧ G'' A = none ∧ H'' A = some (.dK kvs) ∧ kvs.length ≤ i + 1 ∧ Jv (i + 1) kvs G'' H'',
      fun H'' ⟨G'', kvs', r⟩ => ⟨ds.length - (i + 1), by omega, rfl, hlt, G'', kvs', r⟩, fun v H1 y => ?_⟩
    have hg : ds[i]? = some ds[i] := by simp [hlt]
    obtain ⟨G1, n1, d1⟩ := S.yld i _ G' H' v H1 n hg y
    have n2 : Nx M G H G1 H1 := n.trans n1.pure
    have gA1 : G1 A = none := n1.old A gA ⟨_, hys, fun _ z => nomatch z⟩
    have hys1 : H1 A = some (.dK kvs) := n1.fr A _ (by simp) hys
    refine ⟨wipe1, hs i _ v kvs G1 H1 hg d1 n2 (by rw [hys1]; exact fun z => nomatch z) (jN _ _ _ _ _ _ n1 jv) (fun y z H5 => ∃ kvs k, y = kV k ∧ H5 A = some (.dK kvs) ∧ kvs.length < sizeLine ∧ _) _ (fun y z k G4 H4 ey n4 jv' => ?_) (fun G3 H3 n3 jv' => ?_)⟩
    · have gA4 : G4 A = none := n4.old A gA1 ⟨_, hys1, fun _ z => nomatch z⟩
      have hys4 : H4 A = some (.dK kvs) := n4.fr A _ hAM hys1
      have n5 : Nx M G H G4 H4 := n2.trans n4
      have n6 : Nx [A] G4 H4 G4 (upd H4 A (.dK (putK kvs k z))) := Nx.set n4.gh gA4 (by simp)
      have n7 : Nx (A :: M) G H G4 (upd H4 A (.dK (putK kvs k z))) := (n5.mono fun _ z => List.mem_cons_of_mem _ z).trans (n6.mono fun b z => by simp at z; simp [z])
      exact ⟨kvs, k, ey, hys4, szl (by omega), G4, putK kvs k z, n7.drop hA, gA4, upd_same, Nat.le_trans (len_ptM (m := kvs)) (by omega), jA _ _ _ _ _ jv'⟩
    · exact ⟨G3, kvs, n2.trans n3, n3.old A gA1 ⟨_, hys1, fun _ z => nomatch z⟩, n3.fr A _ hAM hys1, by omega, jv'⟩
  · have e' : i = ds.length := by omega
    subst e'
    exact .inl ⟨S.stop _ G' H' n (Nat.le_refl _), hd G' H' kvs jv n gA hys hl⟩
/-! ### {k: v} -/
def DiW (Q : VK) (p : Addr) (ps : List (V × V)) (H2 : Hp) : Prop := H2 p = some (.dK []) ∧ ∃ kvs : List (Key × V), ps = kvs.map (fun kv => (kV kv.1, kv.2)) ∧ kvs.length ≤ 15 ∧ Q (.ref p) (upd H2 p (.dK (mergeK [] kvs)))
section
variable {K : PySem.W.Frag} {σ : L2.St} {G H : Hp} {Q : VK} {trs : List (TE × TE)} {tk tv : TE} {p : Addr} {y : V} {R : List (V × V) → Hp → Prop} {k : Key}
theorem g_disp (q : ∀ p, H p = none → tPairs trs σ (upd H p (.dK [])) fun ps H2 => DiW Q p ps H2) : tDisp trs σ H Q := q
theorem g_pair (q : tk σ H fun x H1 => tv σ H1 fun y H2 => tPairs trs σ H2 fun ps H3 => R ((x, y) :: ps) H3) : tPairs ((tk, tv) :: trs) σ H R := q
theorem g_pair0 (q : R [] H) : tPairs [] σ H R := q
theorem g_di1 {x : V} (h : H p = some (.dK [])) (hx : x = kV k) (q : Q (.ref p) (upd H p (.dK [(k, y)]))) : DiW Q p [(x, y)] H := ⟨h, [(k, y)], by rw [hx]; rfl, by show 1 ≤ 15; decide, q⟩
end
/-! ### for k, v in d.items() -/
theorem unlock_nx {M : List Addr} {G H G' H' : Hp} {d : Addr} {u : HO} {od : Obj} (hd : H d = some u) (gd : G d = none) (hM : d ∉ M) (n : Nx M G (upd H d (.frz od u)) G' H') : H' d = some (.frz od u) ∧ G' d = none ∧ Nx M G H G' (upd H' d u) := by
  have h1 : H' d = some (.frz od u) := n.fr d _ hM upd_same
  have h2 : G' d = none := n.old d gd ⟨_, upd_same, fun _ z => nomatch z⟩
  have lv : ∀ b, H b ≠ none → (upd H d (.frz od u)) b ≠ none := fun b hb => by
    by_cases z : b = d
    · subst z; rw [upd_same]; exact fun w => nomatch w
    · rw [upd_ne z]; exact hb
  have ow : ∀ b, Own H b → Own (upd H d (.frz od u)) b := fun b ⟨o, hb, k⟩ => by
    by_cases z : b = d
    · subst z; exact ⟨_, upd_same, fun _ w => nomatch w⟩
    · exact ⟨o, by rw [upd_ne z]; exact hb, k⟩
  refine ⟨h1, h2, n.gg, n.gh.out h2, fun b g hb => n.old b g (ow b hb), fun b hb => ?_, fun b o hb ho => ?_, fun b hb => ?_⟩
  · by_cases z : b = d
    · subst z; rw [upd_same]; exact fun w => nomatch w
    · rw [upd_ne z]; exact n.live b (lv b hb)
  · by_cases z : b = d
    · subst z
      rw [hd] at ho
      cases ho
      exact upd_same
    · rw [upd_ne z]
      exact n.fr b o hb (by rw [upd_ne z]; exact ho)
  · by_cases z : b = d
    · subst z
      obtain ⟨o, e, k⟩ := hb
      rw [hd] at e
      cases e
      exact ⟨_, upd_same, k⟩
    · obtain ⟨o, e, k⟩ := n.nt b (ow b hb)
      exact ⟨o, by rw [upd_ne z]; exact e, k⟩
def kD : Key → PyData
  | .inl i => .int i
  | .inr s => .str s
theorem kD_dp {K : PySem.W.Frag} {G : Hp} (k : Key) : Dp K G (kV k) (kD k) := by
  cases k with
  | inl i => exact .int i
  | inr s => exact .str s
def LockW (t : TS) (D : Ends) (σ : L2.St) (H : Hp) : Prop := ∃ d u, H d = some u ∧ Mut (some u) ∧ ∀ od, t ⟨fun σ' H' => H' d = some (.frz od u) ∧ D.nx σ' (upd H' d u), fun v H' => H' d = some (.frz od u) ∧ D.rt v (upd H' d u), fun σ' H' => H' d = some (.frz od u) ∧ D.bk σ' (upd H' d u), fun σ' H' => H' d = some (.frz od u) ∧ D.ct σ' (upd H' d u)⟩ σ (upd H d (.frz od u))
theorem g_lock {t : TS} {D : Ends} {σ : L2.St} {H : Hp} (q : LockW t D σ H) : tLock t D σ H := q
theorem g_iItems {td : TE} {σ : L2.St} {H : Hp} {R : It → Hp → Prop} (q : td σ H fun x H1 => ∃ d o kvs, x = .ref d ∧ H1 d = some (.frz o (.dK kvs)) ∧ R (Iti d o kvs) H1) : iItems td σ H R := q
/-- the walk over the entries of a dict that stands, by the entries of its data; the dict stays -/
theorem g_forItems {K : PySem.W.Frag} {σ : L2.St} {G H : Hp} {D : Ends} {i0 : Nat} {g : TG} {tb : TS} {M : List Addr} {d : Addr} {md : List (Key × PyData)} (r : DctAt K d G H md) (e : Ex G H) (hM : d ∉ M) (hv : σ[i0]? = some (some (.ref d))) (Pv : Nat → L2.St → Hp → Hp → Prop) (h0 : ∀ (od : Obj) (u : HO), Pv 0 σ G (upd H d (.frz od u)))
    (hs : ∀ i k x v σ' G' H' H0 G1 H1, md[i]? = some (k, x) → Nx M G H0 G' H' → Pv i σ' G' H' → Nx [] G' H' G1 H1 → Dp K G1 v (.tuple [kD k, x]) → ∀ R : L2.St → Hp → Prop, (∀ σ3 G3 H3, Nx M G H0 G3 H3 → Pv (i + 1) σ3 G3 H3 → R σ3 H3) → ∀ D' : Ends, D'.nx = R → D'.ct = R →
      g v σ' H1 fun σ2 H2 => tb D' σ2 H2)
    (hd : ∀ (σ' : L2.St) (G' H' : Hp) (od : Obj) (u : HO), Nx M G H G' (upd H' d u) → G' d = none → DctAt K d G' (upd H' d u) md → Pv md.length σ' G' H' → D.nx σ' (upd H' d u)) : tLock (tFor (iItems (tVar i0)) g tb) D σ H := by
  obtain ⟨kvs, h, gd, hk, dd⟩ := id r
  have hlen : kvs.length = md.length := by simpa using congrArg List.length hk
  refine ⟨d, _, h, trivial, fun od => ?_⟩
  show ∃ v, σ[i0]? = some (some v) ∧ _
  refine ⟨_, hv, d, od, kvs, rfl, upd_same, ?_⟩
  have st : Ex G (upd H d (.frz od (.dK kvs))) := e.out gd
  refine ⟨fun i m σ' H' => m = kvs.length - i ∧ i ≤ kvs.length ∧ ∃ G', Nx M G (upd H d (.frz od (.dK kvs))) G' H' ∧ Pv i σ' G' H', ⟨kvs.length, by simp, Nat.zero_le _, G, Nx.refl st, h0 _ _⟩, ?_⟩
  rintro i m σ' H' ⟨rfl, hi, G', n, p⟩
  obtain ⟨hf, gd', nu⟩ := unlock_nx h gd hM n
  by_cases hlt : i < kvs.length
  · refine .inr ⟨⟨hf, hlt⟩, fun σ3 H3 => ∃ G3, Nx M G (upd H d (.frz od (.dK kvs))) G3 H3 ∧ Pv (i + 1) σ3 G3 H3, fun σ3 H3 ⟨G3, n3, p3⟩ => ⟨kvs.length - (i + 1), by omega, rfl, hlt, G3, n3, p3⟩, fun v H1 y => ?_⟩
    obtain ⟨T, k, w, hkw, rfl, hT, rfl⟩ := y
    have hmi : md[i]? = some md[i] := by simp [← hlen, hlt]
    obtain ⟨k2, x2⟩ : Key × PyData := md[i]
    have hk1 : (kvs.map (·.1))[i]? = some k := by rw [List.getElem?_map, hkw]; rfl
    have hmk : ∃ x, md[i]? = some (k, x) ∧ Dp K G w x := by
      have h1 : (md.map (·.1))[i]? = some k := by rw [← hk]; exact hk1
      rw [List.getElem?_map] at h1
      obtain ⟨⟨k3, x3⟩, h3, h4⟩ := Option.map_eq_some_iff.mp h1
      simp only at h4
      subst h4
      obtain ⟨x4, h5, d5⟩ := dpAll_got dd (i := i) (v := w) (by rw [List.getElem?_map, hkw]; rfl)
      rw [List.getElem?_map, h3] at h5
      cases h5
      exact ⟨x3, h3, d5⟩
    obtain ⟨x, hx, dx⟩ := hmk
    have h2 := nx_tup (K := K) n.gh (xs := [kV k, w]) (ds := [kD k, x]) (.cons (kD_dp k) (.cons (dp_mono n.gg dx) .nil)) hT
    exact hs i k x _ σ' G' H' _ _ _ hx n p h2.1 h2.2 _ (fun σ3 G3 H3 n3 p3 => ⟨G3, n3, p3⟩) _ rfl rfl
  · have e' : i = md.length := by omega
    subst e'
    refine .inl ⟨⟨hf, by omega⟩, hf, hd σ' G' H' od _ nu gd' ⟨kvs, upd_same, gd', hk, dpAll_mono n.gg dd⟩ p⟩
/-! ### enumerate(list that stands) -/
section
variable {K : PySem.W.Frag} {G H : Hp} {p : Addr} {L : List PyData}
theorem g_walkEs {P : Addr → Prop} (r : LstAt K p G H L) (q : (∀ M, p ∉ M → Src K M (Ite K p) G H (prs 0 L)) → P p) : ∃ a xs, [V.ref p] = [V.ref a] ∧ SqL K H a xs ∧ P a := by
  obtain ⟨xs, h, g, da⟩ := r
  refine ⟨p, xs, rfl, .of h, q fun M hM => ?_⟩
  refine ⟨fun i G' H' n hi => ⟨xs, xs[i]'(by rw [dpAll_len da, ← prs_len 0 L]; exact hi), .of (n.fr p _ hM h), by rw [prs_len] at hi; simp [dpAll_len da, hi]⟩, fun i G' H' n hi => ⟨xs, .of (n.fr p _ hM h), by rw [dpAll_len da, ← prs_len 0 L]; exact hi⟩, fun i d G' H' x H'' n hi y => ?_⟩
  obtain ⟨T, u, rfl, hT, rfl, f⟩ := y
  have hx := f xs (.of (n.fr p _ hM h))
  rw [prs_get] at hi
  cases q : L[i]? with
  | none => rw [q] at hi; cases hi
  | some d0 =>
    rw [q] at hi
    cases hi
    obtain ⟨v, hv, dv⟩ := dpAll_get da q
    rw [hx] at hv
    cases hv
    have h2 := nx_tup (K := K) n.gh (xs := [.int ((i : Nat) : Int), u]) (ds := [.int ((0 + i : Nat) : Int), d0]) (by rw [Nat.zero_add]; exact .cons (.int _) (.cons (dp_mono n.gg dv) .nil)) hT
    exact ⟨_, h2.1, h2.2⟩
end
/-! ### a constant tuple of ints of the module -/
end Y
namespace Y
open PySem PySem.Spec PyProof.Rows L2
theorem vals_ints : ∀ {ns : List Int} {vs : List Value}, vs.map (fun v => match v with | .int i _ => some i | _ => none) = ns.map some → Vals (ns.map V.int) vs
  | [], [], _ => .nil
  | [], _ :: _, h => by simp at h
  | _ :: _, [], h => by simp at h
  | n :: ns, v :: vs, h => by
    simp only [List.map_cons, List.cons.injEq] at h
    obtain ⟨h1, h2⟩ := h
    refine .cons ?_ (vals_ints h2)
    split at h1
    · cases h1
      exact ⟨_, rfl⟩
    · cases h1
theorem tupB_ok {K : PySem.W.Frag} {a : Addr} {ns : List Int} {G : Hp} (h : tupB K a ns = true) (hl : ns.length ≤ 100000) : Dp K G (.ref a) (.tuple (ns.map .int)) := by
  unfold tupB at h
  split at h
  · rename_i its n sl e
    have hv := vals_ints (of_decide_eq_true h)
    refine .tup (.inr ⟨_, its, n, e, rfl, rfl, ?_, hv⟩) (dpAll_ints ns)
    have := Paired.length hv
    rw [List.length_map] at this
    have hs : its.size = its.toList.length := Array.length_toList.symm
    rw [hs, ← this]
    exact szle hl
  · cases h
end Y
namespace Y
open PySem PySem.Spec PyProof.Rows L2
/-- name = {k: v for ..} on one line, the name a local -/
theorem ps_setDc {X : Cx} {i : Nat} {y : Str} {py : Pos} {kx vx tg iter : Expr} {ifs : List Expr} {scope : Scope} {own : List (Str × Nat)} {pos spos : Pos} {wi : TI} {g : TG} {tt : TT} {tk tv : TE} (hc : X.calm = true) (nd : X.N.Nodup) (hy : X.N[i]? = some y) (loc : X.env.scope.names.lookup y = some .local)
    (sw : swapsWith (.DictComp kx vx [⟨tg, iter, ifs, 0⟩] scope pos) (some (.Name y py)) spos.line X.env = pure true) (hi : PI X tg iter wi) (ok : BlkOk X.N X.env.scope scope own)
    (hg : ∀ (s : Shared) (H : Hp) (C : Addr) (cl : List (Str × Addr)) (fp : List Addr), PG (X.blk s H scope (compEnvC scope cl C X.env) fp) tg g) (ht : ∀ (s : Shared) (H : Hp) (C : Addr) (cl : List (Str × Addr)) (fp : List Addr), PTs (X.blk s H scope (compEnvC scope cl C X.env) fp) ifs tt)
    (hk : ∀ (s : Shared) (H : Hp) (C : Addr) (cl : List (Str × Addr)) (fp : List Addr), PE (X.blk s H scope (compEnvC scope cl C X.env) fp) kx tk)
    (he : ∀ (s : Shared) (H : Hp) (C : Addr) (cl : List (Str × Addr)) (fp : List Addr), PE (X.blk s H scope (compEnvC scope cl C X.env) fp) vx tv) (hs : ∀ x, foldedSetIterable iter X.env x = pure x := by intro _; rfl) :
    PS X (.Assign [.Name y py] (.DictComp kx vx [⟨tg, iter, ifs, 0⟩] scope pos) spos) (tAsg (tDc wi g tt tk tv (own.map (·.2))) (gName i)) := by
  constructor
  intro pins s σ H D I q0
  rw [exec_Assign_Name_used _ _ _ _ sw]
  refine wpAny_bind (wpAny_standAt (wpAny_bind ?_))
  show wpAny _ X.A (do let _ ← comprehension (.DictComp kx vx [⟨tg, iter, ifs, 0⟩] scope pos) scope X.env (firstIterPos [⟨tg, iter, ifs, 0⟩] pos) newDict false (eval iter X.env) (some (assign (.Name y py) X.env))) _ _ s
  have q1 : tDc wi g tt tk tv (own.map (·.2)) σ H (fun x H1 => gName i x σ H1 D.nx) := q0
  refine wpAny_bind (thn (dc_core (Qf := fun _ s' => SP X pins D .next s') hc nd I hi ok hg ht hk he hs q1 fun L C s' m H' J qq ns fr => ?_) fun _ s' z => wpAny_pure (wpAny_pure z))
  show wpAny _ _ (assign (.Name y py) X.env (.ref L)) _ _ _
  refine wpAny_assign_Name (store_ok2 (v := V.ref L) J nd hy (.inl loc) rfl (fun s2 J2 ⟨a, sb, at_⟩ => ?_) (.inr loc))
  obtain ⟨x0, x1, x2, x3, x4, x5⟩ := fr
  have away : C ≠ a := at_.elim (fun z => by rw [z]; exact x1) fun z w => x4 y a z w.symm
  exact ⟨m, ns.sameBut sb away, fun h3 sb3 => ⟨_, H', J2.turned (t' := s2.toks) (fun b o hb w => (sb3.2 b hb).trans w) x0 x1 x3 x4 x5, qq⟩⟩
theorem sw_trueD {kx vx : Expr} {gs : List Comprehension} {scope : Scope} {pos py : Pos} {y : Str} {l : Nat} {env : Env} (kf : env.scope.kind = .function) (loc : env.scope.names.lookup y = some .local) (hl : (py.line == pos.line) = true)
    (ha : (scope.names.any fun (n, k) => n == y && (k == .local || k == .cell)) = false) : swapsWith (.DictComp kx vx gs scope pos) (some (.Name y py)) l env = pure true := by
  have e1 : env.kindOf y = some .local := loc
  have e2 : env.blockKind = .function := by unfold Env.blockKind; rw [kf]; rfl
  unfold swapsWith
  simp only [e2, e1, ha, Expr.pos, hl]
  rfl
end Y
namespace Y
open PySem PySem.Spec PyProof.Rows L2
theorem g_rawGet {H : Hp} {Q : VK} {d : Addr} {kvs : List (Key × V)} {k : Key} {y v : V} (h : H d = some (.dK kvs)) (hk : y = kV k) (hv : valV kvs k = some v) (q : Q v H) : DGeW Q (.ref d) y H := ⟨d, v, rfl, .inl ⟨kvs, k, .inl h, hk, hv.symm⟩, q⟩
end Y

namespace Y
open PySem PySem.Spec PyProof.Rows L2
/-! ### min(xs, key=len) over a list of tuples: the first of the shortest -/
def rMinLen (K : PySem.W.Frag) : List V → Hp → VK → Prop := fun us H Q => ∃ (a : Addr) (vs : List V) (kf : Nat → Nat), us = [.ref a] ∧ SqL K H a vs ∧ 0 < vs.length ∧
  (∀ i x, vs[i]? = some x → ∃ t xs, x = .ref t ∧ SqT K H t xs ∧ xs.length = kf i) ∧ ∀ i x, vs[i]? = some x → (∀ j, j < vs.length → kf i ≤ kf j ∧ (j < i → kf i < kf j)) → Q x H
def tMinLen (K : PySem.W.Frag) (t : TA) : TE := fun σ H Q => t σ H fun vs H1 => rMinLen K vs H1 Q
section
variable {X : Cx} {pins : List (Addr × Obj)} {σ : List (Option V)} {H : Hp} {s : Shared} {h' : Heap} {m : Str → Option Value} {tk : Nat}
/-- all but this frame's names are kept, and these tell the same -/
theorem inv_same (I : Inv X pins σ H s) (F : Fr X.base X.env.locals s.heap m) (F' : Fr X.base X.env.locals h' m) (k : ∀ b o, b ≠ X.env.locals → s.heap.get? b = some o → h'.get? b = some o) : Inv X pins σ H { s with heap := h', toks := tk } := by
  refine I.step (g' := s.gens) (d' := s.drawn) (ch := []) (fun _ z => nomatch z) (fun b o hb _ _ e _ => k b o hb e) (fun b o hb _ _ e _ => ⟨o.slots, k b o hb e⟩) (fun _ _ _ _ n => n) (fun b o _ e => ?_) (fun _ _ e => e) (fun _ _ _ e => e) (fun _ ps e => ⟨#[], by simpa using e⟩) (fun m' hm => ?_) (fun a o e => ?_) I.bare
  · by_cases hb : b = X.env.locals
    · obtain ⟨o', _, _, ho, _⟩ := F'.ns
      exact ⟨o', hb ▸ ho⟩
    · exact ⟨o, k b o hb e⟩
  · have : m' = m := by
      obtain ⟨o, es, ep, e, d, _, f⟩ := hm
      obtain ⟨o', es', ep', e', d', _, f'⟩ := F.ns
      rw [e] at e'; cases e'
      rw [d] at d'; cases d'
      funext x
      rw [← f x, ← f' x]
    rw [this]
    exact F'.ns
  · refine (I.hok a o e).stay (fun b u c q => k b u (fun z => ?_) q) (fun _ q => q) fun _ _ q => q
    have hf := I.free
    rw [← z] at hf
    rcases c with c | c
    · rw [c, e] at hf; cases hf
    · rw [hf] at c; cases c
theorem vals_back {vs : List V} {us : List Value} {i : Nat} {v : Value} (r : Vals vs us) (h : us[i]? = some v) : ∃ x, vs[i]? = some x ∧ RelV x v := by
  have hi := (List.getElem?_eq_some_iff.mp h).1
  have hl := r.length
  have e : vs[i]? = some vs[i] := by simp [show i < vs.length by omega]
  obtain ⟨u, hu, ru⟩ := r.get e
  rw [h] at hu
  cases hu
  exact ⟨_, e, ru⟩
theorem min_len {us : List V} {ws : List Value} {Q : VK} (hc : X.calm = true) (I : Inv X pins σ H s) (r : Vals us ws) (h : rMinLen X.K us H Q) : wpAny (model X.prog X.w) X.A (call (.builtin "min") ws [(Str.ofString "key", .builtin "len")]) (EP X pins σ Q) X.xe s := by
  obtain ⟨a, vs, kf, rfl, hs, hne, ht, q⟩ := h
  obtain rfl := Vals.ref1 r
  obtain ⟨its, rv, hl, hz⟩ := I.list hs
  obtain ⟨m, F⟩ := I.fr
  have hlen : vs.length = its.length := rv.length
  have keep : ∀ {h : Heap} {more : List (Addr × Obj)}, Fr X.base X.env.locals h m → News X.base X.env.locals h (allNews X.base s.heap X.env.locals ++ more) → ∀ b o, b ≠ X.env.locals → s.heap.get? b = some o → h.get? b = some o := fun {h more} F' N' b o hb e => by
    cases qb : X.base.get? b with
    | some u =>
      have := I.bk b u qb
      rw [e] at this; cases this
      exact F'.keep b _ qb
    | none => exact (N' (b, o) (List.mem_append_left _ (mem_allNews hb qb e))).1
  have keep0 : ∀ {h : Heap}, Fr X.base X.env.locals h m → News X.base X.env.locals h (allNews X.base s.heap X.env.locals) → ∀ b o, b ≠ X.env.locals → s.heap.get? b = some o → h.get? b = some o := fun {h} F' N' => keep (more := []) F' (by rw [List.append_nil]; exact N')
  have notL : ∀ {b : Addr} {o : Obj} {es : Array Value} {n : Nat}, s.heap.get? b = some o → o.data = .seq es n → b ≠ X.env.locals := fun {b o es n} e d z => by
    obtain ⟨o', es', ep', e', d', _⟩ := F.ns
    rw [← z, e] at e'; cases e'
    rw [d] at d'; cases d'
  refine kmb_min (h₀ := X.base) (L := X.env.locals) (m := m) (news := allNews X.base s.heap X.env.locals) (vs := its) (fun i => (kf i : Int)) (I.ok.hd hc) F news_all (fun h F' N' => ?_) (by omega) (fun i v hv h tk own F' N' => ?_) fun i v h' tk' hv hb F' N' => ?_
  · obtain ⟨o, e, c, n, d⟩ := hl.isList
    exact ⟨o, keep0 F' N' _ _ (notL e d) e, c, n, d⟩
  · obtain ⟨x, hx, rx⟩ : ∃ x, vs[i]? = some x ∧ RelV x v := vals_back rv hv
    obtain ⟨t, xs, rfl, hT, hk⟩ := ht i x hx
    obtain ⟨jts, rj, ⟨o, e, c, n, d⟩, hz2⟩ := I.tuple hT
    cases rx
    have hjl : jts.length = kf i := by rw [← hk]; exact rj.length.symm
    have key : (kf i : Int) = ((jts.toArray.size : Nat) : Int) := by rw [List.size_toArray, hjl]
    rw [key]
    exact len_tuple (s := { s with heap := h, toks := tk }) (items := jts.toArray) ⟨o, keep F' N' _ _ (notL e d) e, c, n, d⟩ (by rw [List.size_toArray, hjl, ← hk]; have := hz2; rw [sizeLine_eq] at this; omega) (KskEnd.intro F' N' fun _ hp => hp)
  · obtain ⟨x, hx, rx⟩ : ∃ x, vs[i]? = some x ∧ RelV x v := vals_back rv hv
    refine ⟨x, H, inv_same I F F' (keep0 F' N'), rx, q i x hx fun j hj => ?_⟩
    have := hb j (by omega)
    exact ⟨by omega, fun z => by have := this.2 z; omega⟩
theorem pe_minLenK {K : PySem.W.Frag} {e : Expr} {p pl kp pos : Pos} {t : TA} (h : X.K = K) (hc : X.calm = true) (hg : Gl X "min") (hm : X.mg "min" = none) (hg2 : Gl X "len") (hm2 : X.mg "len" = none) (ha : PA X [e] t)
    (he : backTo pos (starEach [e] X.env) = (false, eval e X.env) :: backTo pos (starEach [] X.env) := by rfl) (hpl : (backTo pos (starEach [e] X.env)).any (·.1) = false := by rfl)
    (hall : (backToKw pos (keywordEach [⟨some (Str.ofString "key"), .Name "len" pl, kp⟩] X.env)).all (·.1.isSome) = true := by rfl) (hnone : (backToKw pos (keywordEach [⟨some (Str.ofString "key"), .Name "len" pl, kp⟩] X.env)).any (·.1.isNone) = false := by rfl) :
    PE X (.Call (.Name "min" p) [e] [⟨some (Str.ofString "key"), .Name "len" pl, kp⟩] pos) (tMinLen K t) := by
  subst h
  refine ⟨fun pins s σ H Q I h => ?_⟩
  refine wpAny_Call_Name_kw (ld_blt I hg hm (by rfl) ?_)
  refine PyProof.Rows.callWith_kw (thn (ha.run pos pins s σ H _ I h) fun us s1 ⟨vs, H1, I1, r1, q1⟩ => kws_cons (ld_blt I1 hg2 hm2 (by rfl) (kws_nil ?_))) he hpl hall hnone
  exact min_len hc I1 r1 q1
end
end Y
namespace Y
open PySem PySem.Spec PyProof.Rows L2
open RT
/-! ### comprehensions over any target, told items or items as they are -/
structure SrcP (M : List Addr) (J : It) (G H : Hp) (n : Nat) (P : Nat → Hp → V → Prop) : Prop where
  go : ∀ i G' H', Nx M G H G' H' → i < n → J.go i H'
  stop : ∀ i G' H', Nx M G H G' H' → n ≤ i → J.stop i H'
  yld : ∀ i G' H' x H'', Nx M G H G' H' → i < n → J.yld i H' x H'' → ∃ G'', Nx [] G' H' G'' H'' ∧ P i G'' x
section
variable {K : PySem.W.Frag} {σ : L2.St} {G H : Hp} {Q : VK} {te : TE} {tt : TT} {g : TG} {J : It} {M : List Addr} {ds : List PyData} {A : Addr} {n : Nat} {P : Nat → Hp → V → Prop} {js : List Nat}
theorem Src.p (S : Src K M J G H ds) : SrcP M J G H ds.length (fun i G x => ∃ d, ds[i]? = some d ∧ Dp K G x d) where
  go := S.go
  stop := S.stop
  yld := fun i G' H' x H'' nx hi y => by
    have hg : ds[i]? = some ds[i] := by simp [hi]
    obtain ⟨G'', n2, d⟩ := S.yld i _ G' H' x H'' nx hg y
    exact ⟨G'', n2, _, hg, d⟩
/-- the values of a list that stands, as they are -/
theorem src_raw {a : Addr} {vs : List V} (h : H a = some (.lst vs)) (ha : a ∉ M) : SrcP M (Itl K a) G H vs.length (fun i _ x => vs[i]? = some x) where
  go := fun i G' H' n hi => ⟨vs, vs[i], .of (n.fr a _ ha h), by simp [hi]⟩
  stop := fun i G' H' n hi => ⟨vs, .of (n.fr a _ ha h), hi⟩
  yld := fun i G' H' x H'' n hi y => by
    obtain ⟨rfl, f⟩ := y
    exact ⟨G', Nx.refl n.gh, f vs (.of (n.fr a _ ha h))⟩
theorem src_revT {a : Addr} {xs : List V} (hs : SqT K G a xs) (hd : DpAll K G xs ds) : Src K M (ItvT K a xs.length) G H ds.reverse where
  go := fun i G' H' n hi => by
    have hl := dpAll_len hd
    rw [List.length_reverse] at hi
    exact ⟨by omega, xs, xs[xs.length - 1 - i]'(by omega), n.gh.seqT (n.gg.seqT hs), by simp⟩
  stop := fun i G' H' n hi => by
    rw [List.length_reverse, ← dpAll_len hd] at hi
    exact hi
  yld := fun i d G' H' x H'' n hi y => by
    obtain ⟨rfl, f⟩ := y
    have hl := dpAll_len hd
    have hil : i < ds.length := by
      have := (List.getElem?_eq_some_iff.mp hi).1
      rwa [List.length_reverse] at this
    rw [List.getElem?_reverse hil] at hi
    have hx := f xs (n.gh.seqT (n.gg.seqT hs))
    rw [hl] at hx
    obtain ⟨v, hv, dv⟩ := dpAll_get hd hi
    rw [hx] at hv
    cases hv
    exact ⟨G', Nx.refl n.gh, dp_mono n.gg dv⟩
theorem g_lcP (S : SrcP M J G H n P) (e : Ex G H) (hA : H A = none) (hM : ∀ b ∈ M, H b ≠ none) (hz : n < sizeLine) (Jv : Nat → List V → Hp → Hp → Prop)
    (jA : ∀ i acc G' H' o, (H' A = none ∨ ∃ ys, H' A = some (.lst ys)) → Jv i acc G' H' → Jv i acc G' (upd H' A o)) (jN : ∀ i acc G' H' G1 H1, Nx [] G' H' G1 H1 → Jv i acc G' H' → Jv i acc G1 H1) (j0 : Jv 0 [] G H)
    (hs : ∀ i v acc G' H', i < n → P i G' v → Nx M G H G' H' → acc.length ≤ i → Jv i acc G' H' → ∀ (QE : VK) (QN : Hp → Prop),
      (∀ y G4 H4, Nx M G' H' G4 H4 → Jv (i + 1) (acc ++ [y]) G4 H4 → QE y H4) → (∀ G3 H3, Nx M G' H' G3 H3 → Jv (i + 1) acc G3 H3 → QN H3) →
      g v (wipe σ js) H' fun σ2 H2 => wipe σ2 js = wipe σ js ∧ tt σ2 H2 fun b H3 => if b = true then te σ2 H3 QE else QN H3)
    (hd : ∀ G' H' ys, Jv n ys G' H' → Nx M G H G' H' → G' A = none → H' A = some (.lst ys) → ys.length ≤ n → Q (.ref A) H') : LcW J g tt te js σ A Q H := by
  have st0 : Nx [] G H G (upd H A (.lst [])) := Nx.own e hA
  have hAM : A ∉ M := fun z => hM A z hA
  refine ⟨fun i m H' => m = n - i ∧ i ≤ n ∧ ∃ G' ys, Nx M G H G' H' ∧ G' A = none ∧ H' A = some (.lst ys) ∧ ys.length ≤ i ∧ Jv i ys G' H',
    ⟨n, by simp, Nat.zero_le _, G, [], st0.pure, e.free hA, upd_same, Nat.le_refl _, jA _ _ _ _ _ (.inl hA) j0⟩, ?_⟩
  rintro i m H' ⟨rfl, hi, G', ys, nx, gA, hys, hl, jv⟩
  by_cases hlt : i < n
  · refine .inr ⟨S.go i G' H' nx hlt, fun H'' => ∃ G'' ys, Nx M G H G'' H'' ∧ G'' A = none ∧ H'' A = some (.lst ys) ∧ ys.length ≤ i + 1 ∧ Jv (i + 1) ys G'' H'',
      fun H'' ⟨G'', ys', r⟩ => ⟨n - (i + 1), by omega, rfl, hlt, G'', ys', r⟩, fun v H1 y => ?_⟩
    obtain ⟨G1, n1, d1⟩ := S.yld i G' H' v H1 nx hlt y
    have n2 : Nx M G H G1 H1 := nx.trans n1.pure
    have gA1 : G1 A = none := n1.old A gA ⟨_, hys, fun _ z => nomatch z⟩
    have hys1 : H1 A = some (.lst ys) := n1.fr A _ (by simp) hys
    refine hs i v ys G1 H1 hlt d1 n2 hl (jN _ _ _ _ _ _ n1 jv) _ _ (fun y G4 H4 n4 jv' => ?_) (fun G3 H3 n3 jv' => ?_)
    · have gA4 : G4 A = none := n4.old A gA1 ⟨_, hys1, fun _ z => nomatch z⟩
      have hys4 : H4 A = some (.lst ys) := n4.fr A _ hAM hys1
      have n5 : Nx M G H G4 H4 := n2.trans n4
      have n6 : Nx [A] G4 H4 G4 (upd H4 A (.lst (ys ++ [y]))) := Nx.set n4.gh gA4 (by simp)
      have n7 : Nx (A :: M) G H G4 (upd H4 A (.lst (ys ++ [y]))) := (n5.mono fun _ z => List.mem_cons_of_mem _ z).trans (n6.mono fun b z => by simp at z; simp [z])
      exact ⟨ys, hys4, by omega, G4, ys ++ [y], n7.drop hA, gA4, upd_same, by simp; omega, jA _ _ _ _ _ (.inr ⟨_, hys4⟩) jv'⟩
    · exact ⟨G3, ys, n2.trans n3, n3.old A gA1 ⟨_, hys1, fun _ z => nomatch z⟩, n3.fr A _ hAM hys1, by omega, jv'⟩
  · have e' : i = n := by omega
    subst e'
    exact .inl ⟨S.stop _ G' H' nx (Nat.le_refl _), hd G' H' ys jv nx gA hys hl⟩
/-- told items, any target -/
theorem g_lcPS {es : Nat → List PyData} (S : Src K M J G H ds) (e : Ex G H) (hA : H A = none) (hM : ∀ b ∈ M, H b ≠ none) (hz : ds.length < sizeLine) (e0 : es 0 = [])
    (hs : ∀ i d v acc G' H', ds[i]? = some d → Dp K G' v d → Nx M G H G' H' → DpAll K G' acc (es i) → ∀ (QE : VK) (QN : Hp → Prop),
      (∀ y G4 H4 d', Nx M G' H' G4 H4 → Dp K G4 y d' → es (i + 1) = es i ++ [d'] → QE y H4) → (∀ G3 H3, Nx M G' H' G3 H3 → es (i + 1) = es i → QN H3) →
      g v (wipe σ js) H' fun σ2 H2 => wipe σ2 js = wipe σ js ∧ tt σ2 H2 fun b H3 => if b = true then te σ2 H3 QE else QN H3)
    (hd : ∀ G' H', Nx M G H G' H' → LstAt K A G' H' (es ds.length) → Q (.ref A) H') : LcW J g tt te js σ A Q H := by
  refine g_lcP S.p e hA hM hz (fun i acc G' _ => DpAll K G' acc (es i)) (fun _ _ _ _ _ _ h => h) (fun _ _ _ _ _ _ n h => dpAll_mono n.gg h) (by rw [e0]; exact .nil) (fun i v acc G' H' hi hp n _ hj QE QN k1 k2 => ?_) fun G' H' ys hj n g h _ => hd G' H' n ⟨ys, h, g, hj⟩
  obtain ⟨d, hg, dv⟩ := hp
  exact hs i d v acc G' H' hg dv n hj QE QN (fun y G4 H4 d' n4 dy ee => k1 y G4 H4 n4 (by rw [ee]; exact dpAll_snoc (dpAll_mono n4.gg hj) dy)) fun G3 H3 n3 ee => k2 G3 H3 n3 (by rw [ee]; exact dpAll_mono n3.gg hj)
theorem wipe2 {i j : Nat} {a b : V} : wipe (((wipe σ [i, j]).set i (some a)).set j (some b)) [i, j] = wipe σ [i, j] := by
  show (((((σ.set j none).set i none).set i (some a)).set j (some b)).set j none).set i none = (σ.set j none).set i none
  rw [List.set_set, List.set_set]
  by_cases h : i = j
  · subst h; rw [List.set_set, List.set_set, List.set_set]
  · rw [List.set_comm _ _ (Ne.symm h), List.set_set, List.set_comm _ _ h, List.set_set]
end
theorem pi_revAK {X : Cx} {K : PySem.W.Frag} {tg e : Expr} {te : TE} {p pos : Pos} (h : X.K = K) (hg : Gl X "reversed") (hm : X.mg "reversed" = none) (he : PE X e te) (hs : starEach [e] X.env = (false, eval e X.env) :: starEach [] X.env := by rfl) : PI X tg (.Call (.Name "reversed" p) [e] [] pos) (iRevA K te) := h ▸ pi_revA hg hm he hs
theorem g_revT {K : PySem.W.Frag} {G H : Hp} {x : V} {ds : List PyData} {RL RT : Addr → List V → Prop} (e : Ex G H) (h : Dp K G x (.tuple ds)) (q : ∀ a xs, (∀ M, Src K M (ItvT K a xs.length) G H ds.reverse) → RT a xs) : ∃ (a : Addr) (xs : List V), x = .ref a ∧ ((SqL K H a xs ∧ RL a xs) ∨ (SqT K H a xs ∧ RT a xs)) := by
  obtain ⟨a, xs, rfl, hs, hd⟩ := dp_tup h
  exact ⟨a, xs, rfl, .inr ⟨e.seqT hs, q a xs fun M => src_revT hs hd⟩⟩
end Y
namespace Y
open PySem PySem.Spec PyProof.Rows L2 RT
theorem g_iRevA {K : PySem.W.Frag} {σ : L2.St} {H : Hp} {te : TE} {R : It → Hp → Prop} (q : te σ H fun v H1 => ∃ (a : Addr) (xs : List V), v = .ref a ∧ ((SqL K H1 a xs ∧ R (Itv K a xs.length) H1) ∨ (SqT K H1 a xs ∧ R (ItvT K a xs.length) H1))) : iRevA K te σ H R := q
theorem g_minLen {K : PySem.W.Frag} {σ : L2.St} {H : Hp} {t : TA} {Q : VK} (q : t σ H fun vs H1 => rMinLen K vs H1 Q) : tMinLen K t σ H Q := q
end Y
namespace Y
open PySem PySem.Spec PyProof.Rows L2
section
variable {K : PySem.W.Frag} {G H : Hp} {Q : VK} {p b : Addr} {L L' ds : List PyData} {vs xs : List V} {v : V} {i : Nat}
theorem dpAll_back (h : DpAll K G vs ds) (hi : vs[i]? = some v) : ∃ d, ds[i]? = some d ∧ Dp K G v d := by
  have hl := dpAll_len h
  have hi1 := (List.getElem?_eq_some_iff.mp hi).1
  have e : ds[i]? = some (ds[i]'(by omega)) := by simp [show i < ds.length by omega]
  obtain ⟨u, hu, du⟩ := dpAll_get h e
  rw [hi] at hu
  cases hu
  exact ⟨_, e, du⟩
theorem g_extLs (e : Ex G H) (r : LstAt K p G H L) (r2 : LstAt K b G H L') (hl : L.length + L'.length ≤ 100000) (q : ∀ H', Nx [p] G H G H' → LstAt K p G H' (L ++ L') → Q .non H') : rExtend (.ref p) [.ref b] H Q := by
  obtain ⟨xs, h, g, da⟩ := r
  obtain ⟨ys, h2, g2, db⟩ := r2
  exact g_ext h h2 (by rw [dpAll_len da, dpAll_len db]; exact szle hl) (q _ (Nx.set e g (by simp)) ⟨_, upd_same, g, dpAll_app da db⟩)
/-- a tuple of values as they are -/
theorem g_tupRaw (e : Ex G H) (hl : xs.length ≤ sizeLine) (q : ∀ p G' H', Nx [] G H G' H' → H p = none → SqT K G' p xs → Q (.ref p) H') : MkT xs H Q :=
  ⟨hl, fun p hp => q p (upd G p (.tup xs)) _ ((Nx.own e hp).know hp upd_same (e.free hp)) hp (.of upd_same)⟩
/-- the first of the shortest, told: its place -/
theorem g_minLs (h : H p = some (.lst vs)) (e : Ex G H) (d : DpAll K G vs ds) (ns : List (List PyData)) (hd : ds = ns.map .tuple) (hne : 0 < ds.length)
    (q : ∀ (i : Nat) (x : V) (w : List PyData), vs[i]? = some x → ns[i]? = some w → Dp K G x (.tuple w) → (∀ (j : Nat) (u : List PyData), ns[j]? = some u → w.length ≤ u.length ∧ (j < i → w.length < u.length)) → Q x H) : rMinLen K [.ref p] H Q := by
  subst hd
  have hl := dpAll_len d
  have key : ∀ i x, vs[i]? = some x → ∃ w, ns[i]? = some w ∧ Dp K G x (.tuple w) := fun i x hx => by
    obtain ⟨d', hd', dx⟩ := dpAll_back d hx
    rw [List.getElem?_map] at hd'
    obtain ⟨w, hw, rfl⟩ := Option.map_eq_some_iff.mp hd'
    exact ⟨w, hw, dx⟩
  refine ⟨p, vs, fun i => ((ns[i]?).getD []).length, rfl, .of h, by omega, fun i x hx => ?_, fun i x hx hb => ?_⟩
  · obtain ⟨w, hw, dx⟩ := key i x hx
    obtain ⟨t, xs, rfl, hs, da⟩ := dp_tup dx
    exact ⟨t, xs, rfl, e.seqT hs, by show xs.length = ((ns[i]?).getD []).length; rw [hw, dpAll_len da]; rfl⟩
  · obtain ⟨w, hw, dx⟩ := key i x hx
    refine q i x w hx hw dx fun j u hu => ?_
    have hj : j < vs.length := by
      have := (List.getElem?_eq_some_iff.mp hu).1
      rw [List.length_map] at hl
      omega
    have := hb j hj
    simp only [hw, hu, Option.getD_some] at this
    exact this
end
end Y
namespace Y
open PySem PySem.Spec PyProof.Rows L2
section
variable {K : PySem.W.Frag} {G H : Hp} {σ : L2.St} {R : L2.St → Hp → Prop} {t : Addr} {v1 v2 : V} {i j : Nat} {Q : VK}
theorem g_un2R (e : Ex G H) (h : SqT K G t [v1, v2]) (q : R ((σ.set i (some v1)).set j (some v2)) H) : gTup K 2 (gCons (gName i) (gCons (gName j) gNil)) (.ref t) σ H R :=
  ⟨t, _, rfl, e.seqT h, rfl, _, _, rfl, _, _, rfl, rfl, q⟩
end
def mergeM {κ α : Type} [DecidableEq κ] (md more : List (κ × α)) : List (κ × α) := more.foldl (fun acc kv => ptM acc kv.1 kv.2) md
section
variable {K : PySem.W.Frag} {G H : Hp} {Q : VK} {d o : Addr} {md more : List (Key × PyData)}
theorem merge_rel : ∀ {more : List (Key × PyData)} {ks : List (Key × V)} {kvs : List (Key × V)} {md : List (Key × PyData)}, kvs.map (·.1) = md.map (·.1) → DpAll K G (kvs.map (·.2)) (md.map (·.2)) → ks.map (·.1) = more.map (·.1) → DpAll K G (ks.map (·.2)) (more.map (·.2)) →
    (mergeK kvs ks).map (·.1) = (mergeM md more).map (·.1) ∧ DpAll K G ((mergeK kvs ks).map (·.2)) ((mergeM md more).map (·.2))
  | [], [], _, _, h1, h2, _, _ => ⟨h1, h2⟩
  | (k, x) :: more, (k', v) :: ks, kvs, md, h1, h2, h3, h4 => by
    simp only [List.map_cons, List.cons.injEq] at h3
    obtain ⟨rfl, h3⟩ := h3
    cases h4 with
    | cons a t =>
      obtain ⟨p1, p2⟩ := pt_rel (v := v) (x := x) k' a h1 h2
      exact merge_rel (kvs := putK kvs k' v) (md := ptM md k' x) p1 p2 h3 t
theorem mergeM_len : ∀ {more md : List (Key × PyData)}, (mergeM md more).length ≤ md.length + more.length
  | [], _ => by simp [mergeM]
  | p :: more, md => by
    have := mergeM_len (more := more) (md := ptM md p.1 p.2)
    have h2 := len_ptM (m := md) (k := p.1) (a := p.2)
    show (mergeM (ptM md p.1 p.2) more).length ≤ _
    rw [List.length_cons]
    omega
theorem gtM_merge {k : Key} : ∀ {more md : List (Key × PyData)}, gtM (mergeM md more) k = (gtM more.reverse k).or (gtM md k)
  | [], md => by simp [mergeM, gtM]
  | p :: more, md => by
    show gtM (mergeM (ptM md p.1 p.2) more) k = _
    rw [gtM_merge, gtM_ptM, List.reverse_cons, gtM_app, gtM_cons]
    by_cases h : p.1 = k
    · rw [if_pos h, if_pos h]
      cases gtM more.reverse k <;> rfl
    · rw [if_neg h, if_neg h]
      cases gtM more.reverse k <;> rfl
theorem g_updD (e : Ex G H) (r : DctAt K d G H md) (r2 : DctAt K o G H more) (hne : d ≠ o) (hl : md.length + more.length ≤ 100000) (q : ∀ H', Nx [d] G H G H' → DctAt K d G H' (mergeM md more) → Q .non H') : rUpd (.ref d) [.ref o] H Q := by
  obtain ⟨kvs, h, g, hk, dd⟩ := r
  obtain ⟨ks, h2, g2, hk2, dd2⟩ := r2
  have l1 : kvs.length = md.length := by simpa using congrArg List.length hk
  have l2 : ks.length = more.length := by simpa using congrArg List.length hk2
  obtain ⟨m1, m2⟩ := merge_rel hk dd hk2 dd2
  exact ⟨d, o, kvs, ks, rfl, rfl, h, h2, hne, by rw [l1, l2]; exact szle hl, q _ (Nx.set e g (by simp)) ⟨_, upd_same, g, m1, m2⟩⟩
end
end Y
namespace Y
open PySem PySem.Spec PyProof.Rows L2
theorem g_inSd {K : PySem.W.Frag} {G H : Hp} {Q : VK} {v : V} {ss : List Str} {t : Str} (e : Ex G H) (h : Dp K G v (.list (ss.map .str))) (q : Q (.bl (decide (t ∈ ss))) H) : rIn K false (.str t) v H Q := by
  obtain ⟨a, xs, rfl, hs, da⟩ := dp_lst h
  rw [dpAll_str_inv da] at hs
  exact g_inS (neg := false) (e.seqL hs) q
end Y

/-! ### == and != of things that are equal: scalars, tuples, lists, dicts with plain keys and with tuples as keys, nested -/
namespace YQ
open PySem PySem.SeqAt
section
variable {prog : Program} {w : World} {A : Around} {s : Shared}
/-- all pairs of two rows are equal -/
def AllEq (prog : Program) (w : World) (A : Around) (s : Shared) (us ws : Array Value) : Prop := ∀ j (h1 : j < us.size) (h2 : j < ws.size), EqP prog w A.in1 s us[j] ws[j] true
theorem ne_loop {p q : Addr} {us ws : Array Value} {m n : Nat} {d1 d2 : Option Addr} {s1 s2 : Array (Option Value)} (hsz : us.size = ws.size) :
    ∀ (k i : Nat), us.size = i + k → MeetsIn prog w (Builtin.«list.__eq__.loop» ⟨[.ref p, .ref q, rawInt i, rawInt 3], []⟩)
      (fun A R s => (s.heap.get? p = some { cls := .type "list", dict := d1, data := .seq us m, slots := s1 } ∧ s.heap.get? q = some { cls := .type "list", dict := d2, data := .seq ws n, slots := s2 }) ∧ AllEq prog w A s us ws ∧ R (.ok (.ret (.bool false))) s)
  | 0, i, hi => by
    rintro A R ⟨hp, g, d, tk, os⟩ ⟨⟨hl, hb⟩, _, z⟩
    wp_walk using AutoSeq1.wpAny_loadPart' hl, AutoSeq1.wpAny_loadPart' hb
    have a1 : us[((i : Nat) : Int).toNat]? = none := by simp; omega
    have a2 : ws[((i : Nat) : Int).toNat]? = none := by simp; omega
    rw [a1, a2]
    wp_walk using AutoSeq1.wpAny_loadPart' hl, AutoSeq1.wpAny_loadPart' hb
    have e : (us.size != ws.size) = false := by rw [hsz]; simp
    show R (.ok (.ret (.bool (us.size != ws.size)))) _
    rw [e]
    exact z
  | k + 1, i, hi => by
    rintro A R ⟨hp, g, d, tk, os⟩ ⟨⟨hl, hb⟩, he, z⟩
    wp_walk using AutoSeq1.wpAny_loadPart' hl, AutoSeq1.wpAny_loadPart' hb
    have l1 : i < us.size := by omega
    have l2 : i < ws.size := hsz ▸ l1
    have a1 : us[((i : Nat) : Int).toNat]? = some us[i] := by simp [l1]
    have a2 : ws[((i : Nat) : Int).toNat]? = some ws[i] := by simp [l2]
    rw [a1, a2]
    refine wpAny_bind (he i l1 l2 _ _ ?_)
    wp_walk
    have nx : (i : Int) + 1 = ((i + 1 : Nat) : Int) := rfl
    rw [nx]
    refine ⟨plainId_quiet MeetsSeq3.plain_eq_loop _, codeAny_builtin MeetsSeq3.entry_eq_loop ?_⟩
    rw [Around.under_plainId MeetsSeq3.plain_eq_loop _]
    exact ne_loop hsz k (i + 1) (by omega) A R _ ⟨⟨hl, hb⟩, he, z⟩
theorem list_ne {p q : Addr} {us ws : Array Value} {m n : Nat} {d1 d2 : Option Addr} {s1 s2 : Array (Option Value)} (hsz : us.size = ws.size) : MeetsIn prog w (Builtin.«list.__ne__» ⟨[.ref p, .ref q], []⟩)
      (fun A R s => (s.heap.get? p = some { cls := .type "list", dict := d1, data := .seq us m, slots := s1 } ∧ s.heap.get? q = some { cls := .type "list", dict := d2, data := .seq ws n, slots := s2 }) ∧ AllEq prog w A s us ws ∧ R (.ok (.ret (.bool false))) s) := by
  rintro A R ⟨hp, g, d, tk, os⟩ ⟨⟨hl, hb⟩, he, z⟩
  have sub := AutoSeq1.sub_list_list
  have same : ¬ (us.size != ws.size) = true := by rw [hsz]; simp
  wp_walk using AutoSeq1.wpAny_loadPart' hl, AutoSeq1.wpAny_loadPart' hb
  refine ⟨plainId_quiet MeetsSeq3.plain_eq_loop _, codeAny_builtin MeetsSeq3.entry_eq_loop ?_⟩
  rw [Around.under_plainId MeetsSeq3.plain_eq_loop _]
  exact ne_loop hsz us.size 0 (by omega) A R _ ⟨⟨hl, hb⟩, he, z⟩
theorem tup_ne {p q : Addr} {us ws : Array Value} {m n : Nat} {d1 d2 : Option Addr} {s1 s2 : Array (Option Value)} (hsz : us.size = ws.size) : MeetsIn prog w (Builtin.«tuple.__ne__» ⟨[.ref p, .ref q], []⟩)
      (fun A R s => (s.heap.get? p = some { cls := .type "tuple", dict := d1, data := .seq us m, slots := s1 } ∧ s.heap.get? q = some { cls := .type "tuple", dict := d2, data := .seq ws n, slots := s2 }) ∧ AllEq prog w A s us ws ∧ R (.ok (.ret (.bool false))) s) := by
  rintro A R ⟨hp, g, d, tk, os⟩ ⟨⟨hl, hb⟩, he, z⟩
  have sub := AutoSeq1.sub_tuple_tuple
  have zl : (us.toList.zip ws.toList).length = us.size := by simp [hsz]
  wp_walk using AutoSeq1.wpAny_loadPart' hl, AutoSeq1.wpAny_loadPart' hb, wpAny_forIn_list _ (fun todo b s' => b.1 = none ∧ s' = (⟨hp, g, d, tk, os⟩ : Shared) ∧ ∃ i, todo = (us.toList.zip ws.toList).drop i ∧ i ≤ us.size) _
  case turn =>
    rintro ⟨y, x⟩ todo b s' ⟨b1, rfl, i, hz, hi⟩
    have il : i < (us.toList.zip ws.toList).length := Classical.byContradiction fun z => by
      rw [List.drop_of_length_le (by omega)] at hz
      cases hz
    have l1 : i < us.size := zl ▸ il
    have l2 : i < ws.size := hsz ▸ l1
    rw [List.drop_eq_getElem_cons il] at hz
    injection hz with e1 e2
    have ey : y = us[i] := by simpa using congrArg Prod.fst e1
    have ex : x = ws[i] := by simpa using congrArg Prod.snd e1
    subst ey ex
    refine wpAny_bind (he i l1 l2 _ _ ?_)
    wp_walk
    exact ⟨rfl, rfl, i + 1, e2, l1⟩
  case fin =>
    rintro ⟨b1, b2⟩ s' ⟨hb1, rfl, i, hz, hi⟩
    simp only at hb1
    subst hb1
    wp_walk
    have e : (us.size != ws.size) = false := by rw [hsz]; simp
    show R (.ok (.ret (.bool (us.size != ws.size)))) _
    rw [e]
    exact z
  case h => exact ⟨rfl, rfl, 0, rfl, Nat.zero_le _⟩
/-- two rows, equal -/
theorem rcNe_list {p q : Addr} {us ws : Array Value} (hl : s.heap.IsList p us) (hb : s.heap.IsList q ws) (hsz : us.size = ws.size) (hu : A.units < cLine) (he : AllEq prog w A s us ws) (E Q : Value → Shared → Prop) (z : Q (.bool false) s) :
    wpAny (model prog w) A (richCompare .NotEq (.ref p) (.ref q)) Q E s := by
  obtain ⟨⟨c1, d1, a1, s1⟩, ho, h1, n, h2⟩ := hl
  obtain ⟨⟨c2, d2, a2, s2⟩, ho2, h3, n2, h4⟩ := hb
  simp only at h1 h2 h3 h4
  subst h1 h2 h3 h4
  exact wpAny_richCompare_same_room (op := .NotEq) ⟨_, ho, rfl⟩ ⟨_, ho2, rfl⟩ F.slot_list_ne (call_meetsIn F.slot_list_ne ⟨_, ho, rfl⟩ F.entry_list_ne (F.args_list_ne_2 _ _) (list_ne hsz) ⟨⟨ho, ho2⟩, he, (fun x => nomatch x), z⟩) hu
theorem rcNe_tup {p q : Addr} {us ws : Array Value} (hl : s.heap.IsTuple p us) (hb : s.heap.IsTuple q ws) (hsz : us.size = ws.size) (hu : A.units < cLine) (he : AllEq prog w A s us ws) (E Q : Value → Shared → Prop) (z : Q (.bool false) s) :
    wpAny (model prog w) A (richCompare .NotEq (.ref p) (.ref q)) Q E s := by
  obtain ⟨⟨c1, d1, a1, s1⟩, ho, h1, n, h2⟩ := hl
  obtain ⟨⟨c2, d2, a2, s2⟩, ho2, h3, n2, h4⟩ := hb
  simp only at h1 h2 h3 h4
  subst h1 h2 h3 h4
  exact wpAny_richCompare_same_room (op := .NotEq) ⟨_, ho, rfl⟩ ⟨_, ho2, rfl⟩ F.slot_tuple_ne (call_meetsIn F.slot_tuple_ne ⟨_, ho, rfl⟩ F.entry_tuple_ne (F.args_tuple_ne_2 _ _) (tup_ne hsz) ⟨⟨ho, ho2⟩, he, (fun x => nomatch x), z⟩) hu
theorem rcEq_tup {p q : Addr} {us ws : Array Value} (hl : s.heap.IsTuple p us) (hb : s.heap.IsTuple q ws) (hsz : us.size = ws.size) (hu : A.units < cLine) (he : AllEq prog w A s us ws) (E Q : Value → Shared → Prop) (z : Q (.bool true) s) :
    wpAny (model prog w) A (richCompare .Eq (.ref p) (.ref q)) Q E s :=
  GQ.rc_tupG hsz hu (fun _ s' => s' = s) hl hb (fun i h1 h2 s' e => by subst e; exact he i h1 h2 _ _ ⟨rfl, rfl⟩) (fun s' e => by subst e; exact z) rfl
theorem rcEq_list {p q : Addr} {us ws : Array Value} (hl : s.heap.IsList p us) (hb : s.heap.IsList q ws) (hsz : us.size = ws.size) (hu : A.units < cLine) (he : AllEq prog w A s us ws) (E Q : Value → Shared → Prop) (z : Q (.bool true) s) :
    wpAny (model prog w) A (richCompare .Eq (.ref p) (.ref q)) Q E s :=
  rcP_lists (e := fun _ => true) hl hb hsz hu he E Q (by rw [show ((List.range us.size).all fun _ => true) = true from List.all_eq_true.mpr fun _ _ => rfl]; exact z)
/-- dicts, by the walk over their pairs -/
theorem rcNe_dict_of {a b : Addr} (ta : s.TypeIs (.ref a) "dict") (tb : s.TypeIs (.ref b) "dict") (hu : A.units < cLine) (same : ∀ (nm : String) (E : Value → Shared → Prop) (Q : Bool → Shared → Prop), Q true s → wpAny (model prog w) A.in1 (Builtin.Dict.samePairs nm a b) Q E s) (E Q : Value → Shared → Prop) (z : Q (.bool false) s) :
    wpAny (model prog w) A (richCompare .NotEq (.ref a) (.ref b)) Q E s := by
  refine wpAny_richCompare_same_room (op := .NotEq) ta tb F.slot_dict_ne (wpAny_call_entry F.slot_dict_ne ta F.entry_dict_ne ?_ (F.args_dict_ne_2 _ _)) hu
  show wpAny _ _ (Builtin.Dict.dictSlotArgs "__ne__" ⟨[.ref a, .ref b], []⟩ >>= _) _ _ s
  refine wpAny_bind ?_
  unfold Builtin.Dict.dictSlotArgs
  refine wpAny_bind (wpAny_notOrdered_dict ta ?_)
  show wpAny _ _ (pure (Value.ref a, Value.ref b)) _ _ s
  refine wpAny_pure (wpAny_bind (wpAny_isInstance (T := "dict") tb F.sub_dict_dict ?_))
  simp only [Bool.not_true, Bool.false_eq_true, if_false]
  exact wpAny_bind (wpAny_pure (wpAny_bind (wpAny_pure (wpAny_bind (same _ _ _ (wpAny_pure ⟨_, rfl, (fun x => nomatch x), z⟩))))))
theorem rcEq_dict_of {a b : Addr} (ta : s.TypeIs (.ref a) "dict") (tb : s.TypeIs (.ref b) "dict") (hu : A.units < cLine) (same : ∀ (nm : String) (E : Value → Shared → Prop) (Q : Bool → Shared → Prop), Q true s → wpAny (model prog w) A.in1 (Builtin.Dict.samePairs nm a b) Q E s) (E Q : Value → Shared → Prop) (z : Q (.bool true) s) :
    wpAny (model prog w) A (richCompare .Eq (.ref a) (.ref b)) Q E s := by
  refine wpAny_richCompare_same_room (op := .Eq) ta tb F.slot_dict_eq (wpAny_call_entry F.slot_dict_eq ta F.entry_dict_eq ?_ (F.args_dict_eq_2 _ _)) hu
  show wpAny _ _ (Builtin.Dict.dictSlotArgs "__eq__" ⟨[.ref a, .ref b], []⟩ >>= _) _ _ s
  refine wpAny_bind ?_
  unfold Builtin.Dict.dictSlotArgs
  refine wpAny_bind (wpAny_notOrdered_dict ta ?_)
  show wpAny _ _ (pure (Value.ref a, Value.ref b)) _ _ s
  refine wpAny_pure (wpAny_bind (wpAny_isInstance (T := "dict") tb F.sub_dict_dict ?_))
  simp only [Bool.not_true, Bool.false_eq_true, if_false]
  exact wpAny_bind (wpAny_pure (wpAny_bind (wpAny_pure (wpAny_bind (same _ _ _ (wpAny_pure ⟨_, rfl, (fun x => nomatch x), z⟩))))))
/-- two dicts whose keys stand on the heap: every pair of the first has an equal one in the second -/
theorem samePairsH {K : Type} [DecidableEq K] {knd : HeapKind prog w K} {nm : String} {a b : Addr} {ka kb : List (K × Addr × Value)} {Q : Bool → Shared → Prop} {E : Value → Shared → Prop} (ha : (a == sysModules) = false) (hb : (b == sysModules) = false)
    (da : s.heap.DictOfH knd a ka) (db : s.heap.DictOfH knd b kb) (hr : knd.room A) (hl : ka.length = kb.length) (hit : ∀ x ∈ ka, ∃ (j : Nat) (p : Addr × Value), kb[j]? = some (x.1, p) ∧ EqP prog w A s x.2.2 p.2 true) (z : Q true s) :
    wpAny (model prog w) A (Builtin.Dict.samePairs nm a b) Q E s := by
  obtain ⟨oa, ea, na, hoa, _, hda, hka, hisa, _⟩ := da
  obtain ⟨ob, eb, nb, hob, _, hdb, hkb, hisb, hnb⟩ := db
  have la := size_of_entries hka
  have lb := size_of_entries hkb
  unfold Builtin.Dict.samePairs Builtin.Dict.showsAll
  rw [if_neg (by rw [ha]; exact Bool.false_ne_true), if_neg (by rw [hb]; exact Bool.false_ne_true)]
  refine wpAny_bind (wpAny_pure (wpAny_bind (wpAny_pure (wpAny_bind (wpAny_dictEntries hoa hda ?_)))))
  dsimp only
  refine wpAny_bind (wpAny_dictEntries hob hdb ?_)
  rw [if_neg (by rw [la, lb, hl]; simp)]
  refine wpAny_bind (wpAny_dictEpoch hoa hda (wpAny_bind ?_))
  rw [Std.Legacy.Range.forIn_eq_forIn_range']
  simp only [Std.Legacy.Range.size, Nat.sub_zero, Nat.add_sub_cancel, Nat.div_one]
  refine wpAny_forIn_list _ (fun todo st s' => s' = s ∧ st = (none, ()) ∧ ∃ i, i ≤ ea.size ∧ todo = List.range' i (ea.size - i)) _ ?_ ?_ _ _ ⟨rfl, rfl, 0, Nat.zero_le _, by simp⟩
  · rintro x todo st s' ⟨rfl, rfl, i, hi, hx⟩
    have il : i < ea.size := Classical.byContradiction fun q => by
      rw [Nat.sub_eq_zero_of_le (by omega)] at hx
      cases hx
    rw [show ea.size - i = (ea.size - (i + 1)) + 1 by omega, List.range'_succ] at hx
    injection hx with e1 e2
    subst e1
    have xl : x < ka.length := la ▸ il
    have hex : ea[x]? = some (entryOfKey knd ka[x]) := by rw [entry_at hka, List.getElem?_eq_getElem xl]; rfl
    obtain ⟨j0, p0, hj0, heq⟩ := hit ka[x] (List.getElem_mem xl)
    refine wpAny_bind (wpAny_dictEntries hoa hda ?_)
    rw [hex]
    refine wpAny_bind (wpAny_holding (wpAny_bind (wpAny_dictFind_heap hr (hisa _ (List.getElem_mem xl)) hob hdb hkb hisb hnb (fun no => (no j0 p0 hj0).elim) fun j p hj => ?_)))
    have epp : p = p0 := by
      have m1 := List.getElem?_eq_some_iff.mp hj
      have m2 := List.getElem?_eq_some_iff.mp hj0
      obtain ⟨l1, q1⟩ := m1
      obtain ⟨l2, q2⟩ := m2
      have : j = j0 := (List.getElem_inj (i := j) (j := j0) (h₀ := by rw [List.length_map]; exact l1) (h₁ := by rw [List.length_map]; exact l2) hnb).mp (by rw [List.getElem_map, List.getElem_map, q1, q2])
      subst this
      rw [q1] at q2
      exact congrArg Prod.snd q2
    subst epp
    refine wpAny_bind (wpAny_dictEntries hob hdb ?_)
    have hey : eb[j]? = some (entryOfKey knd (ka[x].1, p)) := by rw [entry_at hkb, hj]; rfl
    rw [hey]
    refine wpAny_holding (heq _ _ ?_)
    show wpAny _ _ (if (!true) = true then _ else _) _ _ _
    rw [if_neg (by decide)]
    refine wpAny_bind (wpAny_dictEpoch hoa hda ?_)
    rw [if_neg (by simp)]
    exact wpAny_pure ⟨rfl, rfl, x + 1, il, e2⟩
  · rintro st s' ⟨rfl, rfl, i, hi, hx⟩
    exact wpAny_pure z
end
end YQ
namespace Y
open PySem PySem.Spec PyProof.Rows L2
/-! ### the same over the abstract heap -/
/-- rows of equal things; dicts with equal things at the same keys -/
def EqR2 (K : PySem.W.Frag) (H : Hp) (F : V → V → Prop) (x y : V) : Prop :=
  (∃ a b xs ys, x = .ref a ∧ y = .ref b ∧ SqL K H a xs ∧ SqL K H b ys ∧ Paired F xs ys) ∨ (∃ a b xs ys, x = .ref a ∧ y = .ref b ∧ SqT K H a xs ∧ SqT K H b ys ∧ Paired F xs ys) ∨
    (∃ a b ks ls, x = .ref a ∧ y = .ref b ∧ H a = some (.dK ks) ∧ H b = some (.dK ls) ∧ ks.length = ls.length ∧ ∀ p ∈ ks, ∃ u, valV ls p.1 = some u ∧ F p.2 u) ∨
    ∃ a b ks ls, x = .ref a ∧ y = .ref b ∧ H a = some (.dT ks) ∧ H b = some (.dT ls) ∧ ks.length = ls.length ∧ ∀ p ∈ ks, ∃ u, valV ls p.1 = some u ∧ F p.2 u
/-- equal, nested below n -/
def EqW (K : PySem.W.Frag) (H : Hp) : Nat → V → V → Prop
  | 0 => fun _ _ => False
  | n + 1 => fun x y => (x = y ∧ flatB x = true) ∨ (∃ a, x = .ref a ∧ y = .ref a) ∨ EqR2 K H (EqW K H n) x y
section
variable {X : Cx} {pins : List (Addr × Obj)} {σ : L2.St} {H : Hp} {s : Shared} {A : Around}
theorem allEq_of {F : V → V → Prop} (ih : ∀ x y v u, F x y → RelV x v → RelV y u → SeqAt.EqP X.prog X.w A.in1 s v u true) {xs ys : List V} {us ws : List Value} (hp : Paired F xs ys) (r1 : Vals xs us) (r2 : Vals ys ws) : us.toArray.size = ws.toArray.size ∧ YQ.AllEq X.prog X.w A s us.toArray ws.toArray := by
  refine ⟨by rw [List.size_toArray, List.size_toArray, ← r1.length, ← r2.length]; exact Paired.length hp, fun j h1 h2 => ?_⟩
  have := items_run ih hp r1 r2 j (by simpa using h1) (by simpa using h2)
  simpa using this
theorem same_dK (I : Inv X pins σ H s) {F : V → V → Prop} {a b : Addr} {ks ls : List (Key × V)} (ih : ∀ x y v u, F x y → RelV x v → RelV y u → SeqAt.EqP X.prog X.w A s v u true) (ha : H a = some (.dK ks)) (hb : H b = some (.dK ls)) (hl : ks.length = ls.length) (hp : ∀ p ∈ ks, ∃ u, valV ls p.1 = some u ∧ F p.2 u) :
    (s.TypeIs (.ref a) "dict" ∧ s.TypeIs (.ref b) "dict") ∧ ∀ (nm : String) (E : Value → Shared → Prop) (Q : Bool → Shared → Prop), Q true s → wpAny (model X.prog X.w) A (Builtin.Dict.samePairs nm a b) Q E s := by
  obtain ⟨_, ya, va, ra, da⟩ := dk_of I.hok ha
  obtain ⟨_, yb, vb, rb, db⟩ := dk_of I.hok hb
  refine ⟨⟨da.typeIs, db.typeIs⟩, fun nm E Q q => PySem.W.samePairsP (r := true) ya yb da db (fun _ => hits_run ih rb ra hp) ?_⟩
  have e : va.length = vb.length := by rw [← ra.length, ← rb.length]; exact hl
  rw [e]
  simpa using q
theorem paired_get {α β : Type} {R : α → β → Prop} : ∀ {xs : List α} {ys : List β}, Paired R xs ys → ∀ {i : Nat} (h1 : i < xs.length) (h2 : i < ys.length), R xs[i] ys[i]
  | _, _, .cons h t, 0, _, _ => h
  | _, _, .cons h t, i + 1, h1, h2 => paired_get t (Nat.lt_of_succ_lt_succ h1) (Nat.lt_of_succ_lt_succ h2)
theorem atKey_some {κ α : Type} [DecidableEq κ] {xs : List (κ × α)} {k : κ} {p : α} (h : (xs.find? fun x => decide (x.1 = k)).map (·.2) = some p) : ∃ j : Nat, xs[j]? = some (k, p) := by
  obtain ⟨x, hx, rfl⟩ := Option.map_eq_some_iff.mp h
  obtain ⟨j, hj, e⟩ := List.getElem_of_mem (List.mem_of_find?_eq_some hx)
  have h1 := List.find?_some hx
  rw [decide_eq_true_eq] at h1
  exact ⟨j, by rw [List.getElem?_eq_getElem hj, e, ← h1]⟩
theorem same_dT (I : Inv X pins σ H s) {F : V → V → Prop} {a b : Addr} {ks ls : List (List Key × V)} (hr : (tupleKind (mixKind X.prog X.w)).room A) (ih : ∀ x y v u, F x y → RelV x v → RelV y u → SeqAt.EqP X.prog X.w A s v u true) (ha : H a = some (.dT ks)) (hb : H b = some (.dT ls)) (hl : ks.length = ls.length) (hp : ∀ p ∈ ks, ∃ u, valV ls p.1 = some u ∧ F p.2 u) :
    (s.TypeIs (.ref a) "dict" ∧ s.TypeIs (.ref b) "dict") ∧ ∀ (nm : String) (E : Value → Shared → Prop) (Q : Bool → Shared → Prop), Q true s → wpAny (model X.prog X.w) A (Builtin.Dict.samePairs nm a b) Q E s := by
  obtain ⟨_, ya, va, ra, da⟩ := dt_of I.hok ha
  obtain ⟨_, yb, vb, rb, db⟩ := dt_of I.hok hb
  refine ⟨⟨da.typeIs, db.typeIs⟩, fun nm E Q q => YQ.samePairsH ya yb da db hr (by rw [← Paired.length ra, ← Paired.length rb]; exact hl) (fun x hx => ?_) q⟩
  obtain ⟨i, hi, e⟩ := List.getElem_of_mem hx
  have hil : i < ks.length := by rw [Paired.length ra]; exact hi
  have hpr := paired_get ra hil hi
  rw [e] at hpr
  obtain ⟨h1, _, h3⟩ := hpr
  obtain ⟨u, hu, hF⟩ := hp ks[i] (List.getElem_mem hil)
  have rr : RelO (some u) ((atKey vb ks[i].1).map (·.2)) := by rw [← hu]; exact rb.val _
  obtain ⟨y, hy, ry⟩ := rr.some_of
  obtain ⟨q, hq, rfl⟩ := Option.map_eq_some_iff.mp hy
  obtain ⟨j, hj⟩ := atKey_some hq
  exact ⟨j, q, by rw [← h1]; exact hj, ih _ _ _ _ hF h3 ry⟩
end
section
variable {X : Cx} {pins : List (Addr × Obj)} {σ : L2.St} {H : Hp} {s : Shared}
theorem units_in1 {A : Around} : A.in1.units = A.units + 1 := rfl
theorem eqR2_run (I : Inv X pins σ H s) {A : Around} {F : V → V → Prop} (hu : A.units + 1 < cLine) (ih : ∀ x y v u, F x y → RelV x v → RelV y u → SeqAt.EqP X.prog X.w A.in1 s v u true) {x y : V} {v u : Value} (h : EqR2 X.K H F x y) (rx : RelV x v) (ry : RelV y u) (E Q : Value → Shared → Prop) :
    (Q (.bool true) s → wpAny (model X.prog X.w) A (richCompare .Eq v u) Q E s) ∧ (Q (.bool false) s → wpAny (model X.prog X.w) A (richCompare .NotEq v u) Q E s) := by
  have hu0 : A.units < cLine := by omega
  rcases h with ⟨a, b, xs, ys, rfl, rfl, ha, hb, hp⟩ | ⟨a, b, xs, ys, rfl, rfl, ha, hb, hp⟩ | ⟨a, b, ks, ls, rfl, rfl, ha, hb, hl, hp⟩ | ⟨a, b, ks, ls, rfl, rfl, ha, hb, hl, hp⟩
  all_goals
    cases (show v = Value.ref a from rx)
    cases (show u = Value.ref b from ry)
  · obtain ⟨us, r1, p1, _⟩ := I.list ha
    obtain ⟨ws, r2, p2, _⟩ := I.list hb
    obtain ⟨hsz, he⟩ := allEq_of ih hp r1 r2
    exact ⟨fun q => YQ.rcEq_list p1.isList p2.isList hsz hu0 he E Q q, fun q => YQ.rcNe_list p1.isList p2.isList hsz hu0 he E Q q⟩
  · obtain ⟨us, r1, p1, _⟩ := I.tuple ha
    obtain ⟨ws, r2, p2, _⟩ := I.tuple hb
    obtain ⟨hsz, he⟩ := allEq_of ih hp r1 r2
    exact ⟨fun q => YQ.rcEq_tup p1 p2 hsz hu0 he E Q q, fun q => YQ.rcNe_tup p1 p2 hsz hu0 he E Q q⟩
  · obtain ⟨⟨ta, tb⟩, same⟩ := same_dK I ih ha hb hl hp
    exact ⟨fun q => YQ.rcEq_dict_of ta tb hu0 same E Q q, fun q => YQ.rcNe_dict_of ta tb hu0 same E Q q⟩
  · obtain ⟨⟨ta, tb⟩, same⟩ := same_dT I (tupleKind_room_in1 hu) ih ha hb hl hp
    exact ⟨fun q => YQ.rcEq_dict_of ta tb hu0 same E Q q, fun q => YQ.rcNe_dict_of ta tb hu0 same E Q q⟩
theorem EqR2.refs {K : PySem.W.Frag} {F : V → V → Prop} {x y : V} (h : EqR2 K H F x y) : ∃ a b, x = .ref a ∧ y = .ref b := by
  rcases h with ⟨a, b, _, _, e1, e2, _⟩ | ⟨a, b, _, _, e1, e2, _⟩ | ⟨a, b, _, _, e1, e2, _⟩ | ⟨a, b, _, _, e1, e2, _⟩ <;> exact ⟨a, b, e1, e2⟩
theorem eqW_run (I : Inv X pins σ H s) : ∀ (n : Nat) (A : Around), A.units + n < cLine → ∀ (x y : V) (v u : Value), EqW X.K H n x y → RelV x v → RelV y u → SeqAt.EqP X.prog X.w A s v u true
  | 0, _, _, _, _, _, _, h, _, _ => (show False from h).elim
  | n + 1, A, hu, x, y, v, u, h, rx, ry => by
    rcases h with ⟨rfl, f⟩ | ⟨a, rfl, rfl⟩ | h
    · exact (eqAt_same rx ry f).eqP
    · cases (show v = Value.ref a from rx)
      cases (show u = Value.ref a from ry)
      exact (SeqAt.EqAt.same _).eqP
    · have step := fun E Q => (eqR2_run I (A := A) (by omega) (eqW_run I n A.in1 (by rw [units_in1]; omega)) h rx ry E Q).1
      obtain ⟨a, b, rfl, rfl⟩ := h.refs
      cases (show v = Value.ref a from rx)
      cases (show u = Value.ref b from ry)
      by_cases e : a = b
      · subst e
        exact (SeqAt.EqAt.same _).eqP
      · exact SeqAt.eqP_refs e step
end
section
variable {X : Cx}
/-- x == y, x != y of equal rows, dicts or scalars -/
def rEqW (K : PySem.W.Frag) : R2 := fun x y H Q => ∃ n, n ≤ 60 ∧ (EqR2 K H (EqW K H n) x y ∨ (x = y ∧ scal x y = true)) ∧ Q (.bl true) H
def rNeW (K : PySem.W.Frag) : R2 := fun x y H Q => ∃ n, n ≤ 60 ∧ (EqR2 K H (EqW K H n) x y ∨ (x = y ∧ scal x y = true)) ∧ Q (.bl false) H
theorem op_eqW {K : PySem.W.Frag} (hK : X.K = K) (hu : X.A.units + 64 < cLine) : OpR X (compareOp .Eq) (rEqW K) := by
  subst hK
  rintro pins s σ H x y v u Q I rx ry ⟨n, hn, h | ⟨rfl, h⟩, q⟩
  · exact (eqR2_run I (A := X.A) (by omega) (eqW_run I n X.A.in1 (by rw [units_in1]; omega)) h rx ry _ _).1 ⟨.bl true, H, I, rfl, q⟩
  · exact op_eq pins s σ H x x v u Q I rx ry ⟨h, by rw [decide_eq_true rfl]; exact q⟩
theorem op_neW {K : PySem.W.Frag} (hK : X.K = K) (hu : X.A.units + 64 < cLine) : OpR X (compareOp .NotEq) (rNeW K) := by
  subst hK
  rintro pins s σ H x y v u Q I rx ry ⟨n, hn, h | ⟨rfl, h⟩, q⟩
  · exact (eqR2_run I (A := X.A) (by omega) (eqW_run I n X.A.in1 (by rw [units_in1]; omega)) h rx ry _ _).2 ⟨.bl false, H, I, rfl, q⟩
  · exact op_ne pins s σ H x x v u Q I rx ry ⟨h, by rw [decide_eq_true rfl]; exact q⟩
end
end Y

/-! ### list(reversed(x)), x a list or a tuple -/
namespace YR
open PySem PySem.Spec PySem.Calls PyProof.Rows RT
theorem slot_hint : Slot "reversed" "__length_hint__" "reversed.__length_hint__" :=
  .of (owner := "reversed") (n := "__length_hint__") (by rw [typeLookup_type, builtinLookup_eq_fast]; kernel_rfl) (by decide +kernel) (by decide +kernel) (by decide +kernel)
    (by first | exact .inl (by decide +kernel) | exact .inr (by decide +kernel)) (by rw [isSubtype_type]; kernel_rfl)
theorem entry_hint : entryFor table "reversed.__length_hint__" = some Builtin.«reversed.__length_hint__» := entryFor_of_tree (by kernel_rfl)
theorem args_hint (a : Value) : argsOk "reversed.__length_hint__" ⟨[a], []⟩ := by
  unfold argsOk
  rw [signature?_of (id := "reversed.__length_hint__") (n := ['_', '_', 't', 'n', 'i', 'h', '_', 'h', 't', 'g', 'n', 'e', 'l', '_', '_']) (o := ['d', 'e', 's', 'r', 'e', 'v', 'e', 'r']) (by kernel_rfl) owner_rt]
  kernel_rfl
theorem nolen : typeLookup (.type "reversed") "__len__" = pure none := by rw [typeLookup_type, builtinLookup_eq_fast]; kernel_rfl
section
variable {prog : Program} {w : World} {A : Around} {E : Value → Shared → Prop} {s : Shared}
theorem hint_rt {it t : Addr} {i : Int} {items : Array Value} {Q : Bool → Shared → Prop} (hit : IsRt s.heap it t i) (ht : IsTup s.heap t items) (hi : i = (items.size : Int) - 1) (hz : items.size ≤ sizeLine) (h : ∀ (b : Bool) (tk : Nat), Q b { s with toks := tk }) :
    wpAny (model prog w) A (Builtin.List.listLengthHint (.ref it)) Q E s := by
  obtain ⟨o, ho, hc, hd⟩ := id hit
  rw [sizeLine_eq] at hz
  unfold Builtin.List.listLengthHint
  refine wpAny_bind (wpAny_specialOf hit.typeIs nolen ?_)
  show wpAny _ A (specialOf (Value.ref it) (Str.ofString "__length_hint__") >>= _) _ _ _
  refine wpAny_bind (wpAny_specialOf hit.typeIs slot_hint.lookup ?_)
  generalize hid : ("reversed.__length_hint__" : String) = id0
  wp_delta
  rw [show splitId id0 = some ("reversed", "__length_hint__") from by subst hid; decide +kernel]
  subst hid
  refine wpAny_bind (wpAny_isInstance (b := true) hit.typeIs (by rw [isSubtype_type]; kernel_rfl) ?_)
  refine wpAny_ite_split (fun q => absurd q (by decide)) (fun _ => ?_)
  refine wpAny_ite_split (fun q => absurd q (by decide +kernel)) (fun _ => ?_)
  refine wpAny_bind (wpAny_rule (wpAny_bind ?_))
  rw [slot_hint.bind (.ref it)]
  refine wpAny_pure (wpAny_bind (wpAny_attempt (wpAny_call_entry slot_hint hit.typeIs entry_hint ?_ (args_hint _))))
  unfold Builtin.«reversed.__length_hint__»
  refine wpAny_bind (wpAny_of_eq (a := Value.ref it) rfl ?_)
  refine wpAny_bind (wpAny_field ho hd (x := .ref t) rfl ?_)
  refine wpAny_ite_split (fun q => absurd q (by simp)) (fun _ => ?_)
  refine wpAny_bind (len_tuple (items := items) ht (by omega) ?_)
  refine wpAny_bind (wpAny_of_eq (a := some ((items.size : Nat) : Int)) rfl ?_)
  refine wpAny_bind (wpAny_field (s := { s with toks := s.toks + 1 + 1 }) ho hd (x := rawInt i) rfl ?_)
  subst hi
  show wpAny _ _ (if ((items.size : Nat) : Int) < (items.size : Int) - 1 + 1 then _ else _) _ _ _
  rw [if_neg (by omega)]
  unfold retInt
  refine wpAny_bind (wpAny_mkInt (wpAny_pure ⟨_, rfl, ?_⟩))
  show wpAny _ _ (asInt? (Value.int _ _) >>= _) _ _ _
  refine wpAny_bind (wpAny_of_eq (a := some ((items.size : Int) - 1 + 1)) rfl ?_)
  have e1 : (!Builtin.List.listFitsIndex ((items.size : Int) - 1 + 1)) = false := by
    unfold Builtin.List.listFitsIndex
    simp
    omega
  have e2 : Builtin.List.listTooLong ((items.size : Int) - 1 + 1).toNat = false := by
    unfold Builtin.List.listTooLong
    rw [sizeLine_eq]
    exact decide_eq_false (by omega)
  show wpAny _ _ (if (!Builtin.List.listFitsIndex ((items.size : Int) - 1 + 1)) = true then _ else if ((items.size : Int) - 1 + 1) < 0 then _ else if Builtin.List.listTooLong ((items.size : Int) - 1 + 1).toNat = true then _ else pure (((items.size : Int) - 1 + 1) != 0)) _ _ _
  rw [e1, e2, if_neg Bool.false_ne_true, if_neg (by omega), if_neg Bool.false_ne_true]
  exact wpAny_pure (h _ _)
end
section
variable {prog : Program} {w : World} {A : Around} {E : Value → Shared → Prop} {s : Shared} {T : String} {J : Addr} {fp wr : List Addr} {n : Nat} {P : Nat → Value → Prop} {St : Nat → Heap → Prop}
/-- list(an iterator that stands), from its start -/
theorem list_iter {Q : Value → Shared → Prop} (W : Walks prog w A.in1.in1 J fp wr n P St) (hT : ∀ (z : Shared) i, St i z.heap → z.TypeIs (.ref J) T) (n1 : (Value.type T == Value.type "list") = false) (n2 : (Value.type T == Value.type "tuple") = false)
    (hint : ∀ (z : Shared) (Q : Bool → Shared → Prop) (E : Value → Shared → Prop), St 0 z.heap → (∀ b tk, Q b { z with toks := tk }) → wpAny (model prog w) A.in1.in1 (Builtin.List.listLengthHint (.ref J)) Q E z) (st : St 0 s.heap) (hJ : J ∈ fp) (hfp : ∀ b ∈ fp, b < s.heap.objs.size) (hn : n ≤ sizeLine)
    (hQ : ∀ h' tk acc c, (∀ b o, b ∉ wr → s.heap.get? b = some o → h'.get? b = some o) → h'.get? s.heap.objs.size = some { cls := .type "list", dict := none, data := .seq acc c, slots := #[] } → ItemsOf P acc n → Q (.ref s.heap.objs.size) { s with heap := h', toks := tk }) :
    wpAny (model prog w) A (call (.type "list") [.ref J]) Q E s := by
  obtain ⟨S, hS⟩ : ∃ S, s.heap.objs.size = S := ⟨_, rfl⟩
  rw [hS] at hQ
  have nf : S ∉ fp := fun z => Nat.lt_irrefl S (by have := hfp S z; rwa [hS] at this)
  refine callType_codes (Q₁ := fun o z => o = .ref S ∧ z = { s with heap := s.heap.push { cls := .type "list", data := .seq #[] } }) F.called_list (F.typeCall_list_1 _) F.entry_list_init
    (code_list_new _ ⟨by rw [hS], rfl⟩) ?_
  rintro _ _ ⟨rfl, rfl⟩
  have g1 : (s.heap.push { cls := .type "list", data := .seq #[] }).get? S = some { cls := .type "list", data := .seq #[] } := by rw [← hS]; exact Heap.get?_push_size _ rfl
  have st1 : St 0 (s.heap.push { cls := .type "list", data := .seq #[] }) := W.frame 0 _ _ st fun b _ o e => Heap.get?_push_of_some _ e
  have old1 : ∀ b o, s.heap.get? b = some o → (s.heap.push { cls := .type "list", data := .seq #[] }).get? b = some o := fun b o e => Heap.get?_push_of_some _ e
  have ltS : ∀ b o, s.heap.get? b = some o → b ≠ S := fun b o e z => Nat.lt_irrefl S (by have := Heap.lt_size e; rwa [hS, z] at this)
  generalize s.heap.push { cls := .type "list", data := .seq #[] } = h1 at g1 st1 old1 ⊢
  refine ⟨⟨_, g1, rfl⟩, F.args_list_init_2 _ _, ?_⟩
  show wpAny _ _ (do let old ← Builtin.List.listItems (.ref S); Builtin.List.listUpdate (.ref S) (fun _ => #[]); letGo old.toList.reverse; Builtin.List.listExtendWith (.ref S) (.ref J) .none) _ _ _
  unfold Builtin.List.listItems
  refine wpAny_bind (wpAny_bind (wpAny_seqItems g1 rfl (wpAny_pure ?_)))
  refine wpAny_bind (wpAny_updateSeq g1 rfl ?_)
  have g2 := Heap.get?_update_self (Obj.mapSeq (fun _ => (#[] : Array Value))) g1 rfl
  have old2 : ∀ b o, b ≠ S → h1.get? b = some o → (h1.update S (Obj.mapSeq (fun _ => (#[] : Array Value)))).get? b = some o := fun b o nb e => (Heap.get?_update_other _ _ (Ne.symm nb)).trans e
  have st2 := W.frame 0 _ _ st1 fun b hb o e => old2 b o (fun z => nf (z ▸ hb)) e
  generalize h1.update S (Obj.mapSeq (fun _ => (#[] : Array Value))) = h2 at g2 old2 st2 ⊢
  refine wpAny_bind (wpAny_letGo ?_)
  have fin : ∀ (h3 : Heap) (c₁ tk : Nat), St 0 h3 → (∀ b o, b ≠ S → h2.get? b = some o → h3.get? b = some o) → h3.get? S = some { cls := .type "list", data := .seq #[] c₁ } →
      codeAny (model prog w) A.in1 (.builtin "list.extend.loop" ⟨[.ref S, .ref J, .none], []⟩) (wants (fun r z => r = .none ∧ Q (.ref S) z) E) { s with heap := h3, toks := tk } := by
    intro h3 c₁ tk st3 old3 g3
    refine codeAny_extend_loopS W.toS hn S nf .none n 0 _ #[] c₁ rfl (Nat.zero_le _) st3 g3 (ItemsOf.nil _) fun z acc c hm hz hacc => ⟨rfl, ?_⟩
    rw [Moved.eq_with hm]
    refine hQ z.heap z.toks acc c (fun b o hb e => hm.heap b o (fun hw => ?_) (old3 b o (ltS b o e) (old2 b o (ltS b o e) (old1 b o e)))) hz hacc
    rcases List.mem_cons.mp hw with e2 | e2
    · exact ltS b o e e2
    · exact hb e2
  unfold Builtin.List.listExtendWith
  refine wpAny_bind (wpAny_typeOf (hT _ 0 st2) ?_)
  have d1 : Builtin.List.listSameRef (.ref S) (.ref J) = false := by
    have : S ≠ J := fun z => nf (z ▸ hJ)
    simp [Builtin.List.listSameRef, this]
  simp only [d1, n1, n2, Bool.or_false, Bool.false_eq_true, if_false]
  refine wpAny_bind (W.self 0 _ _ _ st2 (wpAny_bind (wpAny_holding (hint _ _ _ st2 fun b tk => ?_))))
  refine wpAny_ite_split (fun _ => ?_) (fun _ => wpAny_pure ⟨plainId_quiet F.plain_extend_loop _, fin _ _ _ st2 (fun _ _ _ e => e) g2⟩)
  refine wpAny_bind (wpAny_rule (wpAny_bind ?_))
  show wpAny _ _ (updateSeq S (·.push .none) >>= fun _ => updateSeq S (·.pop)) _ _ _
  refine wpAny_bind (wpAny_updateSeq g2 rfl ?_)
  have g3 := Heap.get?_update_self (Obj.mapSeq (·.push Value.none)) g2 rfl
  refine wpAny_updateSeq (hz := by seq_fits) g3 rfl ?_
  have g4 := Heap.get?_update_self (Obj.mapSeq (·.pop)) g3 rfl
  refine wpAny_pure ⟨plainId_quiet F.plain_extend_loop _, fin _ _ _ (W.frame 0 _ _ st2 fun b hb o e => ?_) (fun b o nb e => ?_) g4⟩
  · have nb : b ≠ S := fun z => nf (z ▸ hb)
    exact (Heap.get?_update_other _ _ (Ne.symm nb)).trans ((Heap.get?_update_other _ _ (Ne.symm nb)).trans e)
  · exact (Heap.get?_update_other _ _ (Ne.symm nb)).trans ((Heap.get?_update_other _ _ (Ne.symm nb)).trans e)
end
end YR
namespace YR
open PySem PySem.Spec PySem.Calls PyProof.Rows RT L2
section
variable {prog : Program} {w : World} {A : Around} {E : Value → Shared → Prop} {s : Shared}
/-- the walk of reversed(a tuple) -/
theorem walks_rt {J t : Addr} {items : Array Value} (hh : A.handled = none) (hne : t ≠ J) (hz : items.size ≤ sizeLine) :
    Walks prog w A J [J, t] [J] items.size (fun i v => items[items.size - 1 - i]? = some v) (fun i h => i ≤ items.size ∧ IsRt h J t ((items.size : Int) - 1 - (i : Int)) ∧ IsTup h t items) where
  sub := by simp
  frame := fun i h h' ⟨a, b, c⟩ k => ⟨a, b.at fun o e => k J (by simp) o e, by
    obtain ⟨o, ho, r⟩ := c
    exact ⟨o, k t (by simp) o ho, r⟩⟩
  item := fun i s Q E hi ⟨a, b, c⟩ hQ => by
    have e1 : (items.size : Int) - 1 - (i : Int) = ((items.size - 1 - i : Nat) : Int) := by omega
    rw [e1] at b
    have hx : items[items.size - 1 - i]? = some items[items.size - 1 - i] := by simp [show items.size - 1 - i < items.size by omega]
    refine next_rt_item b c hx hz fun h' b' sb => hQ _ h' _ hx ⟨hi, ?_, ?_⟩ fun q o hq e => (sb.2 q (by simpa using hq)).trans e
    · have e2 : ((items.size - 1 - i : Nat) : Int) - 1 = (items.size : Int) - 1 - ((i + 1 : Nat) : Int) := by omega
      rw [← e2]
      exact b'
    · obtain ⟨o, ho, r⟩ := c
      exact ⟨o, (sb.2 t hne).trans ho, r⟩
  done := fun s Q E ⟨a, b, c⟩ hQ => by
    rw [show (items.size : Int) - 1 - (items.size : Int) = -1 by omega] at b
    exact next_rt_end hh b fun h' eb => hQ h' s.toks fun q o hq e => eb q o (by simpa using hq) e
  self := fun i s Q E ⟨a, b, c⟩ hQ => iter_rt b hQ
theorem hint_lr {J l : Addr} {i : Int} {Q : Bool → Shared → Prop} (hit : s.heap.IsRevIter J l i) (h : Q false s) : wpAny (model prog w) A (Builtin.List.listLengthHint (.ref J)) Q E s := by
  have hT : s.TypeIs (.ref J) "list_reverseiterator" := hit.typeIs
  unfold Builtin.List.listLengthHint
  refine wpAny_bind (wpAny_specialOf hT nolen_lri ?_)
  show wpAny _ A (specialOf (Value.ref J) (Str.ofString "__length_hint__") >>= _) _ _ _
  refine wpAny_bind (wpAny_specialOf hT hint_lri ?_)
  generalize hid : ("list_reverseiterator.__length_hint__" : String) = id0
  wp_delta
  rw [show splitId id0 = some ("list_reverseiterator", "__length_hint__") from by subst hid; decide +kernel]
  subst hid
  refine wpAny_bind (wpAny_isInstance (b := true) hT (by rw [isSubtype_type]; kernel_rfl) (wpAny_pure h))
end
end YR
namespace Y
open PySem PySem.Spec PySem.Calls PyProof.Rows L2 RT
/-- list(reversed(x)) -/
def rListRev (K : PySem.W.Frag) : V → Hp → VK → Prop := fun x H Q => ∃ (a : Addr) (xs : List V), x = .ref a ∧ (SqL K H a xs ∨ SqT K H a xs) ∧ ∀ p, H p = none → Q (.ref p) (upd H p (.lst xs.reverse))
def tListRev (K : PySem.W.Frag) (te : TE) : TE := fun σ H Q => te σ H fun x H1 => rListRev K x H1 Q
theorem pe_listRev {X : Cx} {K : PySem.W.Frag} {e : Expr} {te : TE} {p p2 pos pos2 : Pos} (hK : X.K = K) (hc : X.calm = true) (hg : Gl X "list") (hm : X.mg "list" = none) (hg2 : Gl X "reversed") (hm2 : X.mg "reversed" = none) (he : PE X e te) (hv : bootBuiltins "list" = some (.type "list") := by decide +kernel)
    (hs : starEach [e] X.env = (false, eval e X.env) :: starEach [] X.env := by rfl)
    (hs2 : starEach [.Call (.Name "reversed" p2) [e] [] pos2] X.env = (false, eval (.Call (.Name "reversed" p2) [e] [] pos2) X.env) :: starEach [] X.env := by rfl) :
    PE X (.Call (.Name "list" p) [.Call (.Name "reversed" p2) [e] [] pos2] [] pos) (tListRev K te) := by
  subst hK
  refine ⟨fun pins s σ H Q I h => ?_⟩
  refine Call_ (ld_blt I hg hm hv (PyProof.Rows.callWith_type1 (args_cons (Call_ (ld_blt I hg2 hm2 PyProof.Rows.boot_reversed (PyProof.Rows.callWith_type1 (args_cons (thn (he.run pins s σ H _ I h) fun u s1 ⟨x, H1, I1, rx, q1⟩ => args_nil ?_) hs) hs rfl))) hs2) hs2 rfl))
  obtain ⟨a, xs, ex, hsq, q⟩ := q1
  subst ex
  obtain rfl : u = Value.ref a := rx
  generalize hJ : s1.heap.objs.size = J
  have fJ : FpOk X pins H1 J := I1.fpOk (H' := H1) (by rw [hJ]; exact Nat.le_refl _) (I1.hok.fresh (by rw [hJ]; exact Nat.le_refl _))
  have fin : ∀ {s2 : Shared} {its : List Value} {h' : Heap} {tk c : Nat} {acc : Array Value}, Inv X pins σ H1 s2 → Vals xs its → xs.length ≤ sizeLine → (∀ b o, b ∉ [J] → s2.heap.get? b = some o → h'.get? b = some o) →
      h'.get? s2.heap.objs.size = some { cls := .type "list", dict := none, data := .seq acc c, slots := #[] } → ItemsOf (fun i v => its.toArray[its.toArray.size - 1 - i]? = some v) acc its.toArray.size → EP X pins σ Q (.ref s2.heap.objs.size) { s2 with heap := h', toks := tk } := by
    intro s2 its h' tk c acc I2 rv hz hk hg hi
    refine ⟨.ref _, upd H1 _ (.lst xs.reverse), I2.turnedNew (t' := tk) (ch := [J]) (fun b o hb e => hk b o hb e) (fun b hb => by simp at hb; subst hb; exact fJ) (Nat.le_refl _) (show ObjOk X.prog X.w _ _ _ (.lst xs.reverse) from ⟨by rw [List.length_reverse]; exact hz, acc.toList, c, vals_rev rv hi, ?_⟩), rfl, q _ (I2.hok.fresh (Nat.le_refl _))⟩
    rw [Array.toArray_toList]
    exact hg
  rcases hsq with hsq | hsq
  · obtain ⟨its, rv, p', hz⟩ := I1.list hsq
    have hl := p'.isList
    obtain ⟨ol, hol, _⟩ := id hl
    have hne : a ≠ J := by rw [← hJ]; exact Nat.ne_of_lt (Heap.lt_size hol)
    refine call_reversed_list hl (args_nil ?_)
    have I2 : Inv X pins σ H1 { s1 with heap := s1.heap.push (revObj a ((its.toArray.size : Int) - 1)) } := I1.kept (t' := s1.toks) fun b o e => Heap.get?_push_of_some _ e
    have hn : its.toArray.size ≤ sizeLine := by rw [List.size_toArray, ← rv.length]; exact hz
    rw [hJ]
    refine YR.list_iter (T := "list_reverseiterator") (Walks.listRev (A := X.A.in1.in1) (show X.A.in1.in1.handled = none from I1.ok.hd hc) J a hne its.toArray) (fun z i st => st.2.1.typeIs) (by decide) (by decide) (fun z Q E st h => YR.hint_lr st.2.1 (h false z.toks)) ⟨Nat.zero_le _, ⟨_, by rw [← hJ]; exact Heap.get?_push_size _ rfl, rfl, by simp [revObj]⟩, hl.push _⟩ (by simp) (fun b hb => ?_) hn (fun h' tk acc c hk hg hi => fin I2 rv hz hk hg hi)
    rw [Heap.size_push]
    simp only [List.mem_cons, List.not_mem_nil, or_false] at hb
    rcases hb with rfl | rfl
    · exact hJ ▸ Nat.lt_succ_self _
    · exact Nat.lt_succ_of_lt (Heap.lt_size hol)
  · obtain ⟨its, rv, p', hz⟩ := I1.tuple hsq
    have hl : IsTup s1.heap a its.toArray := p'
    obtain ⟨ol, hol, _⟩ := id hl
    have hne : a ≠ J := by rw [← hJ]; exact Nat.ne_of_lt (Heap.lt_size hol)
    have hn : its.toArray.size ≤ sizeLine := by rw [List.size_toArray, ← rv.length]; exact hz
    have ln := hn
    rw [sizeLine_eq] at ln
    refine call_reversed_tup hl (fun A E Q k => len_tuple hl (by omega) k) (args_nil ?_)
    have I2 : Inv X pins σ H1 { s1 with heap := s1.heap.push (rtObj a ((its.toArray.size : Int) - 1)), toks := s1.toks + 1 + 1 } := I1.kept (t' := s1.toks + 1 + 1) fun b o e => Heap.get?_push_of_some _ e
    rw [hJ]
    refine YR.list_iter (T := "reversed") (YR.walks_rt (A := X.A.in1.in1) (show X.A.in1.in1.handled = none from I1.ok.hd hc) hne hn) (fun z i st => st.2.1.typeIs) (by decide) (by decide) (fun z Q E st h => YR.hint_rt st.2.1 st.2.2 (by simp) hn h) ⟨Nat.zero_le _, ⟨_, by rw [← hJ]; exact Heap.get?_push_size _ rfl, rfl, by simp [rtObj]⟩, ?_⟩ (by simp) (fun b hb => ?_) hn (fun h' tk acc c hk hg hi => fin I2 rv hz hk hg hi)
    · obtain ⟨o, ho, r⟩ := hl
      exact ⟨o, Heap.get?_push_of_some _ ho, r⟩
    · rw [show (Shared.heap { s1 with heap := s1.heap.push (rtObj a ((its.toArray.size : Int) - 1)), toks := s1.toks + 1 + 1 }) = s1.heap.push (rtObj a ((its.toArray.size : Int) - 1)) from rfl, Heap.size_push]
      simp only [List.mem_cons, List.not_mem_nil, or_false] at hb
      rcases hb with rfl | rfl
      · exact hJ ▸ Nat.lt_succ_self _
      · exact Nat.lt_succ_of_lt (Heap.lt_size hol)
end Y
namespace Y
open PySem PySem.Spec PyProof.Rows L2
section
variable {K : PySem.W.Frag} {σ : L2.St} {G H : Hp} {Q : VK} {te : TE} {x : V} {ds : List PyData} {p : Addr}
theorem g_lrev (q : te σ H fun x H1 => rListRev K x H1 Q) : tListRev K te σ H Q := q
theorem dpAll_rev : ∀ {vs : List V} {ds : List PyData}, DpAll K G vs ds → DpAll K G vs.reverse ds.reverse
  | _, _, .nil => .nil
  | _, _, .cons a t => by
    rw [List.reverse_cons, List.reverse_cons]
    exact dpAll_snoc (dpAll_rev t) a
theorem g_lrevT (e : Ex G H) (h : Dp K G x (.tuple ds)) (q : ∀ p H', Nx [] G H G H' → H p = none → LstAt K p G H' ds.reverse → Q (.ref p) H') : rListRev K x H Q := by
  obtain ⟨a, xs, rfl, hs, hd⟩ := dp_tup h
  exact ⟨a, xs, rfl, .inr (e.seqT hs), fun p hp => q p _ (Nx.own e hp) hp ⟨_, upd_same, e.free hp, dpAll_rev hd⟩⟩
theorem g_lrevL (e : Ex G H) (h : Dp K G x (.list ds)) (q : ∀ p H', Nx [] G H G H' → H p = none → LstAt K p G H' ds.reverse → Q (.ref p) H') : rListRev K x H Q := by
  obtain ⟨a, xs, rfl, hs, hd⟩ := dp_lst h
  exact ⟨a, xs, rfl, .inl (e.seqL hs), fun p hp => q p _ (Nx.own e hp) hp ⟨_, upd_same, e.free hp, dpAll_rev hd⟩⟩
theorem g_lrevLs (e : Ex G H) (h : LstAt K p G H ds) (q : ∀ p H', Nx [] G H G H' → H p = none → LstAt K p G H' ds.reverse → Q (.ref p) H') : rListRev K (.ref p) H Q := by
  obtain ⟨xs, hs, g, hd⟩ := h
  exact ⟨p, xs, rfl, .inl (.of hs), fun p hp => q p _ (Nx.own e hp) hp ⟨_, upd_same, e.free hp, dpAll_rev hd⟩⟩
end
end Y

namespace Y
open PySem PySem.Spec PyProof.Rows L2
/-! ### equal things, told by their data -/
section
variable {K : PySem.W.Frag} {G H : Hp}
mutual
theorem eqW_dp : ∀ {v : V} {d : PyData}, Dp K H v d → ∀ {u : V} {n : Nat}, d.depth ≤ n → Dp K H u d → EqW K H (n + 1) v u
  | _, _, .non, u, n, _, h => .inl ⟨by cases h; rfl, rfl⟩
  | _, _, .bl b, u, n, _, h => .inl ⟨by cases h; rfl, rfl⟩
  | _, _, .int i, u, n, _, h => .inl ⟨by cases h; rfl, rfl⟩
  | _, _, .str x, u, n, _, h => .inl ⟨by cases h; rfl, rfl⟩
  | _, _, .lst hs hd, u, n, hn, h => by
    obtain ⟨b, ys, rfl, hs2, hd2⟩ := dp_lst h
    cases n with
    | zero => simp only [PyData.depth] at hn; omega
    | succ n => exact .inr (.inr (.inl ⟨_, _, _, _, rfl, rfl, hs, hs2, eqW_dpAll hd (by simp only [PyData.depth] at hn; omega) hd2⟩))
  | _, _, .tup hs hd, u, n, hn, h => by
    obtain ⟨b, ys, rfl, hs2, hd2⟩ := dp_tup h
    cases n with
    | zero => simp only [PyData.depth] at hn; omega
    | succ n => exact .inr (.inr (.inr (.inl ⟨_, _, _, _, rfl, rfl, hs, hs2, eqW_dpAll hd (by simp only [PyData.depth] at hn; omega) hd2⟩)))
theorem eqW_dpAll : ∀ {vs : List V} {ds : List PyData}, DpAll K H vs ds → ∀ {us : List V} {n : Nat}, PyData.depthAll ds ≤ n → DpAll K H us ds → Paired (EqW K H (n + 1)) vs us
  | _, _, .nil, us, n, _, h => by cases h; exact .nil
  | _, _, .cons a t, us, n, hn, h => by
    cases h with
    | cons b t2 =>
      simp only [PyData.depthAll] at hn
      exact .cons (eqW_dp a (by omega) b) (eqW_dpAll t (by omega) t2)
end
theorem EqW.same {n : Nat} {v : V} (h : flatB v = true) : EqW K H (n + 1) v v := .inl ⟨rfl, h⟩
theorem EqW.r {n : Nat} {v u : V} (h : EqR2 K H (EqW K H n) v u) : EqW K H (n + 1) v u := .inr (.inr h)
/-- two dicts of the same data -/
theorem eqR_dct {a b : Addr} {md : List (Key × PyData)} {n : Nat} (e : Ex G H) (r1 : DctAt K a G H md) (r2 : DctAt K b G H md) (hnd : (md.map (·.1)).Nodup) (hd : ∀ x ∈ md, x.2.depth ≤ n) : EqR2 K H (EqW K H (n + 1)) (.ref a) (.ref b) := by
  obtain ⟨ks, h1, _, k1, d1⟩ := r1
  obtain ⟨ls, h2, _, k2, d2⟩ := r2
  have l1 : ks.length = md.length := by simpa using congrArg List.length k1
  have l2 : ls.length = md.length := by simpa using congrArg List.length k2
  refine .inr (.inr (.inl ⟨a, b, ks, ls, rfl, rfl, h1, h2, by omega, fun p hp => ?_⟩))
  obtain ⟨i, hi, rfl⟩ := List.getElem_of_mem hp
  have him : i < md.length := by omega
  have ek : ks[i].1 = md[i].1 := by
    have := congrArg (fun l => l[i]?) k1
    simp [him, hi] at this
    exact this
  obtain ⟨x, hx, dx⟩ := dpAll_got d1 (i := i) (v := ks[i].2) (by simp [hi])
  have ex : x = md[i].2 := by simp [him] at hx; exact hx.symm
  subst ex
  have hg : gtM md ks[i].1 = some md[i].2 := by
    rw [ek]
    have key : ∀ (m : List (Key × PyData)) (i : Nat) (h : i < m.length), (m.map (·.1)).Nodup → gtM m m[i].1 = some m[i].2 := by
      intro m
      induction m with
      | nil => intro i h; simp at h
      | cons y m ih =>
        intro i h hn
        rw [List.map_cons, List.nodup_cons] at hn
        rw [gtM_cons]
        cases i with
        | zero => simp
        | succ i =>
          simp only [List.getElem_cons_succ]
          have hi2 : i < m.length := by simpa using h
          rw [if_neg (fun z => hn.1 (by rw [z]; exact List.mem_map_of_mem (List.getElem_mem hi2)))]
          exact ih i hi2 hn.2
    exact key md i him hnd
  obtain ⟨u, hu, du⟩ := (gt_rel ks[i].1 k2 d2).1 _ hg
  exact ⟨u, hu, eqW_dp (dp_mono e dx) (hd _ (List.getElem_mem him)) (dp_mono e du)⟩
theorem eqR_tup {a b : Addr} {xs ys : List V} {n : Nat} (e : Ex G H) (h1 : SqT K G a xs) (h2 : SqT K G b ys) (h : Paired (EqW K H n) xs ys) : EqR2 K H (EqW K H n) (.ref a) (.ref b) := .inr (.inl ⟨a, b, xs, ys, rfl, rfl, e.seqT h1, e.seqT h2, h⟩)
theorem g_neW {x y : V} {Q : VK} (n : Nat) (hn : n ≤ 60) (h : EqR2 K H (EqW K H n) x y) (q : Q (.bl false) H) : rNeW K x y H Q := ⟨n, hn, .inl h, q⟩
theorem g_eqW {x y : V} {Q : VK} (n : Nat) (hn : n ≤ 60) (h : EqR2 K H (EqW K H n) x y) (q : Q (.bl true) H) : rEqW K x y H Q := ⟨n, hn, .inl h, q⟩
theorem g_neWs {x : V} {Q : VK} (h : scal x x = true) (q : Q (.bl false) H) : rNeW K x x H Q := ⟨0, by omega, .inr ⟨rfl, h⟩, q⟩
theorem g_eqWs {x : V} {Q : VK} (h : scal x x = true) (q : Q (.bl true) H) : rEqW K x x H Q := ⟨0, by omega, .inr ⟨rfl, h⟩, q⟩
/-- rows that stand, of the same data -/
theorem eqR_lst {a b : Addr} {L : List PyData} {n : Nat} (e : Ex G H) (h1 : LstAt K a G H L) (h2 : LstAt K b G H L) (hd : PyData.depthAll L ≤ n) : EqR2 K H (EqW K H (n + 1)) (.ref a) (.ref b) := by
  obtain ⟨xs, x1, _, d1⟩ := h1
  obtain ⟨ys, y1, _, d2⟩ := h2
  exact .inl ⟨a, b, xs, ys, rfl, rfl, .of x1, .of y1, eqW_dpAll (dpAll_mono e d1) hd (dpAll_mono e d2)⟩
/-- items of a tuple of things that stand -/
theorem g_ixTR {Q : VK} {t : Addr} {xs : List V} {v : V} {i : Int} {k : Nat} (e : Ex G H) (h : SqT K G t xs) (hv : xs[k]? = some v) (hj : i = (k : Int)) (q : Q v H) : rIxT K (.ref t) (.int i) H Q := by
  subst hj
  exact ⟨t, xs, _, v, rfl, rfl, e.seqT h, atI_nat hv, q⟩
theorem g_lenTR {Q : VK} {t : Addr} {xs : List V} (e : Ex G H) (h : SqT K G t xs) (q : Q (.int (xs.length : Int)) H) : rLen K [.ref t] H Q := ⟨t, xs, rfl, .inr (e.seqT h), q⟩
end
end Y
namespace Y
open PySem PySem.Spec PyProof.Rows L2
/-! ### lists, known or standing -/
def LsV (K : PySem.W.Frag) (v : V) (G H : Hp) (L : List PyData) : Prop := ∃ p, v = .ref p ∧ (LstAt K p G H L ∨ Dp K G (.ref p) (.list L))
section
variable {K : PySem.W.Frag} {G H G' H' : Hp} {L : List PyData} {v : V} {p : Addr} {M : List Addr} {Q : VK} {t : Addr} {xs : List V}
theorem LstAt.lsv (r : LstAt K p G H L) : LsV K (.ref p) G H L := ⟨p, rfl, .inl r⟩
theorem LsV.of (h : Dp K G v (.list L)) : LsV K v G H L := by
  obtain ⟨a, vs, rfl, _⟩ := dp_lst h
  exact ⟨a, rfl, .inr h⟩
theorem LsV.go0 (r : LsV K v G H L) (n : Nx [] G H G' H') : LsV K v G' H' L := by
  obtain ⟨p, rfl, r | r⟩ := r
  · exact ⟨p, rfl, .inl (r.go n (by simp))⟩
  · exact ⟨p, rfl, .inr (dp_mono n.gg r)⟩
theorem g_walkV0 {P : Addr → Prop} (e : Ex G H) (r : LsV K v G H L) (q : ∀ p, v = .ref p → Src K [] (Itl K p) G H L → P p) : ∃ b, v = .ref b ∧ (∃ xs, SqL K H b xs) ∧ P b := by
  obtain ⟨p, rfl, r | r⟩ := r
  · exact g_walkLs r fun S => q p rfl (S [] (by simp))
  · obtain ⟨a, xs, ea, hs, hd⟩ := dp_lst r
    cases ea
    exact ⟨p, rfl, ⟨xs, e.seqL hs⟩, q p rfl (src_lst hs hd)⟩
theorem LsV.dp (r : LsV K v G H L) (e : Ex G H) : Dp K H v (.list L) := by
  obtain ⟨p, rfl, r | r⟩ := r
  · exact r.dp e
  · exact dp_mono e r
theorem tyT (h : SqT K H t xs) : TyX K H (.ref t) (.type "tuple") := by
  rcases h with (hs | ⟨o, hs⟩) | ⟨o, its, n, hs, hc, _⟩
  · exact .base (.tup hs)
  · exact .fTuple hs
  · exact .kTuple hs hc
theorem g_isiR (e : Ex G H) (h : SqT K G t xs) (q : Q (.bl true) H) : rIsi K [.ref t, .ty "tuple"] H Q :=
  ⟨.ref t, .ty "tuple", _, _, true, rfl, .ty "tuple", tyT (e.seqT h), kit_ty (by rfl), q⟩
end
end Y

namespace Y
open PySem PySem.Spec PyProof.Rows L2
/-! ### xs[i] op= e over a list -/
def rGetL (K : PySem.W.Frag) : V → V → Hp → VK → Prop := fun o i H Q => ∃ (p : Addr) (xs : List V) (j : Nat) (v : V), o = .ref p ∧ i = .int (j : Int) ∧ SqL K H p xs ∧ xs[j]? = some v ∧ Q v H
theorem get_list {X : Cx} {K : PySem.W.Frag} (hK : X.K = K) : PGet X (rGetL K) := by
  subst hK
  rintro pins s σ H o i ov iv Q I ro ri ⟨p, xs, j, v, rfl, rfl, hs, hv, q⟩
  cases ro
  obtain ⟨t, rfl⟩ := ri
  obtain ⟨its, r, pl, hz⟩ := I.list hs
  obtain ⟨u, hu, ru⟩ := r.get hv
  have hl := r.length
  have hn := line63
  have hj : j < xs.length := (List.getElem?_eq_some_iff.mp hv).1
  exact PySem.wpAny_getItem_list pl.isList (by omega) (by omega) (by simpa using hu) ⟨v, H, I, ru, q⟩
section
variable {K : PySem.W.Frag} {σ : L2.St} {G H : Hp} {Q : VK} {D : Ends} {to ti te : TE} {p : Addr} {L : List PyData} {d : PyData} {i j : Int}
theorem g_augS {tget : V → V → Hp → VK → Prop} {tip : TIp} {tset : TSet} (q : to σ H fun o H1 => ti σ H1 fun i H2 => tget o i H2 fun x H3 => te σ H3 fun y H4 => tip x y H4 fun z H5 => tset o i z H5 fun H6 => D.nx σ H6) : tAugS to ti te tget tip tset D σ H := q
theorem g_getLs {k : Nat} (r : LstAt K p G H L) (hi : L[k]? = some d) (hj : i = (k : Int)) (q : ∀ v, Dp K G v d → Q v H) : rGetL K (.ref p) (.int i) H Q := by
  obtain ⟨xs, h, g, da⟩ := r
  obtain ⟨v, hv, dv⟩ := dpAll_get da hi
  subst hj
  exact ⟨p, xs, k, v, rfl, rfl, .of h, hv, q v dv⟩
theorem g_ipI {f : Int → Int → Int} (q : Q (.int (f i j)) H) : ipI f (.int i) (.int j) H Q := ⟨i, j, rfl, rfl, q⟩
theorem g_au {i : Nat} {te : TE} {tip : TIp} {x : V} (hx : σ[i]? = some (some x)) (q : te σ H fun y H1 => tip x y H1 fun z H2 => D.nx (σ.set i (some z)) H2) : tAug i te tip D σ H := ⟨x, hx, q⟩
end
/-! ### sorted(a dict of ints), d.get(k), d.get(k, x) -/
def rSrtDI : List V → Hp → VK → Prop := fun xs H Q => ∃ (a : Addr) (kvs : List (Key × V)) (ks : List Int), xs = [.ref a] ∧ H a = some (.dK kvs) ∧ kvs.map (·.1) = ks.map Sum.inl ∧ ks.length < 64 ∧ ∀ (ys : List Int) (p : Addr), ys.Perm ks → ys.Pairwise (· ≤ ·) → H p = none → Q (.ref p) (upd H p (.lst (ys.map V.int)))
theorem call_srtDI {X : Cx} (hc : X.calm = true) : CallR X (.builtin "sorted") rSrtDI := fun pins s σ H xs us Q I r ⟨a, kvs, ks, e, h, q⟩ => call_sortedDI hc pins s σ H xs us Q I r ⟨a, kvs, ks, e, .inl h, q⟩
def DG1W (ty : TE) (σ : L2.St) (Q : VK) (x : V) (H1 : Hp) : Prop := ∃ a, x = .ref a ∧ IsD H1 a ∧ ty σ H1 fun y H2 => ∃ o, DGet H2 a y o ∧ Q (o.getD .non) H2
def DG2W (ty tx : TE) (σ : L2.St) (Q : VK) (x : V) (H1 : Hp) : Prop := ∃ a, x = .ref a ∧ IsD H1 a ∧ ty σ H1 fun y H2 => tx σ H2 fun z H3 => ∃ o, DGet H3 a y o ∧ Q (o.getD z) H3
section
variable {K : PySem.W.Frag} {σ : L2.St} {G H : Hp} {Q : VK} {td ty tx : TE} {d : Addr} {md : List (Key × PyData)} {k : Key} {y z : V}
theorem g_dg1 (q : td σ H fun x H1 => DG1W ty σ Q x H1) : tDGet1 td ty σ H Q := q
theorem g_dg2 (q : td σ H fun x H1 => DG2W ty tx σ Q x H1) : tDGet2 td ty tx σ H Q := q
theorem g_dg1W (r : DctAt K d G H md) (q : ty σ H fun y H2 => ∃ o, DGet H2 d y o ∧ Q (o.getD .non) H2) : DG1W ty σ Q (.ref d) H := by
  obtain ⟨kvs, h, _⟩ := r
  exact ⟨d, rfl, .inl ⟨kvs, .inl h⟩, q⟩
theorem g_dg2W (r : DctAt K d G H md) (q : ty σ H fun y H2 => tx σ H2 fun z H3 => ∃ o, DGet H3 d y o ∧ Q (o.getD z) H3) : DG2W ty tx σ Q (.ref d) H := by
  obtain ⟨kvs, h, _⟩ := r
  exact ⟨d, rfl, .inl ⟨kvs, .inl h⟩, q⟩
theorem g_dgR {z : V} (r : DctAt K d G H md) (hk : y = kV k) (q1 : ∀ x v, gtM md k = some x → Dp K G v x → Q v H) (q2 : gtM md k = none → Q z H) : ∃ o, DGet H d y o ∧ Q (o.getD z) H := by
  obtain ⟨kvs, h, g, he, dd⟩ := r
  refine ⟨valV kvs k, .inl ⟨kvs, k, .inl h, hk, rfl⟩, ?_⟩
  cases hg : gtM md k with
  | none =>
    rw [(gt_rel k he dd).2 hg]
    exact q2 hg
  | some x =>
    obtain ⟨v, hv, dv⟩ := (gt_rel k he dd).1 x hg
    rw [hv]
    exact q1 x v hg dv
theorem g_dgO {P : Option V → Prop} (r : DctAt K d G H md) (hk : y = kV k) (q1 : ∀ x v, gtM md k = some x → Dp K G v x → P (some v)) (q2 : gtM md k = none → P none) : ∃ o, DGet H d y o ∧ P o := by
  obtain ⟨kvs, h, g, he, dd⟩ := r
  refine ⟨valV kvs k, .inl ⟨kvs, k, .inl h, hk, rfl⟩, ?_⟩
  cases hg : gtM md k with
  | none =>
    rw [(gt_rel k he dd).2 hg]
    exact q2 hg
  | some x =>
    obtain ⟨v, hv, dv⟩ := (gt_rel k he dd).1 x hg
    rw [hv]
    exact q1 x v hg dv
end
section
variable {K : PySem.W.Frag} {G H : Hp} {Q : VK} {p : Addr} {L : List PyData} {v : V} {d : PyData} {M : List Addr} {G' H' : Hp}
/-- xs.pop() -/
theorem g_popLs (e : Ex G H) (r : LstAt K p G H (L ++ [d])) (q : ∀ v H', Dp K G v d → Nx [p] G H G H' → LstAt K p G H' L → Q v H') : rPop (.ref p) [] H Q := by
  obtain ⟨xs, h, g, da⟩ := r
  have hl := dpAll_len da
  rw [List.length_append, List.length_singleton] at hl
  obtain ⟨v, hv, dv⟩ := dpAll_get da (i := L.length) (d := d) (by simp)
  refine ⟨p, xs, v, rfl, rfl, h, by rw [hl]; simpa using hv, q v _ dv (Nx.set e g (by simp)) ⟨_, upd_same, g, ?_⟩⟩
  have := dpAll_take L.length da
  rw [List.take_left] at this
  rw [List.dropLast_eq_take, hl]
  simpa using this
theorem LsV.go (r : LsV K v G H L) (n : Nx M G H G' H') (hM : ∀ q ∈ M, v ≠ .ref q) : LsV K v G' H' L := by
  obtain ⟨p, rfl, r | r⟩ := r
  · exact ⟨p, rfl, .inl (r.go n fun z => hM p z rfl)⟩
  · exact ⟨p, rfl, .inr (dp_mono n.gg r)⟩
theorem g_lenV (e : Ex G H) (r : LsV K v G H L) (q : Q (.int (L.length : Int)) H) : rLen K [v] H Q := by
  obtain ⟨p, rfl, r | r⟩ := r
  · exact g_lenLs r q
  · exact g_lenL e r q
theorem g_ixV {i : Int} {k : Nat} (e : Ex G H) (r : LsV K v G H L) (hi : L[k]? = some d) (hj : i = (k : Int)) (q : ∀ v, Dp K G v d → Q v H) : rIxL K v (.int i) H Q := by
  obtain ⟨p, rfl, r | r⟩ := r
  · exact g_ixLs r hi hj q
  · exact g_ixL e r hi hj q
theorem g_walkVv {P : Addr → Prop} (e : Ex G H) (r : LsV K v G H L) (q : ∀ p, v = .ref p → (∀ M, (∀ q ∈ M, v ≠ .ref q) → Src K M (Itl K p) G H L) → P p) : ∃ b, v = .ref b ∧ (∃ xs, SqL K H b xs) ∧ P b := by
  obtain ⟨p, rfl, r | r⟩ := r
  · exact g_walkLs r fun S => q p rfl fun M hM => S M fun z => hM p z rfl
  · obtain ⟨a, xs, ea, hs, hd⟩ := dp_lst r
    cases ea
    exact ⟨p, rfl, ⟨xs, e.seqL hs⟩, q p rfl fun M _ => src_lst hs hd⟩
theorem g_walkEv {P : Addr → Prop} (e : Ex G H) (r : LsV K v G H L) (q : ∀ p, v = .ref p → (∀ M, (∀ q ∈ M, v ≠ .ref q) → Src K M (Ite K p) G H (prs 0 L)) → P p) : ∃ a xs, [v] = [V.ref a] ∧ SqL K H a xs ∧ P a := by
  obtain ⟨p, rfl, r | r⟩ := r
  · exact g_walkEs r fun S => q p rfl fun M hM => S M fun z => hM p z rfl
  · exact g_walkE e r fun a ea S => by cases ea; exact q p rfl fun M _ => S M
theorem g_walkVv0 {G0 H0 : Hp} {P : Addr → Prop} (r : LsV K v G0 H0 L) (n : Nx [] G0 H0 G H) (q : ∀ p, v = .ref p → (∀ M, (∀ q ∈ M, H0 q = none ∨ v ≠ .ref q) → Src K M (Itl K p) G H L) → P p) : ∃ b, v = .ref b ∧ (∃ xs, SqL K H b xs) ∧ P b := by
  obtain ⟨p, rfl, r | r⟩ := r
  · exact g_walkLs (r.go n (by simp)) fun S => q p rfl fun M hM => S M fun z => by
      rcases hM p z with h | h
      · exact r.live h
      · exact h rfl
  · obtain ⟨a, xs, ea, hs, hd⟩ := dp_lst (dp_mono n.gg r)
    cases ea
    exact ⟨p, rfl, ⟨xs, n.gh.seqL hs⟩, q p rfl fun M _ => src_lst hs hd⟩
theorem g_walkEv0 {G0 H0 : Hp} {P : Addr → Prop} (r : LsV K v G0 H0 L) (n : Nx [] G0 H0 G H) (q : ∀ p, v = .ref p → (∀ M, (∀ q ∈ M, H0 q = none ∨ v ≠ .ref q) → Src K M (Ite K p) G H (prs 0 L)) → P p) : ∃ a xs, [v] = [V.ref a] ∧ SqL K H a xs ∧ P a := by
  obtain ⟨p, rfl, r | r⟩ := r
  · exact g_walkEs (r.go n (by simp)) fun S => q p rfl fun M hM => S M fun z => by
      rcases hM p z with h | h
      · exact r.live h
      · exact h rfl
  · exact g_walkE n.gh (dp_mono n.gg r) fun a ea S => by cases ea; exact q p rfl fun M _ => S M
theorem g_listV (e : Ex G H) (r : LsV K v G H L) (q : ∀ p H', Nx [] G H G H' → H p = none → LstAt K p G H' L → Q (.ref p) H') : rListOf K [v] H Q := by
  obtain ⟨p, rfl, r | r⟩ := r
  · exact g_listL e r q
  · exact g_listM e r q
end
end Y
namespace Y
open PySem PySem.Spec PyProof.Rows L2
/-- a comprehension over told items or others; the list that is made stands meanwhile -/
theorem g_lcQ {K : PySem.W.Frag} {σ : L2.St} {G H : Hp} {Q : VK} {te : TE} {tt : TT} {g : TG} {J : It} {M : List Addr} {A : Addr} {n : Nat} {P : Nat → Hp → V → Prop} {js : List Nat} (S : SrcP M J G H n P) (e : Ex G H) (hA : H A = none) (hM : ∀ b ∈ M, H b ≠ none) (hz : n < sizeLine) (Jv : Nat → List V → Hp → Hp → Prop)
    (jA : ∀ i acc G' H' o, (H' A = none ∨ ∃ ys, H' A = some (.lst ys)) → Jv i acc G' H' → Jv i acc G' (upd H' A o)) (jN : ∀ i acc G' H' G1 H1, Nx [] G' H' G1 H1 → Jv i acc G' H' → Jv i acc G1 H1) (j0 : Jv 0 [] G H)
    (hs : ∀ i v acc G' H', i < n → P i G' v → Nx M G H G' H' → H' A ≠ none → acc.length ≤ i → Jv i acc G' H' → ∀ (QE : VK) (QN : Hp → Prop),
      (∀ y G4 H4, Nx M G' H' G4 H4 → Jv (i + 1) (acc ++ [y]) G4 H4 → QE y H4) → (∀ G3 H3, Nx M G' H' G3 H3 → Jv (i + 1) acc G3 H3 → QN H3) →
      g v (wipe σ js) H' fun σ2 H2 => wipe σ2 js = wipe σ js ∧ tt σ2 H2 fun b H3 => if b = true then te σ2 H3 QE else QN H3)
    (hd : ∀ G' H' ys, Jv n ys G' H' → Nx M G H G' H' → G' A = none → H' A = some (.lst ys) → ys.length ≤ n → Q (.ref A) H') : LcW J g tt te js σ A Q H := by
  have st0 : Nx [] G H G (upd H A (.lst [])) := Nx.own e hA
  have hAM : A ∉ M := fun z => hM A z hA
  refine ⟨fun i m H' => m = n - i ∧ i ≤ n ∧ ∃ G' ys, Nx M G H G' H' ∧ G' A = none ∧ H' A = some (.lst ys) ∧ ys.length ≤ i ∧ Jv i ys G' H',
    ⟨n, by simp, Nat.zero_le _, G, [], st0.pure, e.free hA, upd_same, Nat.le_refl _, jA _ _ _ _ _ (.inl hA) j0⟩, ?_⟩
  rintro i m H' ⟨rfl, hi, G', ys, nx, gA, hys, hl, jv⟩
  by_cases hlt : i < n
  · refine .inr ⟨S.go i G' H' nx hlt, fun H'' => ∃ G'' ys, Nx M G H G'' H'' ∧ G'' A = none ∧ H'' A = some (.lst ys) ∧ ys.length ≤ i + 1 ∧ Jv (i + 1) ys G'' H'',
      fun H'' ⟨G'', ys', r⟩ => ⟨n - (i + 1), by omega, rfl, hlt, G'', ys', r⟩, fun v H1 y => ?_⟩
    obtain ⟨G1, n1, d1⟩ := S.yld i G' H' v H1 nx hlt y
    have n2 : Nx M G H G1 H1 := nx.trans n1.pure
    have gA1 : G1 A = none := n1.old A gA ⟨_, hys, fun _ z => nomatch z⟩
    have hys1 : H1 A = some (.lst ys) := n1.fr A _ (by simp) hys
    refine hs i v ys G1 H1 hlt d1 n2 (by rw [hys1]; exact fun z => nomatch z) hl (jN _ _ _ _ _ _ n1 jv) _ _ (fun y G4 H4 n4 jv' => ?_) (fun G3 H3 n3 jv' => ?_)
    · have gA4 : G4 A = none := n4.old A gA1 ⟨_, hys1, fun _ z => nomatch z⟩
      have hys4 : H4 A = some (.lst ys) := n4.fr A _ hAM hys1
      have n5 : Nx M G H G4 H4 := n2.trans n4
      have n6 : Nx [A] G4 H4 G4 (upd H4 A (.lst (ys ++ [y]))) := Nx.set n4.gh gA4 (by simp)
      have n7 : Nx (A :: M) G H G4 (upd H4 A (.lst (ys ++ [y]))) := (n5.mono fun _ z => List.mem_cons_of_mem _ z).trans (n6.mono fun b z => by simp at z; simp [z])
      exact ⟨ys, hys4, by omega, G4, ys ++ [y], n7.drop hA, gA4, upd_same, by simp; omega, jA _ _ _ _ _ (.inr ⟨_, hys4⟩) jv'⟩
    · exact ⟨G3, ys, n2.trans n3, n3.old A gA1 ⟨_, hys1, fun _ z => nomatch z⟩, n3.fr A _ hAM hys1, by omega, jv'⟩
  · have e' : i = n := by omega
    subst e'
    exact .inl ⟨S.stop _ G' H' nx (Nat.le_refl _), hd G' H' ys jv nx gA hys hl⟩
end Y
namespace Y
open PySem PySem.Spec PyProof.Rows L2
/-! ### zip of two lists, known or standing -/
def Seen (K : PySem.W.Frag) (M : List Addr) (G H : Hp) (v : V) (L : List PyData) : Prop := ∃ a xs, v = .ref a ∧ DpAll K G xs L ∧ ∀ G' H', Nx M G H G' H' → SqL K H' a xs
def zpD (L1 L2 : List PyData) : List PyData := (L1.zip L2).map fun p => .tuple [p.1, p.2]
section
variable {K : PySem.W.Frag} {G H G0 H0 : Hp} {L L1 L2 : List PyData} {v w : V} {M : List Addr}
theorem LsV.seen (r : LsV K v G0 H0 L) (n : Nx [] G0 H0 G H) (hM : ∀ q ∈ M, H0 q = none ∨ v ≠ .ref q) : Seen K M G H v L := by
  obtain ⟨p, rfl, r | r⟩ := r
  · obtain ⟨xs, h, g, d⟩ := r.go n (by simp)
    refine ⟨p, xs, rfl, d, fun G' H' n' => .of (n'.fr p _ (fun z => ?_) h)⟩
    rcases hM p z with q | q
    · exact r.live q
    · exact q rfl
  · obtain ⟨a, xs, ea, hs, hd⟩ := dp_lst (dp_mono n.gg r)
    cases ea
    exact ⟨p, xs, rfl, hd, fun G' H' n' => n'.gh.seqL (n'.gg.seqL hs)⟩
theorem g_walkZ {P : Addr → Addr → Prop} (e : Ex G H) (s1 : Seen K M G H v L1) (s2 : Seen K M G H w L2) (q : ∀ a b, Src K M (Itz K a b) G H (zpD L1 L2) → P a b) : ∃ a b xs ys, [v, w] = [V.ref a, V.ref b] ∧ SqL K H a xs ∧ SqL K H b ys ∧ P a b := by
  obtain ⟨a, xs, rfl, d1, f1⟩ := s1
  obtain ⟨b, ys, rfl, d2, f2⟩ := s2
  have l1 := dpAll_len d1
  have l2 := dpAll_len d2
  refine ⟨a, b, xs, ys, rfl, f1 _ _ (Nx.refl e), f2 _ _ (Nx.refl e), q a b ⟨fun i G' H' n hi => ?_, fun i G' H' n hi => ?_, fun i d G' H' x H'' n hi y => ?_⟩⟩
  · simp only [zpD, List.length_map, List.length_zip] at hi
    exact ⟨xs, ys, xs[i]'(by omega), ys[i]'(by omega), f1 _ _ n, f2 _ _ n, by simp, by simp⟩
  · simp only [zpD, List.length_map, List.length_zip] at hi
    refine ⟨xs, ys, f1 _ _ n, f2 _ _ n, ?_⟩
    rw [l1, l2]
    exact (by omega : L1.length ≤ i ∨ L2.length ≤ i)
  · obtain ⟨T, x1, y1, rfl, hT, rfl, g1, g2⟩ := y
    have hx := g1 _ (f1 _ _ n)
    have hy := g2 _ (f2 _ _ n)
    unfold zpD at hi
    rw [List.getElem?_map] at hi
    obtain ⟨⟨a1, b1⟩, hz, rfl⟩ := Option.map_eq_some_iff.mp hi
    obtain ⟨h1, h2⟩ := List.getElem?_zip_eq_some.mp hz
    obtain ⟨v1, hv1, dv1⟩ := dpAll_get d1 h1
    obtain ⟨v2, hv2, dv2⟩ := dpAll_get d2 h2
    rw [hx] at hv1
    rw [hy] at hv2
    cases hv1
    cases hv2
    have h2 := nx_tup (K := K) n.gh (xs := [x1, y1]) (ds := [a1, b1]) (.cons (dp_mono n.gg dv1) (.cons (dp_mono n.gg dv2) .nil)) hT
    exact ⟨_, h2.1, h2.2⟩
end
end Y
namespace Y
open PySem PySem.Spec PyProof.Rows L2
/-! ### ints of a list -/
theorem g_iZip {K : PySem.W.Frag} {ta : TA} {σ : L2.St} {H : Hp} {R : It → Hp → Prop} (q : ta σ H fun vs H1 => ∃ a b xs ys, vs = [.ref a, .ref b] ∧ SqL K H1 a xs ∧ SqL K H1 b ys ∧ R (Itz K a b) H1) : iZip K ta σ H R := q
theorem LstAt.ints {K : PySem.W.Frag} {p : Addr} {G H : Hp} {ns : List Int} (r : LstAt K p G H (ns.map .int)) : H p = some (.lst (ns.map V.int)) := by
  obtain ⟨vs, h, _, d⟩ := r
  rw [h, dpAll_ints_inv d]
theorem LsV.ints {K : PySem.W.Frag} {v : V} {G H : Hp} {ns : List Int} (r : LsV K v G H (ns.map .int)) (e : Ex G H) : ∃ p, v = .ref p ∧ SqL K H p (ns.map V.int) := by
  obtain ⟨p, rfl, r | r⟩ := r
  · exact ⟨p, rfl, .of r.ints⟩
  · obtain ⟨a, xs, ea, hs, hd⟩ := dp_lst r
    cases ea
    rw [← dpAll_ints_inv hd]
    exact ⟨p, rfl, e.seqL hs⟩
theorem inV_int {ns : List Int} {i : Int} : inV (.int i) (ns.map V.int) = decide (i ∈ ns) := by
  show (ns.map V.int).any (fun y => eqV y (.int i)) = _
  rw [List.any_map, Bool.eq_iff_iff, List.any_eq_true, decide_eq_true_eq]
  constructor
  · rintro ⟨x, hx, hx2⟩
    have : x = i := eq_of_beq hx2
    exact this ▸ hx
  · intro hx
    exact ⟨i, hx, beq_self_eq_true i⟩
theorem g_inIF {K : PySem.W.Frag} {G H : Hp} {Q : VK} {v : V} {ns : List Int} {i : Int} (e : Ex G H) (r : LsV K v G H (ns.map .int)) (q : Q (.bl (decide (i ∈ ns))) H) : rIn K false (.int i) v H Q := by
  obtain ⟨p, rfl, h⟩ := r.ints e
  refine ⟨p, _, rfl, .inl h, rfl, ?_, ?_⟩
  · rw [List.all_map]
    exact List.all_eq_true.mpr fun _ _ => rfl
  · rw [inV_int]
    exact q
theorem g_inIT {K : PySem.W.Frag} {G H : Hp} {Q : VK} {v : V} {ns : List Int} {i : Int} (e : Ex G H) (r : LsV K v G H (ns.map .int)) (q : Q (.bl (!decide (i ∈ ns))) H) : rIn K true (.int i) v H Q := by
  obtain ⟨p, rfl, h⟩ := r.ints e
  refine ⟨p, _, rfl, .inl h, rfl, ?_, ?_⟩
  · rw [List.all_map]
    exact List.all_eq_true.mpr fun _ _ => rfl
  · rw [inV_int]
    exact q
end Y
namespace Y
open PySem PySem.Spec PyProof.Rows L2
/-! ### x is True, x is False, whatever x is -/
def rIsA : R2 := fun x y H Q => ∃ b : Bool, y = .bl b ∧ Q (.bl (decide (x = .bl b))) H
def rNotA : R2 := fun x y H Q => ∃ b : Bool, y = .bl b ∧ Q (.bl (!decide (x = .bl b))) H
theorem same_bl {X : Cx} {M : Model} {A : Around} {E : Value → Shared → Prop} {s : Shared} {x : V} {u : Value} {b : Bool} {R : Bool → Shared → Prop} (r : RelV x u) (q : R (decide (x = .bl b)) s) : wpAny M A (isSame u (.bool b)) R E s := by
  have other : x ≠ .bl b → plainIs u (.bool b) = true → (u == Value.bool b) = false → wpAny M A (isSame u (.bool b)) R E s := fun hn h1 h2 => wpAny_isSame_plain h1 (by rw [h2]; rw [decide_eq_false hn] at q; exact q)
  cases x with
  | bl c =>
    cases (show u = Value.bool c from r)
    refine wpAny_isSame_plain rfl ?_
    have e : (Value.bool c == Value.bool b) = decide (V.bl c = V.bl b) := by cases c <;> cases b <;> rfl
    rw [e]
    exact q
  | ref a => cases r; exact other (fun z => nomatch z) rfl rfl
  | non => cases r; exact other (fun z => nomatch z) rfl rfl
  | int i => obtain ⟨t, rfl⟩ := r; exact other (fun z => nomatch z) rfl rfl
  | str x => obtain ⟨t, rfl⟩ := r; exact other (fun z => nomatch z) rfl rfl
  | byt x => obtain ⟨t, rfl⟩ := r; exact other (fun z => nomatch z) rfl rfl
  | flt x => obtain ⟨t, rfl⟩ := r; exact other (fun z => nomatch z) rfl rfl
  | ty n => cases r; exact other (fun z => nomatch z) rfl rfl
theorem op_isA {X : Cx} : OpR X (compareOp .Is) rIsA := by
  intro pins s σ H x y v u Q I rx ry h
  obtain ⟨b, rfl, q⟩ := h
  cases (show u = Value.bool b from ry)
  exact wpAny_bind (same_bl (X := X) rx (wpAny_pure (fin_bl I q rfl)))
theorem g_isA {x : V} {b : Bool} {H : Hp} {Q : VK} (q : Q (.bl (decide (x = .bl b))) H) : rIsA x (.bl b) H Q := ⟨b, rfl, q⟩
end Y
namespace Y
open PySem PySem.Spec PyProof.Rows L2
/-! ### sorted of texts: of a dict, of a list; the order is one -/
def rSrtDS : List V → Hp → VK → Prop := fun xs H Q => ∃ (a : Addr) (kvs : List (Key × V)) (ks : List Str), xs = [.ref a] ∧ H a = some (.dK kvs) ∧ kvs.map (·.1) = ks.map Sum.inr ∧ ks.length < 64 ∧ ∀ (ys : List Str) (p : Addr), ys.Perm ks → sortedS ys = true → H p = none → Q (.ref p) (upd H p (.lst (ys.map V.str)))
theorem call_srtDS {X : Cx} (hc : X.calm = true) : CallR X (.builtin "sorted") rSrtDS := fun pins s σ H xs us Q I r ⟨a, kvs, ks, e, h, q⟩ => call_sortedD hc pins s σ H xs us Q I r ⟨a, kvs, ks, e, .inl h, q⟩
theorem cr_sortedSK {X : Cx} {K : PySem.W.Frag} (h : X.K = K) : CallR X (.builtin "sorted") (rSortedS K) := h ▸ cr_sortedS
theorem rising_le : ∀ (p : Str) (l : List Str), risingS p l = true → (p :: l).Pairwise fun a b => a.cps.toList ≤ b.cps.toList
  | p, [], _ => by simp
  | p, x :: r, h => by
    have h0 : (!ltCps x.cps.toList p.cps.toList && risingS x r) = true := h
    rw [Bool.and_eq_true, Bool.not_eq_true', ltCps_eq, decide_eq_false_iff_not] at h0
    have ih := rising_le x r h0.2
    have hpx : p.cps.toList ≤ x.cps.toList := h0.1
    refine List.pairwise_cons.mpr ⟨fun y hy => ?_, ih⟩
    rcases List.mem_cons.mp hy with rfl | hy
    · exact hpx
    · exact List.le_trans hpx ((List.pairwise_cons.mp ih).1 y hy)
theorem sorted_le : ∀ (l : List Str), sortedS l = true → l.Pairwise fun a b => a.cps.toList ≤ b.cps.toList
  | [], _ => .nil
  | x :: r, h => rising_le x r h
theorem sorted_one {xs ys : List Str} (h : xs.Perm ys) (hx : sortedS xs = true) (hy : sortedS ys = true) : xs = ys :=
  List.Perm.eq_of_pairwise (fun a b _ _ h1 h2 => by
    have e := List.le_antisymm h1 h2
    obtain ⟨⟨a⟩⟩ := a
    obtain ⟨⟨b⟩⟩ := b
    exact congrArg (fun l => Str.mk ⟨l⟩) e) (sorted_le _ hx) (sorted_le _ hy) h
end Y

local macro_rules | `(tactic| walk_at "dp") => `(tactic| (first | assumption | exact L2.Dp.non | exact L2.Dp.bl _ | exact L2.Dp.int _ | exact L2.Dp.str _ | (refine Y.dp_mono (Y.Nx.gg (by assumption)) ?_; walk_at "dp")))
local macro_rules | `(tactic| walk_at "isi") => `(tactic| first
  | refine Y.g_isi (b := true) (by assumption) (by walk_at "dp") (by rfl) ?_
  | refine Y.g_isi (b := false) (by assumption) (by walk_at "dp") (by rfl) ?_)
local macro_rules | `(tactic| walk_at "s1") => `(tactic| (with_reducible first
  | exact Y.g_test ?_ | fail))
local macro_rules | `(tactic| walk_at "sx") => `(tactic| repeat' (first
  | ((with_reducible apply Y.g_var); focus (exact rfl))
  | (with_reducible first
      | refine Y.g_seq ?_ | refine Y.g_asg ?_ | refine Y.g_name ?_ | refine Y.g_ret ?_ | refine Y.g_drop ?_ | refine Y.g_next ?_ | refine Y.g_ifS ?_ | refine Y.g_ifE ?_
      | refine Y.g_c ?_ | refine Y.g_nil ?_ | refine Y.g_cons ?_ | refine Y.g_op ?_ | refine Y.g_un ?_ | refine Y.g_cb ?_ | refine Y.g_call ?_ | refine Y.g_call1 ?_ | refine Y.g_callS ?_
      | refine Y.g_test ?_ | refine Y.g_tB ?_ | refine Y.g_isbl ?_ | refine Y.g_and ?_ | refine Y.g_or ?_ | refine Y.g_not ?_ | refine Y.g_andV ?_ | refine Y.g_orV ?_ | refine Y.g_notV ?_
      | refine Y.g_chain ?_ | refine Y.g_isN ?_ | refine Y.g_notN ?_ | refine Y.g_I0 ?_ | refine Y.g_U ?_ | refine Y.g_eqII ?_ | refine Y.g_eqSS ?_ | refine Y.g_neII ?_ | refine Y.g_neSS ?_
      | refine Y.g_iT ?_ | refine Y.g_iF ?_ | refine Y.g_inT ?_ | refine Y.g_inF ?_ | refine Y.g_retN ?_
      | refine Y.g_tup ?_ | refine Y.g_lst ?_ | refine Y.g_bm ?_ | refine Y.g_bm0 ?_ | refine Y.g_yes ?_ | refine Y.g_sub ?_ | refine Y.g_sl ?_ | refine Y.g_noPart ?_ | refine Y.g_part ?_ | refine Y.g_isint ?_ | refine Y.g_for ?_ | refine Y.g_lc ?_ | refine Y.g_iTup ?_ | refine Y.g_iList ?_ | refine Y.g_iStr ?_ | refine Y.g_iRng1 ?_ | refine Y.g_iRng2 ?_ | refine Y.g_iEnum ?_ | refine Y.g_iEnT ?_
      | refine Y.g_meth ?_ | refine Y.g_methS ?_ | refine Y.g_fld ?_ | refine Y.g_sfd ?_ | refine Y.g_din ?_ | refine Y.g_dni ?_ | refine Y.g_dge ?_ | refine Y.g_dpu ?_ | refine Y.g_dde ?_ | refine Y.g_lvs ?_
      | refine Y.g_del ?_ | refine Y.g_abs ?_ | refine Y.g_int1 ?_ | refine Y.g_m1 ?_ | refine Y.g_dc ?_ | refine Y.g_disp ?_ | refine Y.g_pair ?_ | refine Y.g_pair0 ?_ | refine Y.g_tru ?_ | refine Y.g_cont ?_ | refine Y.g_brk ?_ | refine Y.g_isS ?_ | refine Y.g_fs ?_ | refine Y.g_js ?_ | refine Y.g_js0 ?_ | refine Y.g_fmt ?_ | refine Y.g_star ?_ | refine Y.g_inSign ?_ | refine Y.g_isB ?_ | refine Y.g_notB ?_ | refine Y.g_lrev ?_ | refine Y.g_augS ?_ | refine Y.g_ipI ?_ | refine Y.g_dg1 ?_ | refine Y.g_dg2 ?_ | refine Y.g_iZip ?_)))
local macro_rules | `(tactic| walk_at "len") => `(tactic| first | refine Y.g_lenT (by assumption) (by walk_at "dp") ?_ | refine Y.g_lenL (by assumption) (by walk_at "dp") ?_)
local macro_rules | `(tactic| walk_at "ix0") => `(tactic| first | refine Y.g_ixT (k := 0) (by assumption) (by walk_at "dp") (by rfl) (by rfl) ?_ | refine Y.g_ixL (k := 0) (by assumption) (by walk_at "dp") (by rfl) (by rfl) ?_)
local macro_rules | `(tactic| walk_at "ix1") => `(tactic| first | refine Y.g_ixT (k := 1) (by assumption) (by walk_at "dp") (by rfl) (by rfl) ?_ | refine Y.g_ixL (k := 1) (by assumption) (by walk_at "dp") (by rfl) (by rfl) ?_)
local macro_rules | `(tactic| walk_at "ix2") => `(tactic| first | refine Y.g_ixT (k := 2) (by assumption) (by walk_at "dp") (by rfl) (by rfl) ?_ | refine Y.g_ixL (k := 2) (by assumption) (by walk_at "dp") (by rfl) (by rfl) ?_)
local macro_rules | `(tactic| walk_at "da") => `(tactic| (repeat (first | exact L2.DpAll.nil | refine L2.DpAll.cons (by walk_at "dp") ?_)))

namespace A
open PySem PySem.Spec PyProof.Rows L2 Y
section
variable {P : Program} {w : World} {K : PySem.W.Frag} {mg : Str → Option Value} {base : Heap}
theorem ex_Clashing (T : Tx fa fn bx K mg) : ExC K (He.ga K "Clashing") "name" := exB_ok (Y.all_at T.more 0 rfl)
theorem ex_Misused (T : Tx fa fn bx K mg) : ExC K (He.ga K "Misused") "why" := exB_ok (Y.all_at T.more 1 rfl)
theorem ex_Oversized (T : Tx fa fn bx K mg) : ExC K (He.ga K "Oversized") "limit" := exB_ok (Y.all_at T.more 2 rfl)
theorem ex_Unknown (T : Tx fa fn bx K mg) : ExC K (He.ga K "Unknown") "name" := exB_ok (Y.all_at T.more 3 rfl)
theorem tup_ORIGIN (T : Tx fa fn bx K mg) : Y.tupB K (He.ga K "ORIGIN") [(0), (0), (0)] = true := Y.all_at T.more 4 rfl
theorem F_is_whole (T : Tx fa fn bx K mg) : FunD K "is_whole" "is_whole" (defArgs s_is_whole) (defBody s_is_whole) (defScope s_is_whole) [] [] (He.ga K "is_whole") (fdOf K (He.ga K "is_whole")) := T.fn 0 rfl
theorem cal_is_whole (T : Tx fa fn bx K mg) : Cal K mg "is_whole" ["value"] := ⟨T.glo 41, (F_is_whole T).kp, (F_is_whole T).bindsN fun _ _ _ _ _ _ us hl => match us, hl with | [_], _ => rfl⟩
theorem F_is_within (T : Tx fa fn bx K mg) : FunD K "is_within" "is_within" (defArgs s_is_within) (defBody s_is_within) (defScope s_is_within) [] [] (He.ga K "is_within") (fdOf K (He.ga K "is_within")) := T.fn 1 rfl
theorem cal_is_within (T : Tx fa fn bx K mg) : Cal K mg "is_within" ["value", "least", "greatest"] := ⟨T.glo 42, (F_is_within T).kp, (F_is_within T).bindsN fun _ _ _ _ _ _ us hl => match us, hl with | [_, _, _], _ => rfl⟩
theorem F_is_reading (T : Tx fa fn bx K mg) : FunD K "is_reading" "is_reading" (defArgs s_is_reading) (defBody s_is_reading) (defScope s_is_reading) [] [] (He.ga K "is_reading") (fdOf K (He.ga K "is_reading")) := T.fn 2 rfl
theorem cal_is_reading (T : Tx fa fn bx K mg) : Cal K mg "is_reading" ["value"] := ⟨T.glo 43, (F_is_reading T).kp, (F_is_reading T).bindsN fun _ _ _ _ _ _ us hl => match us, hl with | [_], _ => rfl⟩
theorem F__is_row (T : Tx fa fn bx K mg) : FunD K "_is_row" "_is_row" (defArgs s__is_row) (defBody s__is_row) (defScope s__is_row) [] [] (He.ga K "_is_row") (fdOf K (He.ga K "_is_row")) := T.fn 3 rfl
theorem cal__is_row (T : Tx fa fn bx K mg) : Cal K mg "_is_row" ["value"] := ⟨T.glo 44, (F__is_row T).kp, (F__is_row T).bindsN fun _ _ _ _ _ _ us hl => match us, hl with | [_], _ => rfl⟩
theorem F__is_rows (T : Tx fa fn bx K mg) : FunD K "_is_rows" "_is_rows" (defArgs s__is_rows) (defBody s__is_rows) (defScope s__is_rows) [] [] (He.ga K "_is_rows") (fdOf K (He.ga K "_is_rows")) := T.fn 4 rfl
theorem cal__is_rows (T : Tx fa fn bx K mg) : Cal K mg "_is_rows" ["value"] := ⟨T.glo 45, (F__is_rows T).kp, (F__is_rows T).bindsN fun _ _ _ _ _ _ us hl => match us, hl with | [_], _ => rfl⟩
theorem F_is_name (T : Tx fa fn bx K mg) : FunD K "is_name" "is_name" (defArgs s_is_name) (defBody s_is_name) (defScope s_is_name) [] [] (He.ga K "is_name") (fdOf K (He.ga K "is_name")) := T.fn 5 rfl
theorem cal_is_name (T : Tx fa fn bx K mg) : Cal K mg "is_name" ["value"] := ⟨T.glo 46, (F_is_name T).kp, (F_is_name T).bindsN fun _ _ _ _ _ _ us hl => match us, hl with | [_], _ => rfl⟩
theorem F_is_tuple_of (T : Tx fa fn bx K mg) : FunD K "is_tuple_of" "is_tuple_of" (defArgs s_is_tuple_of) (defBody s_is_tuple_of) (defScope s_is_tuple_of) [] [] (He.ga K "is_tuple_of") (fdOf K (He.ga K "is_tuple_of")) := T.fn 6 rfl
theorem cal_is_tuple_of (T : Tx fa fn bx K mg) : Cal K mg "is_tuple_of" ["value", "length"] := ⟨T.glo 47, (F_is_tuple_of T).kp, (F_is_tuple_of T).bindsN fun _ _ _ _ _ _ us hl => match us, hl with | [_, _], _ => rfl⟩
theorem F_is_view (T : Tx fa fn bx K mg) : FunD K "is_view" "is_view" (defArgs s_is_view) (defBody s_is_view) (defScope s_is_view) [] [] (He.ga K "is_view") (fdOf K (He.ga K "is_view")) := T.fn 7 rfl
theorem cal_is_view (T : Tx fa fn bx K mg) : Cal K mg "is_view" ["value"] := ⟨T.glo 48, (F_is_view T).kp, (F_is_view T).bindsN fun _ _ _ _ _ _ us hl => match us, hl with | [_], _ => rfl⟩
theorem F_is_link (T : Tx fa fn bx K mg) : FunD K "is_link" "is_link" (defArgs s_is_link) (defBody s_is_link) (defScope s_is_link) [] [] (He.ga K "is_link") (fdOf K (He.ga K "is_link")) := T.fn 8 rfl
theorem cal_is_link (T : Tx fa fn bx K mg) : Cal K mg "is_link" ["value"] := ⟨T.glo 49, (F_is_link T).kp, (F_is_link T).bindsN fun _ _ _ _ _ _ us hl => match us, hl with | [_], _ => rfl⟩
theorem F_Album___init__ (T : Tx fa fn bx K mg) : FunD K "__init__" "Album.__init__" (defArgs s_Album___init__) (defBody s_Album___init__) (defScope s_Album___init__) [] [] (He.ma K (He.ga K "Album") "__init__") (fdOf K (He.ma K (He.ga K "Album") "__init__")) := T.fn 9 rfl
theorem cal_Album___init__ (T : Tx fa fn bx K mg) : CalM K (He.ma K (He.ga K "Album") "__init__") ["self"] := ⟨(F_Album___init__ T).kp, (F_Album___init__ T).bindsN fun _ _ _ _ _ _ us hl => match us, hl with | [_], _ => rfl⟩
theorem F_Album_links (T : Tx fa fn bx K mg) : FunD K "links" "Album.links" (defArgs s_Album_links) (defBody s_Album_links) (defScope s_Album_links) [] [] (He.ma K (He.ga K "Album") "links") (fdOf K (He.ma K (He.ga K "Album") "links")) := T.fn 10 rfl
theorem cal_Album_links (T : Tx fa fn bx K mg) : CalM K (He.ma K (He.ga K "Album") "links") ["self"] := ⟨(F_Album_links T).kp, (F_Album_links T).bindsN fun _ _ _ _ _ _ us hl => match us, hl with | [_], _ => rfl⟩
theorem F_Album_names (T : Tx fa fn bx K mg) : FunD K "names" "Album.names" (defArgs s_Album_names) (defBody s_Album_names) (defScope s_Album_names) [] [] (He.ma K (He.ga K "Album") "names") (fdOf K (He.ma K (He.ga K "Album") "names")) := T.fn 11 rfl
theorem cal_Album_names (T : Tx fa fn bx K mg) : CalM K (He.ma K (He.ga K "Album") "names") ["self"] := ⟨(F_Album_names T).kp, (F_Album_names T).bindsN fun _ _ _ _ _ _ us hl => match us, hl with | [_], _ => rfl⟩
theorem F_Unknown___init__ (T : Tx fa fn bx K mg) : FunD K "__init__" "Unknown.__init__" (defArgs s_Unknown___init__) (defBody s_Unknown___init__) (defScope s_Unknown___init__) [] [] (He.ma K (He.ga K "Unknown") "__init__") (fdOf K (He.ma K (He.ga K "Unknown") "__init__")) := T.fn 12 rfl
theorem cal_Unknown___init__ (T : Tx fa fn bx K mg) : CalM K (He.ma K (He.ga K "Unknown") "__init__") ["self", "name"] := ⟨(F_Unknown___init__ T).kp, (F_Unknown___init__ T).bindsN fun _ _ _ _ _ _ us hl => match us, hl with | [_, _], _ => rfl⟩
theorem F_Album__check_known (T : Tx fa fn bx K mg) : FunD K "_check_known" "Album._check_known" (defArgs s_Album__check_known) (defBody s_Album__check_known) (defScope s_Album__check_known) [] [] (He.ma K (He.ga K "Album") "_check_known") (fdOf K (He.ma K (He.ga K "Album") "_check_known")) := T.fn 13 rfl
theorem cal_Album__check_known (T : Tx fa fn bx K mg) : CalM K (He.ma K (He.ga K "Album") "_check_known") ["self", "name"] := ⟨(F_Album__check_known T).kp, (F_Album__check_known T).bindsN fun _ _ _ _ _ _ us hl => match us, hl with | [_, _], _ => rfl⟩
theorem F_Misused___init__ (T : Tx fa fn bx K mg) : FunD K "__init__" "Misused.__init__" (defArgs s_Misused___init__) (defBody s_Misused___init__) (defScope s_Misused___init__) [] [] (He.ma K (He.ga K "Misused") "__init__") (fdOf K (He.ma K (He.ga K "Misused") "__init__")) := T.fn 14 rfl
theorem cal_Misused___init__ (T : Tx fa fn bx K mg) : CalM K (He.ma K (He.ga K "Misused") "__init__") ["self", "why"] := ⟨(F_Misused___init__ T).kp, (F_Misused___init__ T).bindsN fun _ _ _ _ _ _ us hl => match us, hl with | [_, _], _ => rfl⟩
theorem F_Oversized___init__ (T : Tx fa fn bx K mg) : FunD K "__init__" "Oversized.__init__" (defArgs s_Oversized___init__) (defBody s_Oversized___init__) (defScope s_Oversized___init__) [] [] (He.ma K (He.ga K "Oversized") "__init__") (fdOf K (He.ma K (He.ga K "Oversized") "__init__")) := T.fn 15 rfl
theorem cal_Oversized___init__ (T : Tx fa fn bx K mg) : CalM K (He.ma K (He.ga K "Oversized") "__init__") ["self", "limit"] := ⟨(F_Oversized___init__ T).kp, (F_Oversized___init__ T).bindsN fun _ _ _ _ _ _ us hl => match us, hl with | [_, _], _ => rfl⟩
theorem F_Album_add_link (T : Tx fa fn bx K mg) : FunD K "add_link" "Album.add_link" (defArgs s_Album_add_link) (defBody s_Album_add_link) (defScope s_Album_add_link) [] [] (He.ma K (He.ga K "Album") "add_link") (fdOf K (He.ma K (He.ga K "Album") "add_link")) := T.fn 16 rfl
theorem cal_Album_add_link (T : Tx fa fn bx K mg) : CalM K (He.ma K (He.ga K "Album") "add_link") ["self", "link"] := ⟨(F_Album_add_link T).kp, (F_Album_add_link T).bindsN fun _ _ _ _ _ _ us hl => match us, hl with | [_, _], _ => rfl⟩
theorem F_Clashing___init__ (T : Tx fa fn bx K mg) : FunD K "__init__" "Clashing.__init__" (defArgs s_Clashing___init__) (defBody s_Clashing___init__) (defScope s_Clashing___init__) [] [] (He.ma K (He.ga K "Clashing") "__init__") (fdOf K (He.ma K (He.ga K "Clashing") "__init__")) := T.fn 17 rfl
theorem cal_Clashing___init__ (T : Tx fa fn bx K mg) : CalM K (He.ma K (He.ga K "Clashing") "__init__") ["self", "name"] := ⟨(F_Clashing___init__ T).kp, (F_Clashing___init__ T).bindsN fun _ _ _ _ _ _ us hl => match us, hl with | [_, _], _ => rfl⟩
theorem F_Album_add_view (T : Tx fa fn bx K mg) : FunD K "add_view" "Album.add_view" (defArgs s_Album_add_view) (defBody s_Album_add_view) (defScope s_Album_add_view) [] [] (He.ma K (He.ga K "Album") "add_view") (fdOf K (He.ma K (He.ga K "Album") "add_view")) := T.fn 18 rfl
theorem cal_Album_add_view (T : Tx fa fn bx K mg) : CalM K (He.ma K (He.ga K "Album") "add_view") ["self", "view"] := ⟨(F_Album_add_view T).kp, (F_Album_add_view T).bindsN fun _ _ _ _ _ _ us hl => match us, hl with | [_, _], _ => rfl⟩
theorem F__law_wide (T : Tx fa fn bx K mg) : FunD K "_law_wide" "_law_wide" (defArgs s__law_wide) (defBody s__law_wide) (defScope s__law_wide) [] [] (He.ga K "_law_wide") (fdOf K (He.ga K "_law_wide")) := T.fn 19 rfl
theorem cal__law_wide (T : Tx fa fn bx K mg) : Cal K mg "_law_wide" ["script", "k"] := ⟨T.glo 50, (F__law_wide T).kp, (F__law_wide T).bindsN fun _ _ _ _ _ _ us hl => match us, hl with | [_, _], _ => rfl⟩
theorem F__law_take (T : Tx fa fn bx K mg) : FunD K "_law_take" "_law_take" (defArgs s__law_take) (defBody s__law_take) (defScope s__law_take) [] [] (He.ga K "_law_take") (fdOf K (He.ga K "_law_take")) := T.fn 20 rfl
theorem cal__law_take (T : Tx fa fn bx K mg) : Cal K mg "_law_take" ["pool", "most"] := ⟨T.glo 51, (F__law_take T).kp, (F__law_take T).bindsN fun _ _ _ _ _ _ us hl => match us, hl with | [_, _], _ => rfl⟩
theorem F__law_name (T : Tx fa fn bx K mg) : FunD K "_law_name" "_law_name" (defArgs s__law_name) (defBody s__law_name) (defScope s__law_name) [] [] (He.ga K "_law_name") (fdOf K (He.ga K "_law_name")) := T.fn 21 rfl
theorem cal__law_name (T : Tx fa fn bx K mg) : Cal K mg "_law_name" ["pool"] := ⟨T.glo 52, (F__law_name T).kp, (F__law_name T).bindsN fun _ _ _ _ _ _ us hl => match us, hl with | [_], _ => rfl⟩
theorem F__law_links (T : Tx fa fn bx K mg) : FunD K "_law_links" "_law_links" (defArgs s__law_links) (defBody s__law_links) (defScope s__law_links) [] [] (He.ga K "_law_links") (fdOf K (He.ga K "_law_links")) := T.fn 22 rfl
theorem cal__law_links (T : Tx fa fn bx K mg) : Cal K mg "_law_links" ["pool", "names", "many"] := ⟨T.glo 53, (F__law_links T).kp, (F__law_links T).bindsN fun _ _ _ _ _ _ us hl => match us, hl with | [_, _, _], _ => rfl⟩
theorem F__law_reading (T : Tx fa fn bx K mg) : FunD K "_law_reading" "_law_reading" (defArgs s__law_reading) (defBody s__law_reading) (defScope s__law_reading) [] [] (He.ga K "_law_reading") (fdOf K (He.ga K "_law_reading")) := T.fn 23 rfl
theorem cal__law_reading (T : Tx fa fn bx K mg) : Cal K mg "_law_reading" ["pool"] := ⟨T.glo 54, (F__law_reading T).kp, (F__law_reading T).bindsN fun _ _ _ _ _ _ us hl => match us, hl with | [_], _ => rfl⟩
theorem F__law_rows (T : Tx fa fn bx K mg) : FunD K "_law_rows" "_law_rows" (defArgs s__law_rows) (defBody s__law_rows) (defScope s__law_rows) [] [] (He.ga K "_law_rows") (fdOf K (He.ga K "_law_rows")) := T.fn 24 rfl
theorem cal__law_rows (T : Tx fa fn bx K mg) : Cal K mg "_law_rows" ["pool", "most"] := ⟨T.glo 55, (F__law_rows T).kp, (F__law_rows T).bindsN fun _ _ _ _ _ _ us hl => match us, hl with | [_, _], _ => rfl⟩
theorem F__law_album (T : Tx fa fn bx K mg) : FunD K "_law_album" "_law_album" (defArgs s__law_album) (defBody s__law_album) (defScope s__law_album) [] [] (He.ga K "_law_album") (fdOf K (He.ga K "_law_album")) := T.fn 25 rfl
theorem cal__law_album (T : Tx fa fn bx K mg) : Cal K mg "_law_album" ["names", "rows", "links"] := ⟨T.glo 56, (F__law_album T).kp, (F__law_album T).bindsN fun _ _ _ _ _ _ us hl => match us, hl with | [_, _, _], _ => rfl⟩
theorem F__law_steps (T : Tx fa fn bx K mg) : FunD K "_law_steps" "_law_steps" (defArgs s__law_steps) (defBody s__law_steps) (defScope s__law_steps) [] [] (He.ga K "_law_steps") (fdOf K (He.ga K "_law_steps")) := T.fn 26 rfl
theorem cal__law_steps (T : Tx fa fn bx K mg) : Cal K mg "_law_steps" ["links", "name"] := ⟨T.glo 57, (F__law_steps T).kp, (F__law_steps T).bindsN fun _ _ _ _ _ _ us hl => match us, hl with | [_, _], _ => rfl⟩
theorem F__steps_at (T : Tx fa fn bx K mg) : FunD K "_steps_at" "_steps_at" (defArgs s__steps_at) (defBody s__steps_at) (defScope s__steps_at) [] [] (He.ga K "_steps_at") (fdOf K (He.ga K "_steps_at")) := T.fn 27 rfl
theorem cal__steps_at (T : Tx fa fn bx K mg) : Cal K mg "_steps_at" ["names", "links"] := ⟨T.glo 58, (F__steps_at T).kp, (F__steps_at T).bindsN fun _ _ _ _ _ _ us hl => match us, hl with | [_, _], _ => rfl⟩
theorem F__place_behind (T : Tx fa fn bx K mg) : FunD K "_place_behind" "_place_behind" (defArgs s__place_behind) (defBody s__place_behind) (defScope s__place_behind) [] [] (He.ga K "_place_behind") (fdOf K (He.ga K "_place_behind")) := T.fn 28 rfl
theorem cal__place_behind (T : Tx fa fn bx K mg) : Cal K mg "_place_behind" ["place", "link", "forward"] := ⟨T.glo 59, (F__place_behind T).kp, (F__place_behind T).bindsN fun _ _ _ _ _ _ us hl => match us, hl with | [_, _, _], _ => rfl⟩
theorem F__walks_from (T : Tx fa fn bx K mg) : FunD K "_walks_from" "_walks_from" (defArgs s__walks_from) (defBody s__walks_from) (defScope s__walks_from) [] [] (He.ga K "_walks_from") (fdOf K (He.ga K "_walks_from")) := T.fn 29 rfl
theorem cal__walks_from (T : Tx fa fn bx K mg) : Cal K mg "_walks_from" ["start", "links", "steps"] := ⟨T.glo 60, (F__walks_from T).kp, (F__walks_from T).bindsN fun _ _ _ _ _ _ us hl => match us, hl with | [_, _, _], _ => rfl⟩
theorem F__law_group (T : Tx fa fn bx K mg) : FunD K "_law_group" "_law_group" (defArgs s__law_group) (defBody s__law_group) (defScope s__law_group) [] [] (He.ga K "_law_group") (fdOf K (He.ga K "_law_group")) := T.fn 30 rfl
theorem cal__law_group (T : Tx fa fn bx K mg) : Cal K mg "_law_group" ["links", "name"] := ⟨T.glo 61, (F__law_group T).kp, (F__law_group T).bindsN fun _ _ _ _ _ _ us hl => match us, hl with | [_, _], _ => rfl⟩
theorem F__law_moved (T : Tx fa fn bx K mg) : FunD K "_law_moved" "_law_moved" (defArgs s__law_moved) (defBody s__law_moved) (defScope s__law_moved) [] [] (He.ga K "_law_moved") (fdOf K (He.ga K "_law_moved")) := T.fn 31 rfl
theorem cal__law_moved (T : Tx fa fn bx K mg) : Cal K mg "_law_moved" ["place", "link", "forward"] := ⟨T.glo 62, (F__law_moved T).kp, (F__law_moved T).bindsN fun _ _ _ _ _ _ us hl => match us, hl with | [_, _, _], _ => rfl⟩
theorem F_Album_index (T : Tx fa fn bx K mg) : FunD K "index" "Album.index" (defArgs s_Album_index) (defBody s_Album_index) (defScope s_Album_index) [] [] (He.ma K (He.ga K "Album") "index") (fdOf K (He.ma K (He.ga K "Album") "index")) := T.fn 32 rfl
theorem cal_Album_index (T : Tx fa fn bx K mg) : CalM K (He.ma K (He.ga K "Album") "index") ["self", "name"] := ⟨(F_Album_index T).kp, (F_Album_index T).bindsN fun _ _ _ _ _ _ us hl => match us, hl with | [_, _], _ => rfl⟩
theorem F__is_place (T : Tx fa fn bx K mg) : FunD K "_is_place" "_is_place" (defArgs s__is_place) (defBody s__is_place) (defScope s__is_place) [] [] (He.ga K "_is_place") (fdOf K (He.ga K "_is_place")) := T.fn 33 rfl
theorem cal__is_place (T : Tx fa fn bx K mg) : Cal K mg "_is_place" ["value"] := ⟨T.glo 63, (F__is_place T).kp, (F__is_place T).bindsN fun _ _ _ _ _ _ us hl => match us, hl with | [_], _ => rfl⟩
theorem F_keeps (T : Tx fa fn bx K mg) : FunD K "keeps" "keeps" (defArgs s_keeps) (defBody s_keeps) (defScope s_keeps) [] [] (He.ga K "keeps") (fdOf K (He.ga K "keeps")) := T.fn 34 rfl
theorem cal_keeps (T : Tx fa fn bx K mg) : Cal K mg "keeps" ["laying", "link"] := ⟨T.glo 64, (F_keeps T).kp, (F_keeps T).bindsN fun _ _ _ _ _ _ us hl => match us, hl with | [_, _], _ => rfl⟩
theorem F__places_all (T : Tx fa fn bx K mg) : FunD K "_places_all" "_places_all" (defArgs s__places_all) (defBody s__places_all) (defScope s__places_all) [] [] (He.ga K "_places_all") (fdOf K (He.ga K "_places_all")) := T.fn 35 rfl
theorem cal__places_all (T : Tx fa fn bx K mg) : Cal K mg "_places_all" ["album", "laying"] := ⟨T.glo 65, (F__places_all T).kp, (F__places_all T).bindsN fun _ _ _ _ _ _ us hl => match us, hl with | [_, _], _ => rfl⟩
theorem F__places_group (T : Tx fa fn bx K mg) : FunD K "_places_group" "_places_group" (defArgs s__places_group) (defBody s__places_group) (defScope s__places_group) [] [] (He.ga K "_places_group") (fdOf K (He.ga K "_places_group")) := T.fn 36 rfl
theorem cal__places_group (T : Tx fa fn bx K mg) : Cal K mg "_places_group" ["laying", "names", "number"] := ⟨T.glo 66, (F__places_group T).kp, (F__places_group T).bindsN fun _ _ _ _ _ _ us hl => match us, hl with | [_, _, _], _ => rfl⟩
theorem F__links_between (T : Tx fa fn bx K mg) : FunD K "_links_between" "_links_between" (defArgs s__links_between) (defBody s__links_between) (defScope s__links_between) [] [] (He.ga K "_links_between") (fdOf K (He.ga K "_links_between")) := T.fn 37 rfl
theorem cal__links_between (T : Tx fa fn bx K mg) : Cal K mg "_links_between" ["album", "names"] := ⟨T.glo 67, (F__links_between T).kp, (F__links_between T).bindsN fun _ _ _ _ _ _ us hl => match us, hl with | [_, _], _ => rfl⟩
theorem F_groups (T : Tx fa fn bx K mg) : FunD K "groups" "groups" (defArgs s_groups) (defBody s_groups) (defScope s_groups) [] [] (He.ga K "groups") (fdOf K (He.ga K "groups")) := T.fn 38 rfl
theorem cal_groups (T : Tx fa fn bx K mg) : Cal K mg "groups" ["album"] := ⟨T.glo 68, (F_groups T).kp, (F_groups T).bindsN fun _ _ _ _ _ _ us hl => match us, hl with | [_], _ => rfl⟩
theorem F__is_laying (T : Tx fa fn bx K mg) : FunD K "_is_laying" "_is_laying" (defArgs s__is_laying) (defBody s__is_laying) (defScope s__is_laying) [] [] (He.ga K "_is_laying") (fdOf K (He.ga K "_is_laying")) := T.fn 39 rfl
theorem cal__is_laying (T : Tx fa fn bx K mg) : Cal K mg "_is_laying" ["album", "laying"] := ⟨T.glo 69, (F__is_laying T).kp, (F__is_laying T).bindsN fun _ _ _ _ _ _ us hl => match us, hl with | [_, _], _ => rfl⟩
theorem F__is_paper (T : Tx fa fn bx K mg) : FunD K "_is_paper" "_is_paper" (defArgs s__is_paper) (defBody s__is_paper) (defScope s__is_paper) [] [] (He.ga K "_is_paper") (fdOf K (He.ga K "_is_paper")) := T.fn 40 rfl
theorem cal__is_paper (T : Tx fa fn bx K mg) : Cal K mg "_is_paper" ["value", "kind", "length"] := ⟨T.glo 70, (F__is_paper T).kp, (F__is_paper T).bindsN fun _ _ _ _ _ _ us hl => match us, hl with | [_, _, _], _ => rfl⟩
theorem F__ends (T : Tx fa fn bx K mg) : FunD K "_ends" "_ends" (defArgs s__ends) (defBody s__ends) (defScope s__ends) [] [] (He.ga K "_ends") (fdOf K (He.ga K "_ends")) := T.fn 41 rfl
theorem cal__ends (T : Tx fa fn bx K mg) : Cal K mg "_ends" ["link", "forward"] := ⟨T.glo 71, (F__ends T).kp, (F__ends T).bindsN fun _ _ _ _ _ _ us hl => match us, hl with | [_, _], _ => rfl⟩
theorem F__is_step (T : Tx fa fn bx K mg) : FunD K "_is_step" "_is_step" (defArgs s__is_step) (defBody s__is_step) (defScope s__is_step) [] [] (He.ga K "_is_step") (fdOf K (He.ga K "_is_step")) := T.fn 42 rfl
theorem cal__is_step (T : Tx fa fn bx K mg) : Cal K mg "_is_step" ["value", "many"] := ⟨T.glo 72, (F__is_step T).kp, (F__is_step T).bindsN fun _ _ _ _ _ _ us hl => match us, hl with | [_, _], _ => rfl⟩
theorem F__is_ring (T : Tx fa fn bx K mg) : FunD K "_is_ring" "_is_ring" (defArgs s__is_ring) (defBody s__is_ring) (defScope s__is_ring) [] [] (He.ga K "_is_ring") (fdOf K (He.ga K "_is_ring")) := T.fn 43 rfl
theorem cal__is_ring (T : Tx fa fn bx K mg) : Cal K mg "_is_ring" ["album", "ring"] := ⟨T.glo 73, (F__is_ring T).kp, (F__is_ring T).bindsN fun _ _ _ _ _ _ us hl => match us, hl with | [_, _], _ => rfl⟩
theorem F_ring_sum (T : Tx fa fn bx K mg) : FunD K "ring_sum" "ring_sum" (defArgs s_ring_sum) (defBody s_ring_sum) (defScope s_ring_sum) [] [] (He.ga K "ring_sum") (fdOf K (He.ga K "ring_sum")) := T.fn 44 rfl
theorem cal_ring_sum (T : Tx fa fn bx K mg) : Cal K mg "ring_sum" ["album", "ring"] := ⟨T.glo 74, (F_ring_sum T).kp, (F_ring_sum T).bindsN fun _ _ _ _ _ _ us hl => match us, hl with | [_, _], _ => rfl⟩
theorem F_judges (T : Tx fa fn bx K mg) : FunD K "judges" "judges" (defArgs s_judges) (defBody s_judges) (defScope s_judges) [] [] (He.ga K "judges") (fdOf K (He.ga K "judges")) := T.fn 45 rfl
theorem cal_judges (T : Tx fa fn bx K mg) : Cal K mg "judges" ["album", "value"] := ⟨T.glo 75, (F_judges T).kp, (F_judges T).bindsN fun _ _ _ _ _ _ us hl => match us, hl with | [_, _], _ => rfl⟩
theorem F__law_is_laying (T : Tx fa fn bx K mg) : FunD K "_law_is_laying" "_law_is_laying" (defArgs s__law_is_laying) (defBody s__law_is_laying) (defScope s__law_is_laying) [] [] (He.ga K "_law_is_laying") (fdOf K (He.ga K "_law_is_laying")) := T.fn 46 rfl
theorem cal__law_is_laying (T : Tx fa fn bx K mg) : Cal K mg "_law_is_laying" ["names", "links", "laying"] := ⟨T.glo 76, (F__law_is_laying T).kp, (F__law_is_laying T).bindsN fun _ _ _ _ _ _ us hl => match us, hl with | [_, _, _], _ => rfl⟩
theorem F__law_changed (T : Tx fa fn bx K mg) : FunD K "_law_changed" "_law_changed" (defArgs s__law_changed) (defBody s__law_changed) (defScope s__law_changed) [] [] (He.ga K "_law_changed") (fdOf K (He.ga K "_law_changed")) := T.fn 47 rfl
theorem cal__law_changed (T : Tx fa fn bx K mg) : Cal K mg "_law_changed" ["pool", "names", "laying"] := ⟨T.glo 77, (F__law_changed T).kp, (F__law_changed T).bindsN fun _ _ _ _ _ _ us hl => match us, hl with | [_, _, _], _ => rfl⟩
theorem F__law_is_ring (T : Tx fa fn bx K mg) : FunD K "_law_is_ring" "_law_is_ring" (defArgs s__law_is_ring) (defBody s__law_is_ring) (defScope s__law_is_ring) [] [] (He.ga K "_law_is_ring") (fdOf K (He.ga K "_law_is_ring")) := T.fn 48 rfl
theorem cal__law_is_ring (T : Tx fa fn bx K mg) : Cal K mg "_law_is_ring" ["links", "ring"] := ⟨T.glo 78, (F__law_is_ring T).kp, (F__law_is_ring T).bindsN fun _ _ _ _ _ _ us hl => match us, hl with | [_, _], _ => rfl⟩
theorem F__law_names (T : Tx fa fn bx K mg) : FunD K "_law_names" "_law_names" (defArgs s__law_names) (defBody s__law_names) (defScope s__law_names) [] [] (He.ga K "_law_names") (fdOf K (He.ga K "_law_names")) := T.fn 49 rfl
theorem cal__law_names (T : Tx fa fn bx K mg) : Cal K mg "_law_names" ["pool", "count"] := ⟨T.glo 79, (F__law_names T).kp, (F__law_names T).bindsN fun _ _ _ _ _ _ us hl => match us, hl with | [_, _], _ => rfl⟩
theorem F__law_pool (T : Tx fa fn bx K mg) : FunD K "_law_pool" "_law_pool" (defArgs s__law_pool) (defBody s__law_pool) (defScope s__law_pool) [] [] (He.ga K "_law_pool") (fdOf K (He.ga K "_law_pool")) := T.fn 50 rfl
theorem cal__law_pool (T : Tx fa fn bx K mg) : Cal K mg "_law_pool" ["script"] := ⟨T.glo 80, (F__law_pool T).kp, (F__law_pool T).bindsN fun _ _ _ _ _ _ us hl => match us, hl with | [_], _ => rfl⟩
theorem F__law_ring_like (T : Tx fa fn bx K mg) : FunD K "_law_ring_like" "_law_ring_like" (defArgs s__law_ring_like) (defBody s__law_ring_like) (defScope s__law_ring_like) [] [] (He.ga K "_law_ring_like") (fdOf K (He.ga K "_law_ring_like")) := T.fn 51 rfl
theorem cal__law_ring_like (T : Tx fa fn bx K mg) : Cal K mg "_law_ring_like" ["pool", "links", "ring"] := ⟨T.glo 81, (F__law_ring_like T).kp, (F__law_ring_like T).bindsN fun _ _ _ _ _ _ us hl => match us, hl with | [_, _, _], _ => rfl⟩
theorem F__law_turned (T : Tx fa fn bx K mg) : FunD K "_law_turned" "_law_turned" (defArgs s__law_turned) (defBody s__law_turned) (defScope s__law_turned) [] [] (He.ga K "_law_turned") (fdOf K (He.ga K "_law_turned")) := T.fn 52 rfl
theorem cal__law_turned (T : Tx fa fn bx K mg) : Cal K mg "_law_turned" ["row"] := ⟨T.glo 82, (F__law_turned T).kp, (F__law_turned T).bindsN fun _ _ _ _ _ _ us hl => match us, hl with | [_], _ => rfl⟩
theorem F__law_ways (T : Tx fa fn bx K mg) : FunD K "_law_ways" "_law_ways" (defArgs s__law_ways) (defBody s__law_ways) (defScope s__law_ways) [] [] (He.ga K "_law_ways") (fdOf K (He.ga K "_law_ways")) := T.fn 53 rfl
theorem cal__law_ways (T : Tx fa fn bx K mg) : Cal K mg "_law_ways" ["links", "name"] := ⟨T.glo 83, (F__law_ways T).kp, (F__law_ways T).bindsN fun _ _ _ _ _ _ us hl => match us, hl with | [_, _], _ => rfl⟩
theorem F_joined (T : Tx fa fn bx K mg) : FunD K "joined" "joined" (defArgs s_joined) (defBody s_joined) (defScope s_joined) [] [] (He.ga K "joined") (fdOf K (He.ga K "joined")) := T.fn 54 rfl
theorem cal_joined (T : Tx fa fn bx K mg) : Cal K mg "joined" ["names", "answers"] := ⟨T.glo 84, (F_joined T).kp, (F_joined T).bindsN fun _ _ _ _ _ _ us hl => match us, hl with | [_, _], _ => rfl⟩
theorem F__backwards (T : Tx fa fn bx K mg) : FunD K "_backwards" "_backwards" (defArgs s__backwards) (defBody s__backwards) (defScope s__backwards) [] [] (He.ga K "_backwards") (fdOf K (He.ga K "_backwards")) := T.fn 55 rfl
theorem cal__backwards (T : Tx fa fn bx K mg) : Cal K mg "_backwards" ["way"] := ⟨T.glo 85, (F__backwards T).kp, (F__backwards T).bindsN fun _ _ _ _ _ _ us hl => match us, hl with | [_], _ => rfl⟩
theorem F__rings_from (T : Tx fa fn bx K mg) : FunD K "_rings_from" "_rings_from" (defArgs s__rings_from) (defBody s__rings_from) (defScope s__rings_from) [] [] (He.ga K "_rings_from") (fdOf K (He.ga K "_rings_from")) := T.fn 56 rfl
theorem cal__rings_from (T : Tx fa fn bx K mg) : Cal K mg "_rings_from" ["start", "links", "steps"] := ⟨T.glo 86, (F__rings_from T).kp, (F__rings_from T).bindsN fun _ _ _ _ _ _ us hl => match us, hl with | [_, _, _], _ => rfl⟩
theorem F_lay_group (T : Tx fa fn bx K mg) : FunD K "lay_group" "lay_group" (defArgs s_lay_group) (defBody s_lay_group) (defScope s_lay_group) [] [] (He.ga K "lay_group") (fdOf K (He.ga K "lay_group")) := T.fn 57 rfl
theorem cal_lay_group (T : Tx fa fn bx K mg) : Cal K mg "lay_group" ["album", "names"] := ⟨T.glo 87, (F_lay_group T).kp, (F_lay_group T).bindsN fun _ _ _ _ _ _ us hl => match us, hl with | [_, _], _ => rfl⟩
theorem F_lay (T : Tx fa fn bx K mg) : FunD K "lay" "lay" (defArgs s_lay) (defBody s_lay) (defScope s_lay) [] [] (He.ga K "lay") (fdOf K (He.ga K "lay")) := T.fn 58 rfl
theorem cal_lay (T : Tx fa fn bx K mg) : Cal K mg "lay" ["album"] := ⟨T.glo 88, (F_lay T).kp, (F_lay T).bindsN fun _ _ _ _ _ _ us hl => match us, hl with | [_], _ => rfl⟩
theorem F_law (T : Tx fa fn bx K mg) : FunD K "law" "law" (defArgs s_law) (defBody s_law) (defScope s_law) [] [] (He.ga K "law") (fdOf K (He.ga K "law")) := T.fn 59 rfl
theorem cal_law (T : Tx fa fn bx K mg) : Cal K mg "law" ["script"] := ⟨T.glo 89, (F_law T).kp, (F_law T).bindsN fun _ _ _ _ _ _ us hl => match us, hl with | [_], _ => rfl⟩
def isWhole (d : PyData) : Bool := match d with
  | .int _ => true
  | _ => false
def sp_is_whole (K : PySem.W.Frag) : Sp := fun vs H Q _ => ∃ G v d, vs = [v] ∧ Y.Ex G H ∧ Dp K G v d ∧ Q (.bl (isWhole d)) H
theorem ok_is_whole (T : Tx fa fn bx K mg) : FnOk P w K mg base CX0 1 (He.ga K "is_whole") (fdOf K (He.ga K "is_whole")) ["value"] (sp_is_whole K) := by
  refine FunD.ok (F_is_whole T) sc_is_whole (fun vs H Q E h => ?_) (fun cdv A outer s H vs Q E hr h => ?_)
  · obtain ⟨_, _, _, rfl, _⟩ := h
    rfl
  · obtain ⟨G, v, d, rfl, e, hd, q⟩ := h
    refine ⟨_, PSs.nox ((pss_one (ps_ret (pe_and (pe_callB (Y.call_isiK (K := K) rfl) (by rfl) (T.free 0) (by decide +kernel) (pa_cons (pv 0) (pa_cons (pe_bltn (v := .ty "int") (by rfl) (T.free 2) (by decide +kernel) rfl) pa_nil))) (pe_one (pe_not (pe_callB (Y.call_isiK (K := K) rfl) (by rfl) (T.free 0) (by decide +kernel) (pa_cons (pv 0) (pa_cons (pe_bltn (v := .ty "bool") (by rfl) (T.free 1) (by decide +kernel) rfl) pa_nil))))))))), ?_⟩
    cases d with
    | dict _ => exact (dp_nodict hd).elim
    | int i =>
      cases dp_int hd
      walk_at "sx"
      walk_at "isi"
      walk_at "sx"
      walk_at "isi"
      walk_at "sx"
      exact q
    | _ =>
      walk_at "sx"
      walk_at "isi"
      walk_at "sx"
      try (walk_at "isi"; walk_at "sx")
      exact q
def within (d : PyData) (lo hi : Int) : Bool := match d with
  | .int i => decide (lo ≤ i ∧ i ≤ hi)
  | _ => false
def sp_is_within (K : PySem.W.Frag) : Sp := fun vs H Q _ => ∃ G v d lo hi, vs = [v, .int lo, .int hi] ∧ Y.Ex G H ∧ Dp K G v d ∧ Q (.bl (within d lo hi)) H
theorem ok_is_within (T : Tx fa fn bx K mg) : FnOk P w K mg base CX0 2 (He.ga K "is_within") (fdOf K (He.ga K "is_within")) ["value", "least", "greatest"] (sp_is_within K) := by
  refine FunD.ok (F_is_within T) sc_is_within (fun vs H Q E h => ?_) (fun cdv A outer s H vs Q E hr h => ?_)
  · obtain ⟨_, _, _, _, _, rfl, _⟩ := h
    rfl
  · obtain ⟨G, v, d, lo, hi, rfl, e, hd, q⟩ := h
    refine ⟨_, PSs.nox ((pss_one (ps_ret (pe_and (Y.pe_callC (ok_is_whole T) (cal_is_whole T) (hr.mono (by decide)) (by rfl) pass0 (pa_cons (pv 0) pa_nil)) (pe_one (pe_chain op_le op_le (pv 1) (pv 0) (pv 2))))))), ?_⟩
    walk_at "sx"
    refine ⟨G, v, d, rfl, e, hd, ?_⟩
    cases d with
    | dict _ => exact (dp_nodict hd).elim
    | int i =>
      cases dp_int hd
      refine ⟨true, rfl, ?_⟩
      walk_at "sx"
      refine g_dec (fun h1 => ?_) (fun h1 => ?_) <;> walk_at "sx" <;> exact q_bl q (by simp [within, h1])
    | _ =>
      refine ⟨false, rfl, ?_⟩
      walk_at "sx"
      exact q
def isRd (d : PyData) : Bool := match d with
  | .none => true
  | .int i => decide (0 ≤ i ∧ i ≤ 999)
  | _ => false
def sp_is_reading (K : PySem.W.Frag) : Sp := fun vs H Q _ => ∃ G v d, vs = [v] ∧ Y.Ex G H ∧ Dp K G v d ∧ Q (.bl (isRd d)) H
theorem ok_is_reading (T : Tx fa fn bx K mg) : FnOk P w K mg base CX0 3 (He.ga K "is_reading") (fdOf K (He.ga K "is_reading")) ["value"] (sp_is_reading K) := by
  refine FunD.ok (F_is_reading T) sc_is_reading (fun vs H Q E h => ?_) (fun cdv A outer s H vs Q E hr h => ?_)
  · obtain ⟨_, _, _, rfl, _⟩ := h
    rfl
  · obtain ⟨G, v, d, rfl, e, hd, q⟩ := h
    refine ⟨_, PSs.nox ((pss_one (ps_ret (pe_or (pe_cmp (pc_isN (pv 0))) (pe_one (Y.pe_callC (ok_is_within T) (cal_is_within T) (hr.mono (by decide)) (by rfl) pass0 (pa_cons (pv 0) (pa_cons pe_int (pa_cons (pe_gint (T.int 20)) pa_nil))))))))), ?_⟩
    walk_at "sx"
    refine g_dec (fun h1 => ?_) (fun h1 => ?_) <;> walk_at "sx"
    · rw [dp_non_iff hd] at h1
      subst h1
      exact q
    · rw [dp_non_iff hd] at h1
      refine ⟨G, v, d, 0, 999, rfl, e, hd, q_bl q ?_⟩
      cases d <;> first | rfl | exact absurd rfl h1
def rowOk (d : PyData) : Bool := match d with
  | .tuple xs => decide (1 ≤ xs.length ∧ xs.length ≤ 12) && xs.all isRd
  | _ => false
def sp__is_row (K : PySem.W.Frag) : Sp := fun vs H Q _ => ∃ G v d, vs = [v] ∧ Y.Ex G H ∧ Dp K G v d ∧ ∀ G' H', Nx [] G H G' H' → Q (.bl (rowOk d)) H'
theorem ok__is_row (T : Tx fa fn bx K mg) : FnOk P w K mg base CX0 4 (He.ga K "_is_row") (fdOf K (He.ga K "_is_row")) ["value"] (sp__is_row K) := by
  refine FunD.ok (F__is_row T) sc__is_row (fun vs H Q E h => ?_) (fun cdv A outer s H vs Q E hr h => ?_)
  · obtain ⟨_, _, _, rfl, _⟩ := h
    rfl
  · obtain ⟨G, v, d, rfl, e, hd, q⟩ := h
    refine ⟨_, PSs.nox ((pss_cons (ps_if (PW.pt (pw_or (pt_not (pt_val (pe_callB (Y.call_isiK (K := K) rfl) (by rfl) (T.free 0) (by decide +kernel) (pa_cons (pv 0) (pa_cons (pe_bltn (v := .ty "tuple") (by rfl) (T.free 4) (by decide +kernel) rfl) pa_nil))))) (pw_or1 (pt_not (pt_chain op_le op_le pe_int (pe_callB (Y.call_lenK (K := K) rfl) (by rfl) (T.free 3) (by decide +kernel) (pa_cons (pv 0) pa_nil)) (pe_gint (T.int 21)))))))
      (pss_one (ps_ret pe_bl))
      pss_nil)
      (pss_one (ps_ret (pe_callB (Y.cr_allK (K := K) rfl rfl) (by rfl) (T.free 14) (by decide +kernel) (pa_cons (pe_lc (own := [("reading", 1)]) (tt := tYes) rfl sc__is_row.nd (Y.pi_tupK (K := K) rfl (pv 0)) (blkOk_by (own := [("reading", 1)]) (by kernel_rfl)) (fun _ _ _ _ _ => (pg_name (i := 1) sc__is_row.nd rfl (Or.inl rfl))) (fun _ _ _ _ _ => pts_nil) (fun _ _ _ _ _ => (Y.pe_callC (ok_is_reading T) (cal_is_reading T) (hr.mono (by decide)) (by rfl) pass0 (pa_cons (pv 1) pa_nil)))) pa_nil)))))), ?_⟩
    cases d with
    | dict _ => exact (dp_nodict hd).elim
    | tuple xs =>
      walk_at "sx"
      walk_at "isi"
      walk_at "sx"
      walk_at "len"
      walk_at "sx"
      refine g_dec (fun h1 => ?_) (fun h1 => ?_) <;> walk_at "sx"
      · refine g_ndec (fun h2 => ?_) (fun h2 => ?_) <;> walk_at "sx"
        · refine q_bl (q G H (Nx.refl e)) ?_
          simp only [rowOk]
          rw [decide_eq_false (by omega)]
          rfl
        · refine g_walkT e hd fun a ha S => ?_
          intro A hA
          refine g_lcMap (K := K) (M := []) (es := (xs.map isRd).map .bool) (S []) e hA (by simp) (szl (by omega)) (by simp) (fun i d d' v G' H' hi hi' dv n QE k => ?_) (fun G' H' ys n g h da => ?_)
          · have hd' : d' = .bool (isRd d) := by
              simp only [List.getElem?_map, hi, Option.map_some, Option.some.injEq] at hi'
              exact hi'.symm
            subst hd'
            walk_at "sx"
            exact ⟨G', v, d, rfl, n.gh, dv, k _ _ _ (Nx.refl n.gh) (.bl _)⟩
          · refine g_allM h da ?_
            refine q_bl (q G' H' n) ?_
            simp only [rowOk]
            rw [decide_eq_true (by omega), List.all_map]
            rfl
      · refine q_bl (q G H (Nx.refl e)) ?_
        simp only [rowOk]
        rw [decide_eq_false (by omega)]
        rfl
    | _ =>
      walk_at "sx"
      walk_at "isi"
      walk_at "sx"
      exact q G H (Nx.refl e)
def sameLen (xs : List PyData) : Bool := match xs with
  | [] => true
  | r :: _ => xs.all fun x => decide (dlen x = dlen r)
def rowsOk (d : PyData) : Bool := match d with
  | .tuple xs => decide (1 ≤ xs.length ∧ xs.length ≤ 12) && (xs.all rowOk && sameLen xs)
  | _ => false
theorem rowOk_tup {d : PyData} (h : rowOk d = true) : ∃ xs, d = .tuple xs ∧ 1 ≤ xs.length ∧ xs.length ≤ 12 ∧ xs.all isRd = true := by
  cases d with
  | tuple xs =>
    simp only [rowOk, Bool.and_eq_true, decide_eq_true_eq] at h
    exact ⟨xs, rfl, h.1.1, h.1.2, h.2⟩
  | _ => cases h
def sp__is_rows (K : PySem.W.Frag) : Sp := fun vs H Q _ => ∃ G v d, vs = [v] ∧ Y.Ex G H ∧ Dp K G v d ∧ ∀ G' H', Nx [] G H G' H' → Q (.bl (rowsOk d)) H'
theorem ok__is_rows (T : Tx fa fn bx K mg) : FnOk P w K mg base CX0 5 (He.ga K "_is_rows") (fdOf K (He.ga K "_is_rows")) ["value"] (sp__is_rows K) := by
  refine FunD.ok (F__is_rows T) sc__is_rows (fun vs H Q E h => ?_) (fun cdv A outer s H vs Q E hr h => ?_)
  · obtain ⟨_, _, _, rfl, _⟩ := h
    rfl
  · obtain ⟨G, v, d, rfl, e, hd, q⟩ := h
    refine ⟨_, PSs.nox ((pss_cons (ps_if (PW.pt (pw_or (pt_not (pt_val (pe_callB (Y.call_isiK (K := K) rfl) (by rfl) (T.free 0) (by decide +kernel) (pa_cons (pv 0) (pa_cons (pe_bltn (v := .ty "tuple") (by rfl) (T.free 4) (by decide +kernel) rfl) pa_nil))))) (pw_or1 (pt_not (pt_chain op_le op_le pe_int (pe_callB (Y.call_lenK (K := K) rfl) (by rfl) (T.free 3) (by decide +kernel) (pa_cons (pv 0) pa_nil)) (pe_gint (T.int 22)))))))
      (pss_one (ps_ret pe_bl))
      pss_nil)
      (pss_cons (ps_if (pt_not (pt_val (pe_callB (Y.cr_allK (K := K) rfl rfl) (by rfl) (T.free 14) (by decide +kernel) (pa_cons (pe_lc (own := [("row", 1)]) (tt := tYes) rfl sc__is_rows.nd (Y.pi_tupK (K := K) rfl (pv 0)) (blkOk_by (own := [("row", 1)]) (by kernel_rfl)) (fun _ _ _ _ _ => (pg_name (i := 1) sc__is_rows.nd rfl (Or.inl rfl))) (fun _ _ _ _ _ => pts_nil) (fun _ _ _ _ _ => (Y.pe_callC (ok__is_row T) (cal__is_row T) (hr.mono (by decide)) (by rfl) pass0 (pa_cons (pv 1) pa_nil)))) pa_nil))))
      (pss_one (ps_ret pe_bl))
      pss_nil)
      (pss_one (ps_ret (pe_callB (Y.cr_allK (K := K) rfl rfl) (by rfl) (T.free 14) (by decide +kernel) (pa_cons (pe_lc (own := [("row", 1)]) (tt := tYes) rfl sc__is_rows.nd (Y.pi_tupK (K := K) rfl (pv 0)) (blkOk_by (own := [("row", 1)]) (by kernel_rfl)) (fun _ _ _ _ _ => (pg_name (i := 1) sc__is_rows.nd rfl (Or.inl rfl))) (fun _ _ _ _ _ => pts_nil) (fun _ _ _ _ _ => (pe_cmpR op_eq (pe_callB (Y.call_lenK (K := K) rfl) (by rfl) (T.free 3) (by decide +kernel) (pa_cons (pv 1) pa_nil)) (pe_callB (Y.call_lenK (K := K) rfl) (by rfl) (T.free 3) (by decide +kernel) (pa_cons (pe_ix (Y.ix_tupK (K := K) rfl) (pv 0) pe_int (fun _ _ => rfl)) pa_nil)) (nomark _)))) pa_nil))))))), ?_⟩
    cases d with
    | dict _ => exact (dp_nodict hd).elim
    | tuple xs =>
      walk_at "sx"
      walk_at "isi"
      walk_at "sx"
      walk_at "len"
      walk_at "sx"
      refine g_dec (fun h1 => ?_) (fun h1 => ?_) <;> walk_at "sx"
      · refine g_ndec (fun h2 => ?_) (fun h2 => ?_) <;> walk_at "sx"
        · refine q_bl (q G H (Nx.refl e)) ?_
          simp only [rowsOk]
          rw [decide_eq_false (by omega)]
          rfl
        · have h12 : 1 ≤ xs.length ∧ xs.length ≤ 12 := by omega
          refine g_walkT e hd fun a ha S => ?_
          intro A hA
          refine g_lcMap (K := K) (M := []) (es := (xs.map rowOk).map .bool) (S []) e hA (by simp) (szl (by omega)) (by simp) (fun i d d' v G' H' hi hi' dv n QE k => ?_) (fun G' H' ys n g h da => ?_)
          · have hd' : d' = .bool (rowOk d) := by
              simp only [List.getElem?_map, hi, Option.map_some, Option.some.injEq] at hi'
              exact hi'.symm
            subst hd'
            walk_at "sx"
            exact ⟨G', v, d, rfl, n.gh, dv, fun G2 H2 n2 => k _ _ _ n2 (.bl _)⟩
          · walk_at "sx"
            refine g_allM h da ?_
            walk_at "sx"
            have hall : (xs.map rowOk).all id = xs.all rowOk := by rw [List.all_map]; rfl
            rw [hall]
            cases hr : xs.all rowOk with
            | false =>
              walk_at "sx"
              refine q_bl (q G' H' n) ?_
              simp only [rowsOk]
              rw [hr, decide_eq_true h12]
              rfl
            | true =>
              walk_at "sx"
              have hd1 : Dp K G' v (.tuple xs) := dp_mono n.gg hd
              refine g_walkT n.gh hd1 fun a' ha' S' => ?_
              intro B hB
              have hx : ∃ r rs, xs = r :: rs := by
                cases xs with
                | nil => simp at h12
                | cons r rs => exact ⟨r, rs, rfl⟩
              obtain ⟨r, rs, hrs⟩ := hx
              have row : ∀ {i : Nat} {d : PyData}, xs[i]? = some d → ∃ cs, d = .tuple cs := fun {i d} hi => by
                obtain ⟨cs, h1, _⟩ := rowOk_tup (List.all_eq_true.mp hr d (List.mem_of_getElem? hi))
                exact ⟨cs, h1⟩
              refine g_lcMap (K := K) (M := []) (es := (xs.map fun x => decide (dlen x = dlen r)).map .bool) (S' []) n.gh hB (by simp) (szl (by omega)) (by simp) (fun i d d' w G2 H2 hi hi' dv n2 QE k => ?_) (fun G2 H2 ys n2 g h da => ?_)
              · have hd' : d' = .bool (decide (dlen d = dlen r)) := by
                  simp only [List.getElem?_map, hi, Option.map_some, Option.some.injEq] at hi'
                  exact hi'.symm
                subst hd'
                obtain ⟨cs, rfl⟩ := row hi
                obtain ⟨c0, rfl⟩ := row (i := 0) (d := r) (by rw [hrs]; rfl)
                have e2 := n2.gh
                have hd2 : Dp K G2 v (.tuple xs) := dp_mono n2.gg hd1
                walk_at "sx"
                walk_at "len"
                walk_at "sx"
                refine g_ixT (k := 0) e2 hd2 (by rw [hrs]; rfl) rfl fun u hu => ?_
                walk_at "sx"
                walk_at "len"
                walk_at "sx"
                refine k _ _ _ (Nx.refl e2) ?_
                rw [dec_ni]
                exact .bl _
              · walk_at "sx"
                refine g_allM h da ?_
                refine q_bl (q G2 H2 (n.trans n2)) ?_
                simp only [rowsOk]
                rw [hr, decide_eq_true h12, List.all_map]
                simp only [sameLen, hrs, Bool.true_and]
                rfl
      · refine q_bl (q G H (Nx.refl e)) ?_
        simp only [rowsOk]
        rw [decide_eq_false (by omega)]
        rfl
    | _ =>
      walk_at "sx"
      walk_at "isi"
      walk_at "sx"
      exact q G H (Nx.refl e)
def letq (c : Nat) : Bool := decide (c ∈ ("abcdefghijklmnopqrstuvwxyz" : Str).cps.toList)
def digq (c : Nat) : Bool := decide (c ∈ ("0123456789" : Str).cps.toList)
def nameOk (s : Str) : Bool := decide (1 ≤ s.length ∧ s.length ≤ 8) && (match s.cps.toList with
  | [] => false
  | c :: _ => letq c) && s.cps.toList.all fun c => letq c || digq c
def isName (d : PyData) : Bool := match d with
  | .str s => nameOk s
  | _ => false
def sp_is_name (K : PySem.W.Frag) : Sp := fun vs H Q _ => ∃ G v d, vs = [v] ∧ Y.Ex G H ∧ Dp K G v d ∧ fit d = true ∧ ∀ G' H', Nx [] G H G' H' → Q (.bl (isName d)) H'
theorem ok_is_name (T : Tx fa fn bx K mg) : FnOk P w K mg base CX0 1 (He.ga K "is_name") (fdOf K (He.ga K "is_name")) ["value"] (sp_is_name K) := by
  refine FunD.ok (F_is_name T) sc_is_name (fun vs H Q E h => ?_) (fun cdv A outer s H vs Q E hr h => ?_)
  · obtain ⟨_, _, _, rfl, _⟩ := h
    rfl
  · obtain ⟨G, v, d, rfl, e, hd, hf, q⟩ := h
    refine ⟨_, PSs.nox ((pss_cons (ps_if (PW.pt (pw_or (pt_not (pt_val (pe_callB (Y.call_isiK (K := K) rfl) (by rfl) (T.free 0) (by decide +kernel) (pa_cons (pv 0) (pa_cons (pe_bltn (v := .ty "str") (by rfl) (T.free 13) (by decide +kernel) rfl) pa_nil))))) (pw_or1 (pt_not (pt_chain op_le op_le pe_int (pe_callB Y.call_lenS (by rfl) (T.free 3) (by decide +kernel) (pa_cons (pv 0) pa_nil)) (pe_gint (T.int 17)))))))
      (pss_one (ps_ret pe_bl))
      pss_nil)
      (pss_one (ps_ret (pe_and (pe_cmpR Y.op_inSign (pe_ix ix_str (pv 0) pe_int (fun _ _ => rfl)) (pe_gstr (T.str 19)) (by rfl)) (pe_one (pe_callB (Y.cr_allK (K := K) rfl rfl) (by rfl) (T.free 14) (by decide +kernel) (pa_cons (pe_lc (own := [("sign", 1)]) (tt := tYes) rfl sc_is_name.nd (pi_str (pv 0)) (blkOk_by (own := [("sign", 1)]) (by kernel_rfl)) (fun _ _ _ _ _ => (pg_name (i := 1) sc_is_name.nd rfl (Or.inl rfl))) (fun _ _ _ _ _ => pts_nil) (fun _ _ _ _ _ => (pe_or (pe_cmpR Y.op_inSign (pv 1) (pe_gstr (T.str 19)) (by rfl)) (pe_one (pe_cmpR Y.op_inSign (pv 1) (pe_gstr (T.str 18)) (by rfl)))))) pa_nil)))))))), ?_⟩
    cases d with
    | dict _ => exact (dp_nodict hd).elim
    | str s =>
      cases dp_str hd
      have hz : s.length ≤ sizeLine := fit_str hf
      walk_at "sx"
      walk_at "isi"
      walk_at "sx"
      refine g_lenS hz ?_
      walk_at "sx"
      refine g_dec (fun h1 => ?_) (fun h1 => ?_) <;> walk_at "sx"
      · refine g_ndec (fun h2 => ?_) (fun h2 => ?_) <;> walk_at "sx"
        · refine q_bl (q G H (Nx.refl e)) ?_
          simp only [isName, nameOk]
          rw [decide_eq_false (by omega)]
          rfl
        · obtain ⟨c, r, hc⟩ : ∃ c r, s.cps.toList = c :: r := by
            cases hs : s.cps.toList with
            | nil =>
              have : s.length = 0 := by show s.cps.size = 0; rw [← Array.length_toList, hs]; rfl
              omega
            | cons c r => exact ⟨c, r, rfl⟩
          have hn : nameOk s = (letq c && s.cps.toList.all fun c => letq c || digq c) := by
            unfold nameOk
            rw [hc, decide_eq_true (show 1 ≤ s.length ∧ s.length ≤ 8 by omega)]
            simp
          refine g_ixS (k := 0) (c := c) hz (by rw [hc]; rfl) rfl ?_
          walk_at "sx"
          refine g_dec (fun h3 => ?_) (fun h3 => ?_) <;> walk_at "sx"
          · refine g_walkS ?_
            intro A hA
            refine g_lcMap (K := K) (M := []) (es := (s.cps.toList.map fun c => letq c || digq c).map .bool) (src_str s) e hA (by simp) (by rw [sgn_len]; exact szl (by omega)) (by rw [sgn_len, List.length_map, List.length_map]; exact Array.length_toList) (fun i d d' v G' H' hi hi' dv n QE k => ?_) (fun G' H' ys n g h da => ?_)
            · obtain ⟨x, hx, rfl⟩ := sgn_get hi
              have hd' : d' = .bool (letq x || digq x) := by
                simp only [List.getElem?_map, hx, Option.map_some, Option.some.injEq] at hi'
                exact hi'.symm
              subst hd'
              cases dp_str dv
              walk_at "sx"
              refine g_dec (fun h4 => ?_) (fun h4 => ?_) <;> walk_at "sx"
              · refine k _ _ _ (Nx.refl n.gh) ?_
                rw [show letq x = true from decide_eq_true h4]
                exact .bl _
              · refine k _ _ _ (Nx.refl n.gh) ?_
                rw [show letq x = false from decide_eq_false h4]
                exact .bl _
            · refine g_allM h da ?_
              refine q_bl (q G' H' n) ?_
              show nameOk s = _
              rw [hn, show letq c = true from decide_eq_true h3, List.all_map]
              rfl
          · refine q_bl (q G H (Nx.refl e)) ?_
            show nameOk s = _
            rw [hn, show letq c = false from decide_eq_false h3]
            rfl
      · refine q_bl (q G H (Nx.refl e)) ?_
        simp only [isName, nameOk]
        rw [decide_eq_false (by omega)]
        rfl
    | _ =>
      walk_at "sx"
      walk_at "isi"
      walk_at "sx"
      exact q G H (Nx.refl e)
def tupleOf (d : PyData) (n : Int) : Bool := match d with
  | .tuple xs => decide ((xs.length : Int) = n)
  | _ => false
/-- data, or a tuple or a list of whatever: d tells then no more than its kind and its length -/
def TupIs (K : PySem.W.Frag) (G H : Hp) (v : V) (d : PyData) : Prop := Dp K G v d ∨ (∃ t xs ds, v = .ref t ∧ SqT K G t xs ∧ d = .tuple ds ∧ ds.length = xs.length) ∨ ∃ p xs ds, v = .ref p ∧ H p = some (.lst xs) ∧ d = .list ds
theorem g_isiLraw {K : PySem.W.Frag} {H : Hp} {p : Addr} {xs : List V} {Q : VK} (h : H p = some (.lst xs)) (q : Q (.bl false) H) : rIsi K [.ref p, .ty "tuple"] H Q :=
  ⟨.ref p, .ty "tuple", _, _, false, rfl, .ty "tuple", .base (.lst h), kit_ty (by rfl), q⟩
def sp_is_tuple_of (K : PySem.W.Frag) : Sp := fun vs H Q _ => ∃ G v d n, vs = [v, .int n] ∧ Y.Ex G H ∧ TupIs K G H v d ∧ Q (.bl (tupleOf d n)) H
theorem ok_is_tuple_of (T : Tx fa fn bx K mg) : FnOk P w K mg base CX0 1 (He.ga K "is_tuple_of") (fdOf K (He.ga K "is_tuple_of")) ["value", "length"] (sp_is_tuple_of K) := by
  refine FunD.ok (F_is_tuple_of T) sc_is_tuple_of (fun vs H Q E h => ?_) (fun cdv A outer s H vs Q E hr h => ?_)
  · obtain ⟨_, _, _, _, rfl, _⟩ := h
    rfl
  · obtain ⟨G, v, d, n, rfl, e, hd, q⟩ := h
    refine ⟨_, PSs.nox ((pss_one (ps_ret (pe_and (pe_callB (Y.call_isiK (K := K) rfl) (by rfl) (T.free 0) (by decide +kernel) (pa_cons (pv 0) (pa_cons (pe_bltn (v := .ty "tuple") (by rfl) (T.free 4) (by decide +kernel) rfl) pa_nil))) (pe_one (pe_cmpR op_eq (pe_callB (Y.call_lenK (K := K) rfl) (by rfl) (T.free 3) (by decide +kernel) (pa_cons (pv 0) pa_nil)) (pv 1) (nomark _))))))), ?_⟩
    rcases hd with hd | ⟨t, xs, ds, rfl, hs, rfl, hl⟩ | ⟨p, xs, ds, rfl, hp, rfl⟩
    · cases d with
      | dict _ => exact (dp_nodict hd).elim
      | tuple xs =>
        walk_at "sx"
        walk_at "isi"
        walk_at "sx"
        refine g_lenT e hd ?_
        walk_at "sx"
        exact q
      | _ =>
        walk_at "sx"
        walk_at "isi"
        walk_at "sx"
        exact q
    · walk_at "sx"
      refine g_isiR e hs ?_
      refine ⟨true, rfl, ?_⟩
      refine g_bool (fun _ => ?_) (fun h => nomatch h)
      walk_at "sx"
      refine g_lenTR e hs ?_
      walk_at "sx"
      rw [← hl]
      exact q
    · walk_at "sx"
      refine g_isiLraw hp ?_
      refine ⟨false, rfl, ?_⟩
      refine g_bool (fun h => nomatch h) (fun _ => ?_)
      exact q
def viewOk (d : PyData) : Bool := match d with
  | .tuple [a, b] => isName a && rowsOk b
  | _ => false
def sp_is_view (K : PySem.W.Frag) : Sp := fun vs H Q _ => ∃ G v d, vs = [v] ∧ Y.Ex G H ∧ Dp K G v d ∧ fit d = true ∧ ∀ G' H', Nx [] G H G' H' → Q (.bl (viewOk d)) H'
theorem ok_is_view (T : Tx fa fn bx K mg) : FnOk P w K mg base CX0 6 (He.ga K "is_view") (fdOf K (He.ga K "is_view")) ["value"] (sp_is_view K) := by
  refine FunD.ok (F_is_view T) sc_is_view (fun vs H Q E h => ?_) (fun cdv A outer s H vs Q E hr h => ?_)
  · obtain ⟨_, _, _, rfl, _⟩ := h
    rfl
  · obtain ⟨G, v, d, rfl, e, hd, hf, q⟩ := h
    refine ⟨_, PSs.nox ((pss_one (ps_ret (pe_and (Y.pe_callC (ok_is_tuple_of T) (cal_is_tuple_of T) (hr.mono (by decide)) (by rfl) pass0 (pa_cons (pv 0) (pa_cons pe_int pa_nil))) (pe_and (Y.pe_callC (ok_is_name T) (cal_is_name T) (hr.mono (by decide)) (by rfl) pass0 (pa_cons (pe_ix (Y.ix_tupK (K := K) rfl) (pv 0) pe_int (fun _ _ => rfl)) pa_nil)) (pe_one (Y.pe_callC (ok__is_rows T) (cal__is_rows T) (hr.mono (by decide)) (by rfl) pass0 (pa_cons (pe_ix (Y.ix_tupK (K := K) rfl) (pv 0) pe_int (fun _ _ => rfl)) pa_nil)))))))), ?_⟩
    walk_at "sx"
    refine ⟨G, v, d, 2, rfl, e, .inl hd, ?_⟩
    walk_at "sx"
    refine g_bool (fun h1 => ?_) (fun h1 => ?_)
    · obtain ⟨a, b, rfl⟩ : ∃ a b, d = .tuple [a, b] := by
        cases d with
        | tuple xs =>
          simp only [tupleOf, decide_eq_true_eq] at h1
          match xs, h1 with
          | [a, b], _ => exact ⟨a, b, rfl⟩
          | [], h | [_], h => simp at h
          | _ :: _ :: _ :: _, h => simp at h; omega
        | _ => cases h1
      walk_at "sx"
      refine g_ixT (k := 0) e hd rfl rfl fun u hu => ?_
      walk_at "sx"
      refine ⟨G, u, a, rfl, e, hu, fit_get (i := 0) (fit_tup hf).2 rfl, fun G1 H1 n1 => ?_⟩
      walk_at "sx"
      refine g_bool (fun h2 => ?_) (fun h2 => ?_)
      · walk_at "sx"
        refine g_ixT (k := 1) n1.gh (dp_mono n1.gg hd) rfl rfl fun u' hu' => ?_
        walk_at "sx"
        refine ⟨G1, u', b, rfl, n1.gh, hu', fun G2 H2 n2 => ?_⟩
        refine q_bl (q G2 H2 (n1.trans n2)) ?_
        simp only [viewOk]
        rw [h2, Bool.true_and]
      · refine q_bl (q G1 H1 n1) ?_
        simp only [viewOk]
        rw [h2, Bool.false_and]
    · refine q_bl (q G H (Nx.refl e)) ?_
      cases d with
      | tuple xs =>
        simp only [tupleOf, decide_eq_false_iff_not] at h1
        match xs, h1 with
        | [a, b], h => exact absurd rfl h
        | [], _ | [_], _ => rfl
        | _ :: _ :: _ :: _, _ => rfl
      | _ => rfl
def linkOk (d : PyData) : Bool := match d with
  | .tuple [a, b, x, y, z] => isName a && isName b && !PyData.eqv a b && within x (-99) 99 && within y (-99) 99 && within z (-999) 999
  | _ => false
theorem linkOk_five {d : PyData} (h : linkOk d = true) : ∃ a b x y z, d = .tuple [a, b, x, y, z] := by
  unfold linkOk at h
  split at h
  · exact ⟨_, _, _, _, _, rfl⟩
  · cases h
theorem tup5 {d : PyData} (h : tupleOf d 5 = true) : ∃ a b x y z, d = .tuple [a, b, x, y, z] := by
  cases d with
  | tuple xs =>
    simp only [tupleOf, decide_eq_true_eq] at h
    match xs, h with
    | [a, b, x, y, z], _ => exact ⟨a, b, x, y, z, rfl⟩
    | [], h | [_], h | [_, _], h | [_, _, _], h | [_, _, _, _], h => simp at h
    | _ :: _ :: _ :: _ :: _ :: _ :: _, h => simp at h; omega
  | _ => cases h
theorem isName_str {d : PyData} (h : isName d = true) : ∃ s, d = .str s ∧ nameOk s = true := by
  cases d with
  | str s => exact ⟨s, rfl, h⟩
  | _ => cases h
def sp_is_link (K : PySem.W.Frag) : Sp := fun vs H Q _ => ∃ G v d, vs = [v] ∧ Y.Ex G H ∧ Dp K G v d ∧ fit d = true ∧ ∀ G' H', Nx [] G H G' H' → Q (.bl (linkOk d)) H'
theorem ok_is_link (T : Tx fa fn bx K mg) : FnOk P w K mg base CX0 3 (He.ga K "is_link") (fdOf K (He.ga K "is_link")) ["value"] (sp_is_link K) := by
  refine FunD.ok (F_is_link T) sc_is_link (fun vs H Q E h => ?_) (fun cdv A outer s H vs Q E hr h => ?_)
  · obtain ⟨_, _, _, rfl, _⟩ := h
    rfl
  · obtain ⟨G, v, d, rfl, e, hd, hf, q⟩ := h
    refine ⟨_, PSs.nox ((pss_cons (ps_if (pt_not (pt_val (Y.pe_callC (ok_is_tuple_of T) (cal_is_tuple_of T) (hr.mono (by decide)) (by rfl) pass0 (pa_cons (pv 0) (pa_cons pe_int pa_nil)))))
      (pss_one (ps_ret pe_bl))
      pss_nil)
      (pss_cons (ps_asg (pv 0) (Y.pg_tupK (K := K) (n := 5) rfl rfl (pgs_cons (pg_name (i := 1) sc_is_link.nd rfl (Or.inl rfl)) (pgs_cons (pg_name (i := 2) sc_is_link.nd rfl (Or.inl rfl)) (pgs_cons (pg_name (i := 3) sc_is_link.nd rfl (Or.inl rfl)) (pgs_cons (pg_name (i := 4) sc_is_link.nd rfl (Or.inl rfl)) (pgs_cons (pg_name (i := 5) sc_is_link.nd rfl (Or.inl rfl)) pgs_nil)))))))
      (pss_cons (ps_if (PW.pt (pw_or (pt_not (pt_val (Y.pe_callC (ok_is_name T) (cal_is_name T) (hr.mono (by decide)) (by rfl) pass0 (pa_cons (pv 1) pa_nil)))) (pw_or (pt_not (pt_val (Y.pe_callC (ok_is_name T) (cal_is_name T) (hr.mono (by decide)) (by rfl) pass0 (pa_cons (pv 2) pa_nil)))) (pw_or1 (pt_cmpR (Y.op_eqDK (K := K) rfl hr.units) (pv 1) (pv 2) (nomark _))))))
      (pss_one (ps_ret pe_bl))
      pss_nil)
      (pss_cons (ps_if (PW.pt (pw_or (pt_not (pt_val (Y.pe_callC (ok_is_within T) (cal_is_within T) (hr.mono (by decide)) (by rfl) pass0 (pa_cons (pv 3) (pa_cons (pe_un un_neg (pe_gint (T.int 23))) (pa_cons (pe_gint (T.int 23)) pa_nil)))))) (pw_or1 (pt_not (pt_val (Y.pe_callC (ok_is_within T) (cal_is_within T) (hr.mono (by decide)) (by rfl) pass0 (pa_cons (pv 4) (pa_cons (pe_un un_neg (pe_gint (T.int 23))) (pa_cons (pe_gint (T.int 23)) pa_nil)))))))))
      (pss_one (ps_ret pe_bl))
      pss_nil)
      (pss_one (ps_ret (Y.pe_callC (ok_is_within T) (cal_is_within T) (hr.mono (by decide)) (by rfl) pass0 (pa_cons (pv 5) (pa_cons (pe_un un_neg (pe_gint (T.int 24))) (pa_cons (pe_gint (T.int 24)) pa_nil))))))))))), ?_⟩
    walk_at "sx"
    refine ⟨G, v, d, 5, rfl, e, .inl hd, ?_⟩
    walk_at "sx"
    refine g_nbool (fun h1 => ?_) (fun h1 => ?_) <;> walk_at "sx"
    · refine q_bl (q G H (Nx.refl e)) ?_
      cases hl : linkOk d with
      | false => rfl
      | true =>
        obtain ⟨_, _, _, _, _, rfl⟩ := linkOk_five hl
        cases h1
    obtain ⟨a, b, x, y, z, rfl⟩ := tup5 h1
    have hff := fitAll_iff.mp (fit_tup hf).2
    refine g_un5 e hd fun v1 v2 v3 v4 v5 d1 d2 d3 d4 d5 => ?_
    walk_at "sx"
    refine ⟨G, v1, a, rfl, e, d1, hff a (by simp), fun G1 H1 n1 => ?_⟩
    walk_at "sx"
    refine g_nbool (fun h1 => ?_) (fun h1 => ?_) <;> walk_at "sx"
    · exact q_bl (q G1 H1 n1) (by simp [linkOk, h1])
    refine ⟨G1, v2, b, rfl, n1.gh, dp_mono n1.gg d2, hff b (by simp), fun G2 H2 n2 => ?_⟩
    walk_at "sx"
    have n := n1.trans n2
    refine g_nbool (fun h2 => ?_) (fun h2 => ?_) <;> walk_at "sx"
    · exact q_bl (q G2 H2 n) (by simp [linkOk, h2])
    have sh : ∀ d ∈ [a, b, x, y, z], isName d = true → SeqAt.shaped d = true := fun d hd hn => by
      obtain ⟨s, rfl, _⟩ := isName_str hn
      exact shaped_fit (hff _ hd) (by simp [PyData.depth])
    refine g_eqD n2.gh (dp_mono n.gg d1) (dp_mono n.gg d2) (sh a (by simp) h1) (sh b (by simp) h2) ?_
    walk_at "sx"
    refine g_bool (fun h3 => ?_) (fun h3 => ?_) <;> walk_at "sx"
    · exact q_bl (q G2 H2 n) (by simp [linkOk, h3])
    refine ⟨G2, v3, x, -99, 99, rfl, n2.gh, dp_mono n.gg d3, ?_⟩
    walk_at "sx"
    refine g_nbool (fun h4 => ?_) (fun h4 => ?_) <;> walk_at "sx"
    · exact q_bl (q G2 H2 n) (by simp [linkOk, h4])
    refine ⟨G2, v4, y, -99, 99, rfl, n2.gh, dp_mono n.gg d4, ?_⟩
    walk_at "sx"
    refine g_nbool (fun h5 => ?_) (fun h5 => ?_) <;> walk_at "sx"
    · exact q_bl (q G2 H2 n) (by simp [linkOk, h5])
    refine ⟨G2, v5, z, -999, 999, rfl, n2.gh, dp_mono n.gg d5, ?_⟩
    exact q_bl (q G2 H2 n) (by simp [linkOk, h1, h2, h3, h4, h5])
/-! the album: its object, its dict, its list -/
def nmOf : PyData → Str
  | .tuple [.str s, _] => s
  | _ => ⟨#[]⟩
def look (s : Str) (vs : List PyData) : Option PyData := vs.find? fun v => decide (nmOf v = s)
/-- what an album may hold -/
structure AOk (vs ls : List PyData) : Prop where
  vl : vs.length ≤ 30
  ll : ls.length ≤ 60
  vo : ∀ v ∈ vs, viewOk v = true ∧ fit v = true
  lo : ∀ v ∈ ls, linkOk v = true ∧ fit v = true
  nd : (vs.map nmOf).Nodup
def AlbAt (K : PySem.W.Frag) (a d l : Addr) (G H : Hp) (vs ls : List PyData) : Prop := G a = none ∧ G d = none ∧ G l = none ∧ AOk vs ls ∧ (∃ dx, H a = some (.ins (He.ga K "Album") dx [("_views", .ref d), ("_links", .ref l)])) ∧
  (∃ kvs, H d = some (.dK kvs) ∧ kvs.map (·.1) = vs.map (fun v => (Sum.inr (nmOf v) : Key)) ∧ DpAll K G (kvs.map (·.2)) vs) ∧ ∃ xs, H l = some (.lst xs) ∧ DpAll K G xs ls
section
variable {K : PySem.W.Frag} {a d l : Addr} {G H G' H' : Hp} {vs ls : List PyData} {M : List Addr}
theorem AlbAt.go (r : AlbAt K a d l G H vs ls) (n : Nx M G H G' H') (ha : a ∉ M) (hd : d ∉ M) (hl : l ∉ M) : AlbAt K a d l G' H' vs ls := by
  obtain ⟨g1, g2, g3, ok, ⟨dx, h1⟩, ⟨kvs, h2, hk, dk⟩, xs, h3, dl⟩ := r
  exact ⟨n.old a g1 ⟨_, h1, fun _ z => nomatch z⟩, n.old d g2 ⟨_, h2, fun _ z => nomatch z⟩, n.old l g3 ⟨_, h3, fun _ z => nomatch z⟩, ok,
    ⟨dx, n.fr a _ ha h1⟩, ⟨kvs, n.fr d _ hd h2, hk, dpAll_mono n.gg dk⟩, xs, n.fr l _ hl h3, dpAll_mono n.gg dl⟩
theorem AlbAt.live (r : AlbAt K a d l G H vs ls) : H a ≠ none ∧ H d ≠ none ∧ H l ≠ none ∧ a ≠ d ∧ a ≠ l ∧ d ≠ l := by
  obtain ⟨g1, g2, g3, ok, ⟨dx, h1⟩, ⟨kvs, h2, hk, dk⟩, xs, h3, dl⟩ := r
  refine ⟨(by rw [h1]; exact fun z => nomatch z), (by rw [h2]; exact fun z => nomatch z), (by rw [h3]; exact fun z => nomatch z), fun z => ?_, fun z => ?_, fun z => ?_⟩
  · subst z; rw [h1] at h2; cases h2
  · subst z; rw [h1] at h3; cases h3
  · subst z; rw [h2] at h3; cases h3
end
theorem look_valV {K : PySem.W.Frag} {G : Hp} (s : Str) : ∀ {kvs : List (Key × V)} {vs : List PyData}, kvs.map (·.1) = vs.map (fun v => (Sum.inr (nmOf v) : Key)) → DpAll K G (kvs.map (·.2)) vs →
    (∀ d, look s vs = some d → ∃ v, valV kvs (Sum.inr s : Key) = some v ∧ Dp K G v d) ∧ (look s vs = none → valV kvs (Sum.inr s : Key) = none)
  | [], [], _, _ => ⟨(fun d h => by cases h), fun _ => rfl⟩
  | [], _ :: _, h, _ => by simp at h
  | _ :: _, [], h, _ => by simp at h
  | (k, u) :: kvs, v :: vs, h, hd => by
    simp only [List.map_cons, List.cons.injEq] at h
    obtain ⟨h1, h2⟩ := h
    cases hd with
    | cons d1 d2 =>
      have ih := look_valV s h2 d2
      by_cases hs : nmOf v = s
      · have e1 : look s (v :: vs) = some v := by unfold look; rw [List.find?_cons_of_pos (by simp [hs])]
        have e2 : valV ((k, u) :: kvs) (Sum.inr s : Key) = some u := by unfold valV; rw [List.find?_cons_of_pos (by simp [h1, hs])]; rfl
        rw [e1, e2]
        exact ⟨fun d hd => by cases hd; exact ⟨u, rfl, d1⟩, fun z => by cases z⟩
      · have e1 : look s (v :: vs) = look s vs := by unfold look; rw [List.find?_cons_of_neg (by simp [hs])]
        have e2 : valV ((k, u) :: kvs) (Sum.inr s : Key) = valV kvs (Sum.inr s) := by unfold valV; rw [List.find?_cons_of_neg (by simp [h1, hs])]
        rw [e1, e2]
        exact ih
theorem look_isSome {K : PySem.W.Frag} {G : Hp} {s : Str} {kvs : List (Key × V)} {vs : List PyData} (h : kvs.map (·.1) = vs.map (fun v => (Sum.inr (nmOf v) : Key))) (hd : DpAll K G (kvs.map (·.2)) vs) : (valV kvs (Sum.inr s : Key)).isSome = (look s vs).isSome := by
  have := look_valV s h hd
  cases e : look s vs with
  | none => rw [this.2 e]; rfl
  | some d =>
    obtain ⟨v, hv, _⟩ := this.1 d e
    rw [hv]; rfl
/-- what an album's method may refuse -/
inductive Er where
  | mis (w : Str)
  | cla (s : Str)
  | unk (s : Str)
  | ove (w : Str)
def RaE (K : PySem.W.Frag) (G H : Hp) (E : XK) : Er → Prop
  | .mis w => RaX (He.ga K "Misused") "why" (.str w) G H E
  | .cla s => RaX (He.ga K "Clashing") "name" (.str s) G H E
  | .unk s => RaX (He.ga K "Unknown") "name" (.str s) G H E
  | .ove w => RaX (He.ga K "Oversized") "limit" (.str w) G H E
theorem view_inv {d : PyData} (h : viewOk d = true) : ∃ s r, d = .tuple [.str s, r] ∧ nameOk s = true ∧ rowsOk r = true := by
  unfold viewOk at h
  split at h
  · rw [Bool.and_eq_true] at h
    obtain ⟨s, rfl, hs⟩ := isName_str h.1
    exact ⟨s, _, rfl, hs, h.2⟩
  · cases h
theorem look_none {s : Str} {ws : List PyData} (h : look s ws = none) : s ∉ ws.map nmOf := by
  intro hm
  obtain ⟨v, hv, rfl⟩ := List.mem_map.mp hm
  have := List.find?_eq_none.mp h v hv
  simp at this
def sp_Album___init__ (K : PySem.W.Frag) : Sp := fun vs H Q _ => ∃ (G : Hp) (a dx : Addr), vs = [.ref a] ∧ Y.Ex G H ∧ G a = none ∧ H a = some (.ins (He.ga K "Album") dx []) ∧
  ∀ d l H', Nx [a] G H G H' → H d = none → H l = none → AlbAt K a d l G H' [] [] → Q .non H'
theorem ok_Album___init__ (T : Tx fa fn bx K mg) : FnOk P w K mg base CX0 1 (He.ma K (He.ga K "Album") "__init__") (fdOf K (He.ma K (He.ga K "Album") "__init__")) ["self"] (sp_Album___init__ K) := by
  refine FunD.ok (F_Album___init__ T) sc_Album___init__ (fun vs H Q E h => ?_) (fun cdv A outer s H vs Q E hr h => ?_)
  · obtain ⟨_, _, _, rfl, _⟩ := h
    rfl
  · obtain ⟨G, a, dx, rfl, e, ga, ha, q⟩ := h
    refine ⟨_, PSs.nox ((pss_cons (Y.ps_fldK (K := K) rfl (pv 0) pe_dnewK rfl)
      (pss_one (Y.ps_fldK (K := K) rfl (pv 0) (pe_lst pa_nil) rfl)))), ?_⟩
    walk_at "sx"
    refine g_new fun d hd => ?_
    walk_at "sx"
    have n1 : Nx [a] G H G (upd H d (.dK [])) := Nx.own e hd |>.pure
    have hda : d ≠ a := fun z => by rw [z, ha] at hd; cases hd
    refine g_sfW (by rw [upd_ne hda.symm]; exact ha) (T.cls 6) (T.noat 39) (by decide) ?_
    walk_at "sx"
    have n2 : Nx [a] G H G (upd (upd H d (.dK [])) a (.ins (He.ga K "Album") dx (putF "_views" (.ref d) []))) := n1.trans (Nx.set n1.gh ga (by simp))
    refine g_lstM (xs := []) n2.gh (Nat.zero_le _) fun l H3 n3 hl hl3 gl => ?_
    walk_at "sx"
    have hla : l ≠ a := fun z => by rw [z, upd_same] at hl; cases hl
    have hld : l ≠ d := fun z => by rw [z, upd_ne hda, upd_same] at hl; cases hl
    refine g_sfW (n3.fr a _ (by simp) upd_same) (T.cls 6) (T.noat 40) (by show 1 < 1000; decide) ?_
    walk_at "sx"
    have n4 := (n2.trans n3.pure).trans (Nx.set (p := a) (o := .ins (He.ga K "Album") dx (putF "_links" (.ref l) (putF "_views" (.ref d) []))) n3.gh ga (by simp))
    refine q d l _ n4 hd (n2.fresh hl) ⟨ga, e.free hd, gl, ⟨by simp, by simp, by simp, by simp, by simp⟩, ⟨dx, upd_same⟩, ⟨[], ?_, rfl, .nil⟩, [], ?_, .nil⟩
    · rw [upd_ne hda]
      exact n3.fr d _ (by simp) (by rw [upd_ne hda, upd_same])
    · rw [upd_ne hla]
      exact hl3
def sp_Album_links (K : PySem.W.Frag) : Sp := fun vs H Q _ => ∃ G a d l ws ls, vs = [.ref a] ∧ Y.Ex G H ∧ AlbAt K a d l G H ws ls ∧ ∀ p H', Nx [] G H G H' → H p = none → LstAt K p G H' ls → Q (.ref p) H'
theorem ok_Album_links (T : Tx fa fn bx K mg) : FnOk P w K mg base CX0 1 (He.ma K (He.ga K "Album") "links") (fdOf K (He.ma K (He.ga K "Album") "links")) ["self"] (sp_Album_links K) := by
  refine FunD.ok (F_Album_links T) sc_Album_links (fun vs H Q E h => ?_) (fun cdv A outer s H vs Q E hr h => ?_)
  · obtain ⟨_, _, _, _, _, _, rfl, _⟩ := h
    rfl
  · obtain ⟨G, a, d, l, ws, ls, rfl, e, hA, q⟩ := h
    refine ⟨_, PSs.nox ((pss_one (ps_ret (pe_callTy (Y.call_listK (K := K) rfl) (by rfl) (T.free 31) (by decide +kernel) (pa_cons (Y.pe_fldK (K := K) rfl (pv 0) rfl) pa_nil))))), ?_⟩
    obtain ⟨g1, g2, g3, ok, ⟨dx, h1⟩, ⟨kvs, h2, hk, dk⟩, xs, h3, dl⟩ := id hA
    walk_at "sx"
    refine g_fdW h1 (T.cls 6) (T.noat 40) rfl ?_
    walk_at "sx"
    exact g_listL e ⟨xs, h3, g3, dl⟩ q
def namesOf (ws : List PyData) : List PyData := ws.map fun v => .str (nmOf v)
def sp_Album_names (K : PySem.W.Frag) : Sp := fun vs H Q _ => ∃ G a d l ws ls, vs = [.ref a] ∧ Y.Ex G H ∧ AlbAt K a d l G H ws ls ∧ ∀ p H', Nx [] G H G H' → H p = none → LstAt K p G H' (namesOf ws) → Q (.ref p) H'
theorem names_dp {K : PySem.W.Frag} {G : Hp} : ∀ {kvs : List (Key × V)} {ws : List PyData}, kvs.map (·.1) = ws.map (fun v => (Sum.inr (nmOf v) : Key)) → DpAll K G (kvs.map fun kv => kV kv.1) (namesOf ws)
  | [], [], _ => .nil
  | [], _ :: _, h => by simp at h
  | _ :: _, [], h => by simp at h
  | (k, u) :: kvs, v :: vs, h => by
    simp only [List.map_cons, List.cons.injEq] at h
    obtain ⟨h1, h2⟩ := h
    refine .cons ?_ (names_dp h2)
    show Dp K G (kV k) (.str (nmOf v))
    rw [h1]
    exact .str _
theorem ok_Album_names (T : Tx fa fn bx K mg) : FnOk P w K mg base CX0 1 (He.ma K (He.ga K "Album") "names") (fdOf K (He.ma K (He.ga K "Album") "names")) ["self"] (sp_Album_names K) := by
  refine FunD.ok (F_Album_names T) sc_Album_names (fun vs H Q E h => ?_) (fun cdv A outer s H vs Q E hr h => ?_)
  · obtain ⟨_, _, _, _, _, _, rfl, _⟩ := h
    rfl
  · obtain ⟨G, a, d, l, ws, ls, rfl, e, hA, q⟩ := h
    refine ⟨_, PSs.nox ((pss_one (ps_ret (pe_callTy (call_list_dK rfl) (by rfl) (T.free 31) (by decide +kernel) (pa_cons (Y.pe_fldK (K := K) rfl (pv 0) rfl) pa_nil))))), ?_⟩
    obtain ⟨g1, g2, g3, ok, ⟨dx, h1⟩, ⟨kvs, h2, hk, dk⟩, xs, h3, dl⟩ := id hA
    walk_at "sx"
    refine g_fdW h1 (T.cls 6) (T.noat 39) rfl ?_
    walk_at "sx"
    refine g_listDk h2 fun p hp => ?_
    exact q p _ (Nx.own e hp) hp ⟨_, upd_same, e.free hp, names_dp hk⟩
theorem ok_Unknown___init__ (T : Tx fa fn bx K mg) : FnOk P w K mg base CX0 1 (He.ma K (He.ga K "Unknown") "__init__") (fdOf K (He.ma K (He.ga K "Unknown") "__init__")) ["self", "name"] (spXi (He.ga K "Unknown") "name") := by
  refine FunD.ok (F_Unknown___init__ T) sc_Unknown___init__ (fun vs H Q E h => ?_) (fun cdv A outer s H vs Q E hr h => ?_)
  · obtain ⟨_, _, rfl, _⟩ := h
    rfl
  · obtain ⟨a, v, rfl, ha, q⟩ := h
    refine ⟨_, PSs.nox ((pss_one (ps_ost (pv 0) (pv 1)))), ?_⟩
    exact ⟨_, rfl, _, rfl, a, _, rfl, (ex_Unknown T).oex, (ex_Unknown T).no, .inl ⟨ha, fun dx hd hne => q dx hd hne⟩⟩
def sp_Album__check_known (K : PySem.W.Frag) : Sp := fun vs H Q E => ∃ G a d l ws ls s, vs = [.ref a, .str s] ∧ Y.Ex G H ∧ AlbAt K a d l G H ws ls ∧ ((look s ws).isSome = true → Q .non H) ∧ (look s ws = none → RaX (He.ga K "Unknown") "name" (.str s) G H E)
theorem okN_Album__check_known (T : Tx fa fn bx K mg) : FnOk P w K mg base (L2N.CX P w) 3 (He.ma K (He.ga K "Album") "_check_known") (fdOf K (He.ma K (He.ga K "Album") "_check_known")) ["self", "name"] (sp_Album__check_known K) := by
  refine FunD.ok (F_Album__check_known T) sc_Album__check_known (fun vs H Q E h => ?_) (fun cdv A outer s H vs Q E hr h => ?_)
  · obtain ⟨_, _, _, _, _, _, _, rfl, _⟩ := h
    rfl
  · obtain ⟨G, a, d, l, ws, ls, s, rfl, e, hA, q, qe⟩ := h
    refine ⟨_, ((pss_one (ps_if (pt_cmp (pc_dnotin (hu_of hr) (pv 1) (Y.pe_fldK (K := K) rfl (pv 0) rfl)))
      (pss_one (Y.ps_raiseIN (ex_Unknown T) (T.glo 32) (ok_Unknown___init__ T) (cal_Unknown___init__ T).b (hr.mono (by decide)) (by rfl) rfl (L2N.takes_of rfl rfl rfl rfl) (by exact (pa_cons (pv 1) pa_nil))))
      pss_nil))), ?_⟩
    obtain ⟨g1, g2, g3, ok, ⟨dx, h1⟩, ⟨kvs, h2, hk, dk⟩, xs, h3, dl⟩ := id hA
    walk_at "sx"
    refine g_fdW h1 (T.cls 6) (T.noat 39) rfl ?_
    walk_at "sx"
    refine g_dniW h2 ?_
    rw [look_isSome hk dk]
    walk_at "sx"
    refine g_nbool (fun h => ?_) (fun h => ?_) <;> walk_at "sx"
    · refine ⟨_, rfl, _, rfl, fun dd hdd => (qe ?_).go (Nx.refl e) hdd⟩
      cases z : look s ws with
      | none => rfl
      | some _ => rw [z] at h; cases h
    · exact q h
theorem ok_Album__check_known (T : Tx fa fn bx K mg) : FnOk P w K mg base (L2.CX P w) 3 (He.ma K (He.ga K "Album") "_check_known") (fdOf K (He.ma K (He.ga K "Album") "_check_known")) ["self", "name"] (sp_Album__check_known K) := Y.okN (okN_Album__check_known T)
theorem ok_Misused___init__ (T : Tx fa fn bx K mg) : FnOk P w K mg base CX0 1 (He.ma K (He.ga K "Misused") "__init__") (fdOf K (He.ma K (He.ga K "Misused") "__init__")) ["self", "why"] (spXi (He.ga K "Misused") "why") := by
  refine FunD.ok (F_Misused___init__ T) sc_Misused___init__ (fun vs H Q E h => ?_) (fun cdv A outer s H vs Q E hr h => ?_)
  · obtain ⟨_, _, rfl, _⟩ := h
    rfl
  · obtain ⟨a, v, rfl, ha, q⟩ := h
    refine ⟨_, PSs.nox ((pss_one (ps_ost (pv 0) (pv 1)))), ?_⟩
    exact ⟨_, rfl, _, rfl, a, _, rfl, (ex_Misused T).oex, (ex_Misused T).no, .inl ⟨ha, fun dx hd hne => q dx hd hne⟩⟩
theorem ok_Oversized___init__ (T : Tx fa fn bx K mg) : FnOk P w K mg base CX0 1 (He.ma K (He.ga K "Oversized") "__init__") (fdOf K (He.ma K (He.ga K "Oversized") "__init__")) ["self", "limit"] (spXi (He.ga K "Oversized") "limit") := by
  refine FunD.ok (F_Oversized___init__ T) sc_Oversized___init__ (fun vs H Q E h => ?_) (fun cdv A outer s H vs Q E hr h => ?_)
  · obtain ⟨_, _, rfl, _⟩ := h
    rfl
  · obtain ⟨a, v, rfl, ha, q⟩ := h
    refine ⟨_, PSs.nox ((pss_one (ps_ost (pv 0) (pv 1)))), ?_⟩
    exact ⟨_, rfl, _, rfl, a, _, rfl, (ex_Oversized T).oex, (ex_Oversized T).no, .inl ⟨ha, fun dx hd hne => q dx hd hne⟩⟩
def lnA : PyData → Str
  | .tuple [.str a, _, _, _, _] => a
  | _ => ⟨#[]⟩
def lnB : PyData → Str
  | .tuple [_, .str b, _, _, _] => b
  | _ => ⟨#[]⟩
theorem link_inv {d : PyData} (h : linkOk d = true) : ∃ a b x y z, d = .tuple [.str a, .str b, x, y, z] ∧ nameOk a = true ∧ nameOk b = true := by
  obtain ⟨a, b, x, y, z, rfl⟩ := linkOk_five h
  simp only [linkOk, Bool.and_eq_true] at h
  obtain ⟨s, rfl, hs⟩ := isName_str h.1.1.1.1.1
  obtain ⟨t, rfl, ht⟩ := isName_str h.1.1.1.1.2
  exact ⟨s, t, x, y, z, rfl, hs, ht⟩
def addL (ws ls : List PyData) (x : PyData) : Option Er := if linkOk x = false then some (.mis "link") else if (look (lnA x) ws).isSome = false then some (.unk (lnA x)) else if (look (lnB x) ws).isSome = false then some (.unk (lnB x)) else if 60 ≤ ls.length then some (.ove "links") else none
def sp_Album_add_link (K : PySem.W.Frag) : Sp := fun vs H Q E => ∃ G a d l ws ls v x, vs = [.ref a, v] ∧ Y.Ex G H ∧ AlbAt K a d l G H ws ls ∧ Dp K G v x ∧ fit x = true ∧ (∀ er, addL ws ls x = some er → RaE K G H E er) ∧
  (addL ws ls x = none → ∀ G' H', Nx [l] G H G' H' → AlbAt K a d l G' H' ws (ls ++ [x]) → Q .non H')
theorem okN_Album_add_link (T : Tx fa fn bx K mg) : FnOk P w K mg base (L2N.CX P w) 4 (He.ma K (He.ga K "Album") "add_link") (fdOf K (He.ma K (He.ga K "Album") "add_link")) ["self", "link"] (sp_Album_add_link K) := by
  refine FunD.ok (F_Album_add_link T) sc_Album_add_link (fun vs H Q E h => ?_) (fun cdv A outer s H vs Q E hr h => ?_)
  · obtain ⟨_, _, _, _, _, _, _, _, rfl, _⟩ := h
    rfl
  · obtain ⟨G, a, d, l, ws, ls, v, x, rfl, e, hA, dv, hf, qe, q⟩ := h
    refine ⟨_, ((pss_cons (ps_if (pt_not (pt_val (Y.pe_callC (ok_is_link T) (cal_is_link T) (hr.mono (by decide)) (by rfl) pass0 (pa_cons (pv 1) pa_nil))))
      (pss_one (Y.ps_raiseIN (ex_Misused T) (T.glo 25) (ok_Misused___init__ T) (cal_Misused___init__ T).b (hr.mono (by decide)) (by rfl) rfl (L2N.takes_of rfl rfl rfl rfl) (by exact (pa_cons pe_str pa_nil))))
      pss_nil)
      (pss_cons (ps_for PassesOwn.leaving rfl (Y.pi_tupK (K := K) rfl (pe_slice (Y.sl_tupAK (K := K) rfl) (pv 1) po_none (po_some pe_int))) (pg_name (i := 2) sc_Album_add_link.nd rfl (Or.inl rfl))
      (pss_one (ps_expr (Y.pe_methC (pv 0) (T.cls 6) (T.meth 29) (okN_Album__check_known T) (hr.mono (by decide)) (cal_Album__check_known T) (Y.passN (L2N.takes_of rfl rfl rfl rfl)) (pa_cons (pv 2) pa_nil)))))
      (pss_cons (ps_if (pt_cmpR op_ge (pe_callB (Y.call_lenK (K := K) rfl) (by rfl) (T.free 3) (by decide +kernel) (pa_cons (Y.pe_fldK (K := K) rfl (pv 0) rfl) pa_nil)) (pe_gint (T.int 30)) (nomark _))
      (pss_one (Y.ps_raiseIN (ex_Oversized T) (T.glo 28) (ok_Oversized___init__ T) (cal_Oversized___init__ T).b (hr.mono (by decide)) (by rfl) rfl (L2N.takes_of rfl rfl rfl rfl) (by exact (pa_cons pe_str pa_nil))))
      pss_nil)
      (pss_one (ps_expr (Y.pe_bmK (K := K) rfl PySem.F.plainAttrs_list PySem.F.slot_list_append PySem.F.type_list_append mt_append (Y.pe_fldK (K := K) rfl (pv 0) rfl) (pa_cons (pv 1) pa_nil)))))))), ?_⟩
    walk_at "sx"
    refine ⟨G, v, x, rfl, e, dv, hf, fun G1 H1 n1 => ?_⟩
    walk_at "sx"
    refine g_nbool (fun hv => ?_) (fun hv => ?_) <;> walk_at "sx"
    · exact ⟨_, rfl, fun dd hdd => (show RaX _ _ _ _ _ _ from qe (.mis "link") (by simp [addL, hv])).go n1 hdd⟩
    obtain ⟨s, t, x3, x4, x5, rfl, hs, ht⟩ := link_inv hv
    replace hA := hA.go n1 (by simp) (by simp) (by simp)
    replace dv := dp_mono n1.gg dv
    refine g_slHi (k := 2) n1.gh dv rfl fun v2 G2 H2 n2 dv2 => ?_
    walk_at "sx"
    have n12 := n1.trans n2
    refine g_walkT n2.gh dv2 fun b hb S => ?_
    refine g_forS (K := K) (M := []) (S []) n2.gh (fun i σ G' H' => ∃ y, σ = [some (.ref a), some v, y] ∧ (1 ≤ i → (look s ws).isSome = true) ∧ (2 ≤ i → (look t ws).isSome = true)) ⟨_, rfl, fun z => absurd z (by decide), fun z => absurd z (by decide)⟩ ?_ ?_
    · rintro i w u σ' G3 H3 G4 H4 hi n3 ⟨y, rfl, p1, p2⟩ n4 du
      have n24 := (n2.trans n3).trans n4
      have hA4 := hA.go n24 (by simp) (by simp) (by simp)
      match i, hi, p1, p2 with
      | 0, hi, p1, p2 =>
        cases (Option.some.inj hi)
        cases dp_str du
        walk_at "sx"
        obtain ⟨g1, g2, g3, ok, ⟨dx, h1⟩, _⟩ := id hA4
        refine g_mth h1 rfl ?_
        walk_at "sx"
        refine ⟨G4, a, d, l, ws, ls, s, rfl, n4.gh, hA4, fun hl => ?_, fun hl => ?_⟩
        · walk_at "sx"
          exact ⟨G4, n3.trans n4, _, rfl, fun _ => hl, fun z => absurd z (by decide)⟩
        · exact (show RaX _ _ _ _ _ _ from qe (.unk s) (by simp [addL, hv, lnA, hl])).trans (n1.trans n24)
      | 1, hi, p1, p2 =>
        cases (Option.some.inj hi)
        cases dp_str du
        walk_at "sx"
        obtain ⟨g1, g2, g3, ok, ⟨dx, h1⟩, _⟩ := id hA4
        refine g_mth h1 rfl ?_
        walk_at "sx"
        refine ⟨G4, a, d, l, ws, ls, t, rfl, n4.gh, hA4, fun hl => ?_, fun hl => ?_⟩
        · walk_at "sx"
          exact ⟨G4, n3.trans n4, _, rfl, fun _ => p1 (by decide), fun _ => hl⟩
        · exact (show RaX _ _ _ _ _ _ from qe (.unk t) (by simp [addL, hv, lnA, lnB, hl, p1 (by decide)])).trans (n1.trans n24)
      | i + 2, hi, _, _ => simp at hi
    rintro σ' G3 H3 n3 ⟨y, rfl, p1, p2⟩
    replace p1 := p1 (by show 1 ≤ 2; decide)
    replace p2 := p2 (by show 2 ≤ 2; decide)
    have n13 := n12.trans n3
    replace hA := hA.go (n2.trans n3) (by simp) (by simp) (by simp)
    replace dv := dp_mono (n2.trans n3).gg dv
    obtain ⟨g1, g2, g3, ok, ⟨dx, h1⟩, ⟨kvs, h2, hk, dk⟩, xs, h3, dl⟩ := id hA
    have lv := hA.live
    walk_at "sx"
    refine g_fdW h1 (T.cls 6) (T.noat 40) rfl ?_
    walk_at "sx"
    refine g_lenM h3 ?_
    walk_at "sx"
    have hlen := dpAll_len dl
    refine g_dec (fun h60 => ?_) (fun h60 => ?_) <;> walk_at "sx"
    · exact ⟨_, rfl, fun dd hdd => (show RaX _ _ _ _ _ _ from qe (.ove "links") (by simp [addL, hv, lnA, lnB, p1, p2]; omega)).go n13 hdd⟩
    refine g_fdW h1 (T.cls 6) (T.noat 40) rfl ?_
    refine g_tyL h3 ?_
    walk_at "sx"
    refine g_app h3 (szl (by omega)) ?_
    refine q (by simp [addL, hv, lnA, lnB, p1, p2]; omega) G3 _ (n13.pure.trans (Nx.set n3.gh g3 (by simp))) ⟨g1, g2, g3, ⟨ok.vl, ?_, ok.vo, ?_, ok.nd⟩, ⟨dx, by rw [upd_ne lv.2.2.2.2.1]; exact h1⟩, ⟨kvs, by rw [upd_ne lv.2.2.2.2.2]; exact h2, hk, dk⟩, _, upd_same, dpAll_snoc dl dv⟩
    · rw [List.length_append]; simp; omega
    · intro w hw
      rcases List.mem_append.mp hw with hw | hw
      · exact ok.lo w hw
      · simp only [List.mem_cons, List.not_mem_nil, or_false] at hw
        subst hw
        exact ⟨hv, hf⟩
theorem ok_Album_add_link (T : Tx fa fn bx K mg) : FnOk P w K mg base (L2.CX P w) 4 (He.ma K (He.ga K "Album") "add_link") (fdOf K (He.ma K (He.ga K "Album") "add_link")) ["self", "link"] (sp_Album_add_link K) := Y.okN (okN_Album_add_link T)
theorem ok_Clashing___init__ (T : Tx fa fn bx K mg) : FnOk P w K mg base CX0 1 (He.ma K (He.ga K "Clashing") "__init__") (fdOf K (He.ma K (He.ga K "Clashing") "__init__")) ["self", "name"] (spXi (He.ga K "Clashing") "name") := by
  refine FunD.ok (F_Clashing___init__ T) sc_Clashing___init__ (fun vs H Q E h => ?_) (fun cdv A outer s H vs Q E hr h => ?_)
  · obtain ⟨_, _, rfl, _⟩ := h
    rfl
  · obtain ⟨a, v, rfl, ha, q⟩ := h
    refine ⟨_, PSs.nox ((pss_one (ps_ost (pv 0) (pv 1)))), ?_⟩
    exact ⟨_, rfl, _, rfl, a, _, rfl, (ex_Clashing T).oex, (ex_Clashing T).no, .inl ⟨ha, fun dx hd hne => q dx hd hne⟩⟩
def addV (ws : List PyData) (x : PyData) : Option Er := if viewOk x = false then some (.mis "view") else if (look (nmOf x) ws).isSome = true then some (.cla (nmOf x)) else if 30 ≤ ws.length then some (.ove "views") else none
def sp_Album_add_view (K : PySem.W.Frag) : Sp := fun vs H Q E => ∃ G a d l ws ls v x, vs = [.ref a, v] ∧ Y.Ex G H ∧ AlbAt K a d l G H ws ls ∧ Dp K G v x ∧ fit x = true ∧ (∀ er, addV ws x = some er → RaE K G H E er) ∧
  (addV ws x = none → ∀ G' H', Nx [d] G H G' H' → AlbAt K a d l G' H' (ws ++ [x]) ls → Q .non H')
theorem put_new {kvs : List (Key × V)} {k : Key} {v : V} (h : (valV kvs k).isSome = false) : putK kvs k v = kvs ++ [(k, v)] := by
  unfold putK
  rw [if_neg]
  intro z
  unfold valV at h
  rw [Option.isSome_map] at h
  cases e : kvs.find? (fun kv => decide (kv.1 = k)) with
  | some _ => rw [e] at h; cases h
  | none =>
    obtain ⟨x, hx, hx2⟩ := List.any_eq_true.mp z
    exact List.find?_eq_none.mp e x hx hx2
theorem okN_Album_add_view (T : Tx fa fn bx K mg) : FnOk P w K mg base (L2N.CX P w) 7 (He.ma K (He.ga K "Album") "add_view") (fdOf K (He.ma K (He.ga K "Album") "add_view")) ["self", "view"] (sp_Album_add_view K) := by
  refine FunD.ok (F_Album_add_view T) sc_Album_add_view (fun vs H Q E h => ?_) (fun cdv A outer s H vs Q E hr h => ?_)
  · obtain ⟨_, _, _, _, _, _, _, _, rfl, _⟩ := h
    rfl
  · obtain ⟨G, a, d, l, ws, ls, v, x, rfl, e, hA, dv, hf, qe, q⟩ := h
    refine ⟨_, ((pss_cons (ps_if (pt_not (pt_val (Y.pe_callC (ok_is_view T) (cal_is_view T) (hr.mono (by decide)) (by rfl) pass0 (pa_cons (pv 1) pa_nil))))
      (pss_one (Y.ps_raiseIN (ex_Misused T) (T.glo 25) (ok_Misused___init__ T) (cal_Misused___init__ T).b (hr.mono (by decide)) (by rfl) rfl (L2N.takes_of rfl rfl rfl rfl) (by exact (pa_cons pe_str pa_nil))))
      pss_nil)
      (pss_cons (ps_set (i := 2) sc_Album_add_view.nd rfl (Or.inl rfl) (pe_ix (Y.ix_tupK (K := K) rfl) (pv 1) pe_int (fun _ _ => rfl)))
      (pss_cons (ps_if (pt_cmp (pc_din (hu_of hr) (pv 2) (Y.pe_fldK (K := K) rfl (pv 0) rfl)))
      (pss_one (Y.ps_raiseIN (ex_Clashing T) (T.glo 26) (ok_Clashing___init__ T) (cal_Clashing___init__ T).b (hr.mono (by decide)) (by rfl) rfl (L2N.takes_of rfl rfl rfl rfl) (by exact (pa_cons (pv 2) pa_nil))))
      pss_nil)
      (pss_cons (ps_if (pt_cmpR op_ge (pe_callB Y.call_lenDk (by rfl) (T.free 3) (by decide +kernel) (pa_cons (Y.pe_fldK (K := K) rfl (pv 0) rfl) pa_nil)) (pe_gint (T.int 27)) (nomark _))
      (pss_one (Y.ps_raiseIN (ex_Oversized T) (T.glo 28) (ok_Oversized___init__ T) (cal_Oversized___init__ T).b (hr.mono (by decide)) (by rfl) rfl (L2N.takes_of rfl rfl rfl rfl) (by exact (pa_cons pe_str pa_nil))))
      pss_nil)
      (pss_one (ps_dput (hu_of hr) (Y.pe_fldK (K := K) rfl (pv 0) rfl) (pv 2) (pv 1) rfl))))))), ?_⟩
    walk_at "sx"
    refine ⟨G, v, x, rfl, e, dv, hf, fun G1 H1 n1 => ?_⟩
    walk_at "sx"
    refine g_nbool (fun hv => ?_) (fun hv => ?_) <;> walk_at "sx"
    · exact ⟨_, rfl, fun dd hdd => (show RaX _ _ _ _ _ _ from qe (.mis "view") (by simp [addV, hv])).go n1 hdd⟩
    obtain ⟨s, r, rfl, hs, hr⟩ := view_inv hv
    replace hA := hA.go n1 (by simp) (by simp) (by simp)
    replace dv := dp_mono n1.gg dv
    obtain ⟨g1, g2, g3, ok, ⟨dx, h1⟩, ⟨kvs, h2, hk, dk⟩, xs, h3, dl⟩ := id hA
    have lv := hA.live
    refine g_ixT (k := 0) n1.gh dv rfl rfl fun vn dn => ?_
    cases dp_str dn
    walk_at "sx"
    refine g_fdW h1 (T.cls 6) (T.noat 39) rfl ?_
    walk_at "sx"
    refine g_dinW h2 ?_
    walk_at "sx"
    refine g_bool (fun hl => ?_) (fun hl => ?_) <;> walk_at "sx"
    · rw [look_isSome hk dk] at hl
      exact ⟨_, rfl, _, rfl, fun dd hdd => (show RaX _ _ _ _ _ _ from qe (.cla s) (by simp [addV, hv, nmOf, hl])).go n1 hdd⟩
    have hput := put_new (v := v) hl
    rw [look_isSome hk dk] at hl
    refine g_fdW h1 (T.cls 6) (T.noat 39) rfl ?_
    walk_at "sx"
    refine ⟨d, kvs, rfl, h2, ?_⟩
    walk_at "sx"
    have hlen : kvs.length = ws.length := by
      have := congrArg List.length hk
      simpa using this
    refine g_dec (fun h30 => ?_) (fun h30 => ?_) <;> walk_at "sx"
    · exact ⟨_, rfl, fun dd hdd => (show RaX _ _ _ _ _ _ from qe (.ove "views") (by simp [addV, hv, nmOf, hl]; omega)).go n1 hdd⟩
    refine g_fdW h1 (T.cls 6) (T.noat 39) rfl ?_
    walk_at "sx"
    refine ⟨d, _, rfl, .inl ⟨kvs, .inr s, h2, rfl, szl (by omega), rfl⟩, ?_⟩
    walk_at "sx"
    rw [hput]
    have hno : look s ws = none := by
      cases z : look s ws with
      | none => rfl
      | some _ => rw [z] at hl; cases hl
    refine q (by simp [addV, hv, nmOf, hl]; omega) G1 _ (n1.pure.trans (Nx.set n1.gh g2 (by simp))) ⟨g1, g2, g3, ⟨?_, ok.ll, ?_, ok.lo, ?_⟩, ⟨dx, by rw [upd_ne lv.2.2.2.1]; exact h1⟩, ⟨_, upd_same, ?_, ?_⟩, xs, by rw [upd_ne lv.2.2.2.2.2.symm]; exact h3, dl⟩
    · rw [List.length_append]; simp; omega
    · intro w hw
      rcases List.mem_append.mp hw with hw | hw
      · exact ok.vo w hw
      · simp only [List.mem_cons, List.not_mem_nil, or_false] at hw
        subst hw
        exact ⟨hv, hf⟩
    · rw [List.map_append]
      refine List.nodup_append.mpr ⟨ok.nd, by simp, fun x hx y hy => ?_⟩
      simp only [List.map_cons, List.map_nil, List.mem_cons, List.not_mem_nil, or_false] at hy
      intro z
      subst z hy
      exact look_none hno hx
    · rw [List.map_append, List.map_append, hk]; rfl
    · rw [List.map_append]; exact dpAll_snoc dk dv
theorem ok_Album_add_view (T : Tx fa fn bx K mg) : FnOk P w K mg base (L2.CX P w) 7 (He.ma K (He.ga K "Album") "add_view") (fdOf K (He.ma K (He.ga K "Album") "add_view")) ["self", "view"] (sp_Album_add_view K) := Y.okN (okN_Album_add_view T)
def sp__law_wide (K : PySem.W.Frag) : Sp := fun vs H Q _ => ∃ (G : Hp) (a : Addr) (ns : List Int) (k : Int), vs = [.ref a, .int k] ∧ Y.Ex G H ∧ SqL K G a (ns.map V.int) ∧ 0 ≤ k ∧ ∀ r, 0 ≤ r → Q (.int r) H
theorem ok__law_wide (T : Tx fa fn bx K mg) : FnOk P w K mg base CX0 1 (He.ga K "_law_wide") (fdOf K (He.ga K "_law_wide")) ["script", "k"] (sp__law_wide K) := by
  refine FunD.ok (F__law_wide T) sc__law_wide (fun vs H Q E h => ?_) (fun cdv A outer s H vs Q E hr h => ?_)
  · obtain ⟨_, _, _, _, rfl, _⟩ := h
    rfl
  · obtain ⟨G, a, ns, k, rfl, e, hs, hk, q⟩ := h
    refine ⟨_, PSs.nox ((pss_cons (ps_set (i := 2) sc__law_wide.nd rfl (Or.inl rfl) pe_int)
      (pss_cons (ps_if (pt_cmpR op_lt (pv 1) (pe_callB (Y.call_lenK (K := K) rfl) (by rfl) (T.free 3) (by decide +kernel) (pa_cons (pv 0) pa_nil)) (nomark _))
      (pss_one (ps_set (i := 2) sc__law_wide.nd rfl (Or.inl rfl) (pe_callB Y.call_abs (by rfl) (T.free 33) (by decide +kernel) (pa_cons (pe_ix (Y.ix_listK (K := K) rfl) (pv 0) (pv 1) (fun _ _ => rfl)) pa_nil))))
      pss_nil)
      (pss_cons (ps_if (pt_cmpR op_ge (pv 2) pe_int (nomark _))
      (pss_one (ps_ret (pv 2)))
      pss_nil)
      (pss_cons (ps_set (i := 3) sc__law_wide.nd rfl (Or.inl rfl) (pe_op op_modN (pe_callTy Y.call_int1 (by rfl) (T.free 2) (by decide +kernel) (pa_cons (pe_op op_add (pe_op op_mul (pe_op op_add (pv 2) pe_int) pe_int) (pe_op op_mul (pe_op op_add (pv 1) pe_int) pe_int)) pa_nil)) pe_int))
      (pss_one (ps_ret (pe_op op_modN (pe_callTy Y.call_int1 (by rfl) (T.free 2) (by decide +kernel) (pa_cons (pe_op op_add (pe_op op_mul (pv 3) pe_int) (pe_op op_fdivN (pv 3) pe_int)) pa_nil)) pe_int)))))))), ?_⟩
    walk_at "sx"
    refine g_lenK e hs ?_
    walk_at "sx"
    refine g_dec (fun h1 => ?_) (fun h1 => ?_) <;> walk_at "sx"
    · rw [List.length_map] at h1
      have hl : k.toNat < ns.length := by omega
      refine g_ixK e hs (k := k.toNat) (v := .int ns[k.toNat]) (by simp [hl]) (by omega) ?_
      walk_at "sx"
      refine g_dec (fun h2 => ?_) (fun h2 => ?_) <;> walk_at "sx"
      · exact q _ (by omega)
      · refine g_I (.inr (by decide)) ?_
        walk_at "sx"
        refine g_I (.inr (by decide)) ?_
        walk_at "sx"
        refine g_I (by decide) ?_
        walk_at "sx"
        refine g_I (.inr (by decide)) ?_
        walk_at "sx"
        refine g_I ⟨by decide, by decide⟩ ?_
        walk_at "sx"
        refine g_I (by decide) ?_
        walk_at "sx"
        exact q _ (Int.fmod_nonneg_of_pos _ (by decide))
    · refine g_dec (fun h2 => ?_) (fun h2 => ?_) <;> walk_at "sx"
      · exact q _ (Int.le_refl _)
      · refine g_I (.inr (by decide)) ?_
        walk_at "sx"
        refine g_I (.inr (by decide)) ?_
        walk_at "sx"
        refine g_I (by decide) ?_
        walk_at "sx"
        refine g_I (.inr (by decide)) ?_
        walk_at "sx"
        refine g_I ⟨by decide, by decide⟩ ?_
        walk_at "sx"
        refine g_I (by decide) ?_
        walk_at "sx"
        exact q _ (Int.fmod_nonneg_of_pos _ (by decide))
def sp__law_take (K : PySem.W.Frag) : Sp := fun vs H Q _ => ∃ G a m, vs = [.ref a, .int m] ∧ Y.Ex G H ∧ PoolAt K a G H ∧ 0 < m ∧ m < 1073741824 ∧ ∀ i H', 0 ≤ i → i < m → Nx [a] G H G H' → PoolAt K a G H' → Q (.int i) H'
theorem take_end {K : PySem.W.Frag} {G H : Hp} {Q : VK} {a l : Addr} {x k m : Int} {ns : List Int} (e : Y.Ex G H) (g : G a = none) (h : H a = some (.lst [.int x, .ref l, .int k])) (hl : SqL K G l (ns.map V.int)) (hx : 0 ≤ x) (hk : -1 ≤ k) (h0 : 0 < m) (h1 : m < 1073741824)
    (q : ∀ i H', 0 ≤ i → i < m → Nx [a] G H G H' → PoolAt K a G H' → Q (.int i) H') : Q (.int (x.fmod m)) (upd H a (.lst [.int (x.fdiv m), .ref l, .int k])) := by
  refine q _ _ (Int.fmod_nonneg_of_pos _ h0) (Int.fmod_lt_of_pos _ h0) (Nx.set e g (by simp)) ⟨g, _, k, l, ns, upd_same, hl, ?_, hk⟩
  rw [Int.fdiv_eq_ediv_of_nonneg _ (by omega)]
  exact Int.ediv_nonneg hx (by omega)
theorem ok__law_take (T : Tx fa fn bx K mg) : FnOk P w K mg base CX0 2 (He.ga K "_law_take") (fdOf K (He.ga K "_law_take")) ["pool", "most"] (sp__law_take K) := by
  refine FunD.ok (F__law_take T) sc__law_take (fun vs H Q E h => ?_) (fun cdv A outer s H vs Q E hr h => ?_)
  · obtain ⟨_, _, _, rfl, _⟩ := h
    rfl
  · obtain ⟨G, a, m, rfl, e, ⟨g, x, k, l, ns, hp, hl, hx, hk⟩, h0, h1, q⟩ := h
    refine ⟨_, PSs.nox ((pss_cons (ps_if (pt_cmpR op_lt (pe_ix (Y.ix_listK (K := K) rfl) (pv 0) pe_int (fun _ _ => rfl)) pe_int (nomark _))
      (pss_cons (ps_asg (pe_op op_add (pe_ix (Y.ix_listK (K := K) rfl) (pv 0) pe_int (fun _ _ => rfl)) pe_int) (pg_sub (pv 0) pe_int set_list))
      (pss_one (ps_asg (Y.pe_callC (ok__law_wide T) (cal__law_wide T) (hr.mono (by decide)) (by rfl) pass0 (pa_cons (pe_ix (Y.ix_listK (K := K) rfl) (pv 0) pe_int (fun _ _ => rfl)) (pa_cons (pe_ix (Y.ix_listK (K := K) rfl) (pv 0) pe_int (fun _ _ => rfl)) pa_nil))) (pg_sub (pv 0) pe_int set_list))))
      pss_nil)
      (pss_cons (ps_set (i := 2) sc__law_take.nd rfl (Or.inl rfl) (pe_op op_modN (pe_callTy Y.call_int1 (by rfl) (T.free 2) (by decide +kernel) (pa_cons (pe_ix (Y.ix_listK (K := K) rfl) (pv 0) pe_int (fun _ _ => rfl)) pa_nil)) (pv 1)))
      (pss_cons (ps_asg (pe_op op_fdivN (pe_ix (Y.ix_listK (K := K) rfl) (pv 0) pe_int (fun _ _ => rfl)) (pv 1)) (pg_sub (pv 0) pe_int set_list))
      (pss_one (ps_ret (pv 2))))))), ?_⟩
    walk_at "sx"
    refine g_ixM hp (k := 0) rfl rfl ?_
    walk_at "sx"
    refine g_dec (fun h2 => ?_) (fun h2 => ?_) <;> walk_at "sx"
    · refine g_ixM hp (k := 2) rfl rfl ?_
      walk_at "sx"
      refine g_setM hp (k := 2) rfl (by simp) ?_
      have n1 : Nx [a] G H G (upd H a (.lst [.int x, .ref l, .int (k + 1)])) := Nx.set e g (by simp)
      have hp1 : (upd H a (.lst [.int x, .ref l, .int (k + 1)])) a = some (.lst [.int x, .ref l, .int (k + 1)]) := upd_same
      show tSeq _ _ _ _ (upd H a (.lst [.int x, .ref l, .int (k + 1)]))
      generalize upd H a (.lst [.int x, .ref l, .int (k + 1)]) = H1 at n1 hp1 ⊢
      walk_at "sx"
      refine g_ixM hp1 (k := 1) rfl rfl ?_
      walk_at "sx"
      refine g_ixM hp1 (k := 2) rfl rfl ?_
      walk_at "sx"
      refine ⟨G, l, ns, k + 1, rfl, n1.gh, hl, by omega, fun r hr => ?_⟩
      walk_at "sx"
      refine g_setM hp1 (k := 0) rfl (by simp) ?_
      have n2 : Nx [a] G H1 G (upd H1 a (.lst [.int r, .ref l, .int (k + 1)])) := Nx.set n1.gh g (by simp)
      have hp2 : (upd H1 a (.lst [.int r, .ref l, .int (k + 1)])) a = some (.lst [.int r, .ref l, .int (k + 1)]) := upd_same
      show tNext _ _ (upd H1 a (.lst [.int r, .ref l, .int (k + 1)]))
      generalize upd H1 a (.lst [.int r, .ref l, .int (k + 1)]) = H2 at n2 hp2 ⊢
      walk_at "sx"
      refine g_ixM hp2 (k := 0) rfl rfl ?_
      walk_at "sx"
      refine g_I (by omega) ?_
      walk_at "sx"
      refine g_ixM hp2 (k := 0) rfl rfl ?_
      walk_at "sx"
      refine g_I ⟨by omega, by omega⟩ ?_
      walk_at "sx"
      refine g_setM hp2 (k := 0) rfl (by simp) ?_
      walk_at "sx"
      exact take_end n2.gh g hp2 hl hr (by omega) h0 h1 fun i H' a1 a2 n p => q i H' a1 a2 ((n1.trans n2).trans n) p
    · refine g_ixM hp (k := 0) rfl rfl ?_
      walk_at "sx"
      refine g_I (by omega) ?_
      walk_at "sx"
      refine g_ixM hp (k := 0) rfl rfl ?_
      walk_at "sx"
      refine g_I ⟨by omega, by omega⟩ ?_
      walk_at "sx"
      refine g_setM hp (k := 0) rfl (by simp) ?_
      walk_at "sx"
      exact take_end e g hp hl hx hk h0 h1 q
def headq (s : Str) : Bool := match s.cps.toList with
  | [] => false
  | c :: _ => letq c
def partsq (s : Str) : Bool := s.cps.toList.all fun c => letq c || digq c
theorem nameOk_of {s : Str} (h1 : 1 ≤ s.length) (h2 : s.length ≤ 8) (h3 : headq s = true) (h4 : partsq s = true) : nameOk s = true := by
  unfold nameOk
  rw [decide_eq_true (show 1 ≤ s.length ∧ s.length ≤ 8 from ⟨h1, h2⟩)]
  unfold headq at h3
  unfold partsq at h4
  rw [h4, Bool.and_true, Bool.true_and]
  exact h3
theorem app_list (a b : Str) : (a ++ b).cps.toList = a.cps.toList ++ b.cps.toList := by
  show (a.cps ++ b.cps).toList = _
  simp
theorem app_len (a b : Str) : (a ++ b).length = a.length + b.length := by
  show (a.cps ++ b.cps).size = _
  rw [Array.size_append]
  rfl
theorem headq_app {a b : Str} (h : headq a = true) : headq (a ++ b) = true := by
  unfold headq at h ⊢
  rw [app_list]
  cases e : a.cps.toList with
  | nil => rw [e] at h; cases h
  | cons c r => rw [e] at h; exact h
theorem partsq_app {a b : Str} (h : partsq a = true) (h2 : partsq b = true) : partsq (a ++ b) = true := by
  unfold partsq at h h2 ⊢
  rw [app_list, List.all_append, h, h2]
  rfl
theorem let_mem {c : Nat} (h : c ∈ ("abcdefghijklmnopqrstuvwxyz" : Str).cps.toList) : letq c = true := decide_eq_true h
theorem sign_mem {c : Nat} (h : c ∈ (("abcdefghijklmnopqrstuvwxyz" : Str) ++ ("0123456789" : Str)).cps.toList) : (letq c || digq c) = true := by
  rw [app_list] at h
  rcases List.mem_append.mp h with h | h
  · rw [show letq c = true from decide_eq_true h]; rfl
  · rw [show digq c = true from decide_eq_true h, Bool.or_true]
theorem let_small {c : Nat} (h : letq c = true) : c < 128 := by
  have h2 : c ∈ ("abcdefghijklmnopqrstuvwxyz" : Str).cps.toList := of_decide_eq_true h
  exact (show ∀ c ∈ ("abcdefghijklmnopqrstuvwxyz" : Str).cps.toList, c < 128 by decide +kernel) c h2
theorem dig_small {c : Nat} (h : digq c = true) : c < 128 := by
  have h2 : c ∈ ("0123456789" : Str).cps.toList := of_decide_eq_true h
  exact (show ∀ c ∈ ("0123456789" : Str).cps.toList, c < 128 by decide +kernel) c h2
theorem nameOk_inv {s : Str} (h : nameOk s = true) : 1 ≤ s.length ∧ s.length ≤ 8 ∧ headq s = true ∧ partsq s = true := by
  unfold nameOk at h
  simp only [Bool.and_eq_true, decide_eq_true_eq] at h
  exact ⟨h.1.1.1, h.1.1.2, h.1.2, h.2⟩
theorem fit_name {s : Str} (h : nameOk s = true) : fit (.str s) = true := by
  obtain ⟨h1, h2, _, h4⟩ := nameOk_inv h
  rw [fit, decide_eq_true (by omega), Bool.true_and]
  unfold PyData.strOk
  rw [← Array.all_toList]
  refine List.all_eq_true.mpr fun c hc => ?_
  have := List.all_eq_true.mp h4 c hc
  refine decide_eq_true ?_
  rcases Bool.or_eq_true_iff.mp this with z | z
  · have := let_small z; omega
  · have := dig_small z; omega
theorem fit_list {ds : List PyData} (h1 : ds.length ≤ 100000) (h : ∀ d ∈ ds, fit d = true) : fit (.list ds) = true := by rw [fit, decide_eq_true h1, Bool.true_and]; exact fitAll_iff.mpr h
def sp__law_name (K : PySem.W.Frag) : Sp := fun vs H Q _ => ∃ G a, vs = [.ref a] ∧ Y.Ex G H ∧ PoolAt K a G H ∧ ∀ s G' H', ((nameOk s = true ∧ s ≠ "zz9") ∧ (s.length ≠ 3 ∨ s = "end")) → Nx [a] G H G' H' → PoolAt K a G' H' → Q (.str s) H'
theorem ok__law_name (T : Tx fa fn bx K mg) : FnOk P w K mg base CX0 3 (He.ga K "_law_name") (fdOf K (He.ga K "_law_name")) ["pool"] (sp__law_name K) := by
  refine FunD.ok (F__law_name T) sc__law_name (fun vs H Q E h => ?_) (fun cdv A outer s H vs Q E hr h => ?_)
  · obtain ⟨_, _, rfl, _⟩ := h
    rfl
  · obtain ⟨G, a, rfl, e, hp, q⟩ := h
    refine ⟨_, PSs.nox ((pss_cons (ps_set (i := 1) sc__law_name.nd rfl (Or.inl rfl) pe_str)
      (pss_cons (ps_set (i := 2) sc__law_name.nd rfl (Or.inl rfl) (pe_ix (Y.ix_listK (K := K) rfl) (pe_lst (pa_cons pe_str (pa_cons pe_str (pa_cons pe_str (pa_cons pe_str (pa_cons pe_str (pa_cons pe_str pa_nil))))))) (Y.pe_callC (ok__law_take T) (cal__law_take T) (hr.mono (by decide)) (by rfl) pass0 (pa_cons (pv 0) (pa_cons pe_int pa_nil))) (fun _ _ => rfl)))
      (pss_cons (ps_if (pt_cmpR op_eq (Y.pe_callC (ok__law_take T) (cal__law_take T) (hr.mono (by decide)) (by rfl) pass0 (pa_cons (pv 0) (pa_cons pe_int pa_nil))) pe_int (nomark _))
      (pss_cons (ps_set (i := 2) sc__law_name.nd rfl (Or.inl rfl) (pe_ix ix_str (pv 1) (Y.pe_callC (ok__law_take T) (cal__law_take T) (hr.mono (by decide)) (by rfl) pass0 (pa_cons (pv 0) (pa_cons pe_int pa_nil))) (fun _ _ => rfl)))
      (pss_one (ps_for PassesOwn.never rfl (pi_range1 (by rfl) (T.free 16) (pa_cons (pe_ix (Y.ix_listK (K := K) rfl) (pe_lst (pa_cons pe_int (pa_cons pe_int (pa_cons pe_int (pa_cons pe_int pa_nil))))) (Y.pe_callC (ok__law_take T) (cal__law_take T) (hr.mono (by decide)) (by rfl) pass0 (pa_cons (pv 0) (pa_cons pe_int pa_nil))) (fun _ _ => rfl)) pa_nil)) (pg_name (i := 3) sc__law_name.nd rfl (Or.inl rfl))
      (pss_one (ps_set (i := 2) sc__law_name.nd rfl (Or.inl rfl) (pe_op Y.op_addS (pv 2) (pe_ix ix_str (pe_op Y.op_addS (pv 1) pe_str) (Y.pe_callC (ok__law_take T) (cal__law_take T) (hr.mono (by decide)) (by rfl) pass0 (pa_cons (pv 0) (pa_cons pe_int pa_nil))) (fun _ _ => rfl))))))))
      pss_nil)
      (pss_one (ps_ret (pv 2))))))), ?_⟩
    walk_at "sx"
    refine g_lstD (K := K) (ds := [.str "a", .str "b", .str "view", .str "end", .str "link", .str "c"]) e (by walk_at "da") (by show 6 ≤ sizeLine; decide) fun p G1 H1 n1 dp => ?_
    walk_at "sx"
    refine ⟨G1, a, 6, rfl, n1.gh, hp.go n1 (by simp), by decide, by decide, fun i H2 i0 i1 n2 hp2 => ?_⟩
    walk_at "sx"
    refine g_ixLn n2.gh dp i0 (by simpa using i1) fun v d hm _ dv => ?_
    obtain ⟨s, rfl, hs⟩ : ∃ s, d = .str s ∧ ((nameOk s = true ∧ s ≠ "zz9") ∧ (s.length ≠ 3 ∨ s = "end")) := by
      simp only [List.mem_cons, List.not_mem_nil, or_false] at hm
      rcases hm with h | h | h | h | h | h <;> exact ⟨_, h, by decide +kernel⟩
    cases dp_str dv
    have n12 := n1.pure.trans n2
    clear dp dv hm i0 i1
    walk_at "sx"
    refine ⟨G1, a, 3, rfl, n2.gh, hp2, by decide, by decide, fun i H3 i0 i1 n3 hp3 => ?_⟩
    walk_at "sx"
    have n13 := n12.trans n3
    refine g_dec (fun h2 => ?_) (fun h2 => ?_) <;> walk_at "sx"
    · refine ⟨G1, a, 26, rfl, n3.gh, hp3, by decide, by decide, fun i4 H4 j0 j1 n4 hp4 => ?_⟩
      walk_at "sx"
      refine g_ixSn (by decide) j0 j1 fun c hc => ?_
      walk_at "sx"
      refine g_lstD (K := K) (ds := [.int 0, .int 1, .int 3, .int 7]) n4.gh (by walk_at "da") (by show 4 ≤ sizeLine; decide) fun p2 G5 H5 n5 dp2 => ?_
      walk_at "sx"
      refine ⟨G5, a, 4, rfl, n5.gh, hp4.go n5 (by simp), by decide, by decide, fun i6 H6 k0 k1 n6 hp6 => ?_⟩
      walk_at "sx"
      refine g_ixLn n6.gh dp2 k0 (by simpa using k1) fun v d hm _ dv => ?_
      obtain ⟨m, rfl, hm0, hm7, hm2⟩ : ∃ m : Int, d = .int m ∧ 0 ≤ m ∧ m ≤ 7 ∧ m ≠ 2 := by
        simp only [List.mem_cons, List.not_mem_nil, or_false] at hm
        rcases hm with h | h | h | h <;> exact ⟨_, h, by decide, by decide, by decide⟩
      cases dp_int dv
      walk_at "sx"
      have n16 := ((n13.trans n4).trans n5.pure).trans n6
      refine g_walkR (by omega) (by omega) ?_
      refine g_forS (K := K) (M := [a]) (src_rng 0 m.toNat) n6.gh (fun i σ G' H' => PoolAt K a G' H' ∧ ∃ s y, σ = [some (.ref a), some (.str "abcdefghijklmnopqrstuvwxyz"), some (.str s), y] ∧ s.length = 1 + i ∧ headq s = true ∧ partsq s = true) ⟨hp6, _, _, rfl, rfl, by show letq c = true; exact let_mem hc, ?_⟩ ?_ ?_
      · show ([c] : List Nat).all _ = true
        simp only [List.all_cons, List.all_nil, let_mem hc]
        rfl
      · rintro i d w σ' G7 H7 G8 H8 hi n7 ⟨hp7, s, y, rfl, hl, hh, hq⟩ n8 dw
        have hil : i < m.toNat := by
          have := (List.getElem?_eq_some_iff.mp hi).1
          simpa [rng] using this
        have hp8 := hp7.go n8 (by simp)
        walk_at "sx"
        refine g_addS (by decide) ?_
        walk_at "sx"
        refine ⟨G8, a, 36, rfl, n8.gh, hp8, by decide, by decide, fun i9 H9 l0 l1 n9 hp9 => ?_⟩
        walk_at "sx"
        refine g_ixSn (by decide) l0 l1 fun c2 hc2 => ?_
        walk_at "sx"
        refine g_addS (by rw [hl]; show 1 + i + 1 ≤ sizeLine; rw [sizeLine_eq]; omega) ?_
        walk_at "sx"
        refine ⟨G8, (n7.trans n8.pure).trans n9, hp9, _, _, rfl, ?_, headq_app hh, partsq_app hq ?_⟩
        · rw [app_len, hl]; rfl
        · show ([c2] : List Nat).all _ = true
          simp only [List.all_cons, List.all_nil, sign_mem hc2]
          rfl
      · rintro σ' G7 H7 n7 ⟨hp7, s, y, rfl, hl, hh, hq⟩
        walk_at "sx"
        have : (rng 0 m.toNat).length = m.toNat := by simp [rng]
        refine q s G7 H7 ⟨⟨nameOk_of (by omega) (by omega) hh hq, fun z => ?_⟩, .inl (by omega)⟩ (n16.trans n7) hp7
        rw [z] at hl
        have h3 : ("zz9" : Str).length = 3 := by decide
        omega
    · exact q s G1 H3 hs n13 hp3
def PlOk (d : PyData) : Prop := ∃ x y z : Int, d = .tuple [.int x, .int y, .int z] ∧ (-4 ≤ x ∧ x ≤ 4) ∧ (-4 ≤ y ∧ y ≤ 4) ∧ -4 ≤ z ∧ z ≤ 4
def sml (d : PyData) : Prop := ∃ x : Int, d = .int x ∧ -20 ≤ x ∧ x ≤ 20
def LkOf (ns : List Str) (d : PyData) : Prop := ∃ (s t : Str) (x y z : Int), d = .tuple [.str s, .str t, .int x, .int y, .int z] ∧ s ∈ ns ∧ t ∈ ns ∧ s ≠ t ∧ (-20 ≤ x ∧ x ≤ 20) ∧ (-20 ≤ y ∧ y ≤ 20) ∧ -20 ≤ z ∧ z ≤ 20
def sp__law_links (K : PySem.W.Frag) : Sp := fun vs H Q _ => ∃ G a p ns m, vs = [.ref a, .ref p, .int m] ∧ Y.Ex G H ∧ PoolAt K a G H ∧ LstAt K p G H (ns.map .str) ∧ p ≠ a ∧ 1 ≤ ns.length ∧ ns.length ≤ 10 ∧ 0 ≤ m ∧ m ≤ 20 ∧
  ∀ r ls G' H', Nx [a] G H G' H' → PoolAt K a G' H' → H r = none → LstAt K r G' H' ls → (ls.length : Int) ≤ m → (∀ d ∈ ls, LkOf ns d) → Q (.ref r) H'
theorem ok__law_links (T : Tx fa fn bx K mg) : FnOk P w K mg base CX0 3 (He.ga K "_law_links") (fdOf K (He.ga K "_law_links")) ["pool", "names", "many"] (sp__law_links K) := by
  refine FunD.ok (F__law_links T) sc__law_links (fun vs H Q E h => ?_) (fun cdv A outer s H vs Q E hr h => ?_)
  · obtain ⟨_, _, _, _, _, rfl, _⟩ := h
    rfl
  · obtain ⟨G, a, p, ns, m, rfl, e, hp, hL, hpa, hn1, hn2, hm0, hm1, q⟩ := h
    refine ⟨_, PSs.nox ((pss_cons (ps_set (i := 3) sc__law_links.nd rfl (Or.inr rfl) pe_dnewK)
      (pss_cons (ps_for PassesOwn.never rfl (Y.pi_listK (K := K) rfl (pv 1)) (pg_name (i := 4) sc__law_links.nd rfl (Or.inl rfl))
      (pss_one (ps_dput (hu_of hr) (pv 3) (pv 4) (pe_tup (pa_cons (pe_op op_sub (Y.pe_callC (ok__law_take T) (cal__law_take T) (hr.mono (by decide)) (by rfl) pass0 (pa_cons (pv 0) (pa_cons pe_int pa_nil))) pe_int) (pa_cons (pe_op op_sub (Y.pe_callC (ok__law_take T) (cal__law_take T) (hr.mono (by decide)) (by rfl) pass0 (pa_cons (pv 0) (pa_cons pe_int pa_nil))) pe_int) (pa_cons (pe_op op_sub (Y.pe_callC (ok__law_take T) (cal__law_take T) (hr.mono (by decide)) (by rfl) pass0 (pa_cons (pv 0) (pa_cons pe_int pa_nil))) pe_int) pa_nil)))) rfl)))
      (pss_cons (ps_set (i := 5) sc__law_links.nd rfl (Or.inl rfl) (pe_lst pa_nil))
      (pss_cons (ps_for PassesOwn.never rfl (pi_range1 (by rfl) (T.free 16) (pa_cons (Y.pe_callC (ok__law_take T) (cal__law_take T) (hr.mono (by decide)) (by rfl) pass0 (pa_cons (pv 0) (pa_cons (pe_op op_add (pv 2) pe_int) pa_nil))) pa_nil)) (pg_name (i := 6) sc__law_links.nd rfl (Or.inl rfl))
      (pss_cons (ps_set (i := 7) sc__law_links.nd rfl (Or.inr rfl) (pe_ix (Y.ix_listK (K := K) rfl) (pv 1) (Y.pe_callC (ok__law_take T) (cal__law_take T) (hr.mono (by decide)) (by rfl) pass0 (pa_cons (pv 0) (pa_cons (pe_callB (Y.call_lenK (K := K) rfl) (by rfl) (T.free 3) (by decide +kernel) (pa_cons (pv 1) pa_nil)) pa_nil))) (fun _ _ => rfl)))
      (pss_cons (ps_set (i := 8) sc__law_links.nd rfl (Or.inr rfl) (pe_ix (Y.ix_listK (K := K) rfl) (pv 1) (Y.pe_callC (ok__law_take T) (cal__law_take T) (hr.mono (by decide)) (by rfl) pass0 (pa_cons (pv 0) (pa_cons (pe_callB (Y.call_lenK (K := K) rfl) (by rfl) (T.free 3) (by decide +kernel) (pa_cons (pv 1) pa_nil)) pa_nil))) (fun _ _ => rfl)))
      (pss_one (ps_if (pt_cmpR op_ne (pv 7) (pv 8) (nomark _))
      (pss_cons (ps_setLc (i := 9) (own := [("j", 10)]) (tt := tYes) rfl sc__law_links.nd rfl rfl (sw_true rfl rfl rfl (by decide +kernel)) (pi_range1 (by rfl) (T.free 16) (pa_cons pe_int pa_nil)) (blkOk_by (own := [("j", 10)]) (by kernel_rfl)) (fun _ _ _ _ _ => (pg_name (i := 10) sc__law_links.nd rfl (Or.inl rfl))) (fun _ _ _ _ _ => pts_nil) (fun _ _ _ _ _ => (pe_op op_sub (pe_ix (Y.ix_tupK (K := K) rfl) (pe_dget (hu_of hr) (pv 3) (pv 8) (fun _ _ => rfl)) (pv 10) (fun _ _ => rfl)) (pe_ix (Y.ix_tupK (K := K) rfl) (pe_dget (hu_of hr) (pv 3) (pv 7) (fun _ _ => rfl)) (pv 10) (fun _ _ => rfl)))))
      (Evl.pss_cut (ps_if (pt_cmpR op_eq (Y.pe_callC (ok__law_take T) (cal__law_take T) (hr.mono (by decide)) (by rfl) pass0 (pa_cons (pv 0) (pa_cons pe_int pa_nil))) pe_int (nomark _))
      (pss_cons (ps_set (i := 10) sc__law_links.nd rfl (Or.inl rfl) (Y.pe_callC (ok__law_take T) (cal__law_take T) (hr.mono (by decide)) (by rfl) pass0 (pa_cons (pv 0) (pa_cons pe_int pa_nil))))
      (pss_one (ps_asg (pe_op op_add (pe_ix (Y.ix_listK (K := K) rfl) (pv 9) (pv 10) (fun _ _ => rfl)) (pe_ix (Y.ix_listK (K := K) rfl) (pe_lst (pa_cons pe_int (pa_cons (pe_un un_neg pe_int) (pa_cons pe_int pa_nil)))) (Y.pe_callC (ok__law_take T) (cal__law_take T) (hr.mono (by decide)) (by rfl) pass0 (pa_cons (pv 0) (pa_cons pe_int pa_nil))) (fun _ _ => rfl))) (pg_sub (pv 9) (pv 10) set_list))))
      pss_nil)
      (pss_one (ps_expr (Y.pe_bmK (K := K) rfl PySem.F.plainAttrs_list PySem.F.slot_list_append PySem.F.type_list_append mt_append (pv 5) (pa_cons (pe_tup (pa_cons (pv 7) (pa_cons (pv 8) (pa_cons (pe_ix (Y.ix_listK (K := K) rfl) (pv 9) pe_int (fun _ _ => rfl)) (pa_cons (pe_ix (Y.ix_listK (K := K) rfl) (pv 9) pe_int (fun _ _ => rfl)) (pa_cons (pe_ix (Y.ix_listK (K := K) rfl) (pv 9) pe_int (fun _ _ => rfl)) pa_nil)))))) pa_nil))))))
      pss_nil)))))
      (pss_one (ps_ret (pv 5)))))))), ?_⟩
    walk_at "sx"
    refine g_newD (K := K) e fun pd H1 n1 hpd hD => ?_
    walk_at "sx"
    have hpda : pd ≠ a := fun z => hp.live (z ▸ hpd)
    have hpdp : pd ≠ p := fun z => hL.live (z ▸ hpd)
    have hL1 := hL.go n1 (by simp)
    refine g_walkLs hL1 fun S => ?_
    refine g_forS (K := K) (M := [a, pd]) (S [a, pd] (by simp [hpa, hpdp.symm])) n1.gh (fun i σ G' H' => PoolAt K a G' H' ∧ ∃ md y4, σ = [some (.ref a), some (.ref p), some (.int m), some (.ref pd), y4, none, none, none, none, none, none] ∧ DctAt K pd G' H' md ∧ md.length ≤ i ∧ (∀ k d, gtM md k = some d → PlOk d) ∧ ∀ s ∈ ns.take i, ∃ d, gtM md (Sum.inr s : Key) = some d) ⟨hp.go n1 (by simp), [], _, rfl, hD, Nat.le_refl _, (fun k d h => nomatch h), by simp⟩ ?_ ?_
    · rintro i d v σ' G2 H2 G3 H3 hi n2 ⟨hp2, md, y4, rfl, hD2, hl, hk, ht⟩ n3 dv
      rw [List.getElem?_map] at hi
      obtain ⟨s, hs, rfl⟩ := Option.map_eq_some_iff.mp hi
      cases dp_str dv
      have hin : i < ns.length := (List.getElem?_eq_some_iff.mp hs).1
      walk_at "sx"
      refine ⟨G3, a, 7, rfl, n3.gh, hp2.go n3 (by simp), by decide, by decide, fun x H4 x0 x1 n4 hp4 => ?_⟩
      walk_at "sx"
      refine ⟨G3, a, 5, rfl, n4.gh, hp4, by decide, by decide, fun y H5 y0 y1 n5 hp5 => ?_⟩
      walk_at "sx"
      refine ⟨G3, a, 9, rfl, n5.gh, hp5, by decide, by decide, fun z H6 z0 z1 n6 hp6 => ?_⟩
      walk_at "sx"
      refine g_tupD (K := K) n6.gh (.cons (.int _) (.cons (.int _) (.cons (.int _) .nil))) (by show 3 ≤ sizeLine; decide) fun t G7 H7 n7 dt => ?_
      walk_at "sx"
      have n36 := (n4.trans n5).trans n6
      have hD7 := (((hD2.go n3 (by simp)).go n36 (by simp [hpda])).go n7 (by simp))
      refine g_dcPut n7.gh hD7 (k := Sum.inr s) rfl dt (by omega) fun H8 n8 hD8 => ?_
      refine ⟨G7, ((n2.trans n3.pure).trans ((n36.trans n7.pure).mono fun w hw => by simp at hw; simp [hw])).trans (n8.mono fun w hw => by simp at hw; simp [hw]), (hp6.go n7 (by simp)).go n8 (by simp [hpda.symm]), _, _, rfl, hD8, Nat.le_trans len_ptM (by omega), fun k d hkd => ?_, fun w hw => ?_⟩
      · rw [gtM_ptM] at hkd
        split at hkd
        · cases hkd
          exact ⟨_, _, _, rfl, by omega, by omega, by omega⟩
        · exact hk k d hkd
      · rw [gtM_ptM]
        split
        · exact ⟨_, rfl⟩
        · rename_i hne
          refine ht w ?_
          rw [List.take_add_one, hs] at hw
          rcases List.mem_append.mp hw with hw | hw
          · exact hw
          · simp only [Option.toList_some, List.mem_cons, List.not_mem_nil, or_false] at hw
            exact absurd (by rw [hw]) hne
    · rintro σ' G2 H2 n2 ⟨hp2, md, y4, rfl, hD2, hl, hk, ht⟩
      rw [List.length_map] at ht
      rw [List.take_length] at ht
      have hL2 := hL1.go n2 (by simp [hpa, hpdp.symm])
      walk_at "sx"
      refine g_lstLs (K := K) (xs := []) n2.gh .nil (Nat.zero_le _) fun r H3 n3 hr hLr => ?_
      walk_at "sx"
      have hra : r ≠ a := fun z => hp2.live (z ▸ hr)
      have hrp : r ≠ p := fun z => hL2.live (z ▸ hr)
      have hrd : r ≠ pd := fun z => hD2.live (z ▸ hr)
      refine ⟨G2, a, m + 1, rfl, n3.gh, hp2.go n3 (by simp), by omega, by omega, fun c H4 c0 c1 n4 hp4 => ?_⟩
      walk_at "sx"
      have hL4 := (hL2.go n3 (by simp)).go n4 (by simp [hpa])
      have hD4 := (hD2.go n3 (by simp)).go n4 (by simp [hpda])
      have hLr4 := hLr.go n4 (by simp [hra])
      have n14 : Nx [a, pd] G H G2 H4 := ((n1.pure.trans n2).trans n3.pure).trans (n4.mono fun w hw => by simp at hw; simp [hw])
      have hrH : H r = none := n1.fresh (n2.fresh hr)
      refine g_walkR (by omega) (by omega) ?_
      refine g_forS (K := K) (M := [a, r]) (src_rng 0 _) n4.gh (fun i σ G' H' => PoolAt K a G' H' ∧ ∃ ls y4 y6 y7 y8 y9 y10, σ = [some (.ref a), some (.ref p), some (.int m), some (.ref pd), y4, some (.ref r), y6, y7, y8, y9, y10] ∧ LstAt K r G' H' ls ∧ ls.length ≤ i ∧ ∀ d ∈ ls, LkOf ns d) ⟨hp4, [], _, _, _, _, _, _, rfl, hLr4, Nat.le_refl _, by simp⟩ ?_ ?_
      · rintro i d v σ' G5 H5 G6 H6 hi n5 ⟨hp5, ls, y4, y6, y7, y8, y9, y10, rfl, hLs, hll, hlk⟩ n6 dv
        obtain ⟨hic, rfl⟩ := rng_get hi
        cases dp_int dv
        have n56 : Nx [a, r] G2 H4 G6 H6 := n5.trans n6.pure
        have hL6 := hL4.go n56 (by simp [hpa, hrp.symm])
        have hD6 := hD4.go n56 (by simp [hpda, hrd.symm])
        have hLs6 := hLs.go n6 (by simp)
        walk_at "sx"
        refine g_lenLs hL6 ?_
        walk_at "sx"
        rw [List.length_map]
        refine ⟨G6, a, ns.length, rfl, n6.gh, hp5.go n6 (by simp), by omega, by omega, fun x H7 x0 x1 n7 hp7 => ?_⟩
        walk_at "sx"
        have hL7 := hL6.go n7 (by simp [hpa])
        refine g_ixLsN hL7 x0 x1 fun s hs _ => ?_
        walk_at "sx"
        refine g_lenLs hL7 ?_
        walk_at "sx"
        rw [List.length_map]
        refine ⟨G6, a, ns.length, rfl, n7.gh, hp7, by omega, by omega, fun y H8 y0 y1 n8 hp8 => ?_⟩
        walk_at "sx"
        have hL8 := hL7.go n8 (by simp [hpa])
        refine g_ixLsN hL8 y0 y1 fun t htn _ => ?_
        have n68 := n7.trans n8
        have n48 : Nx [a, r] G2 H4 G6 H8 := n56.trans (n68.mono fun w hw => by simp at hw; simp [hw])
        have hD8 := hD6.go n68 (by simp [hpda])
        have hLs8 := hLs6.go n68 (by simp [hra])
        walk_at "sx"
        refine g_ndec (fun hne => ?_) (fun heq => ?_) <;> walk_at "sx"
        rotate_left
        · exact ⟨G6, n48, hp8, ls, _, _, _, _, _, _, rfl, hLs8, by omega, hlk⟩
        obtain ⟨p1, hg1⟩ := ht s hs
        obtain ⟨p2, hg2⟩ := ht t htn
        refine g_walkR (by decide) (by decide) ?_
        intro A hA
        refine g_lcS (K := K) (M := []) (src_rng 0 _) n8.gh hA (by simp) (by rw [show (Int.toNat 3) = 3 from rfl]; decide) (fun i acc => acc.length = i ∧ ∀ d ∈ acc, sml d ∧ ∃ x, d = .int x ∧ -8 ≤ x ∧ x ≤ 8) ⟨rfl, by simp⟩ (fun j d w acc G9 H9 hj dw n9 _ hjj QE QN k1 k2 => ?_) (fun G9 H9 ys acc hjj n9 g h da => ?_)
        · obtain ⟨hjc, rfl⟩ := rng_get hj
          cases dp_int dw
          have hj3 : j < 3 := hjc
          obtain ⟨q1, q2, q3, rfl, hb1⟩ := hk _ _ hg1
          obtain ⟨r1, r2, r3, rfl, hb2⟩ := hk _ _ hg2
          have hD9 := hD8.go n9 (by simp)
          walk_at "sx"
          refine g_dcGet hD9 (k := Sum.inr t) rfl hg2 fun v2 dv2 => ?_
          walk_at "sx"
          refine g_ixTn n9.gh dv2 (by omega) (by show (j : Int) < 3; omega) fun u2 e2 m2 _ du2 => ?_
          obtain ⟨b2, rfl, hb21, hb22⟩ : ∃ b : Int, e2 = .int b ∧ -4 ≤ b ∧ b ≤ 4 := by
            simp only [List.mem_cons, List.not_mem_nil, or_false] at m2
            rcases m2 with rfl | rfl | rfl <;> exact ⟨_, rfl, by omega, by omega⟩
          cases dp_int du2
          walk_at "sx"
          refine g_dcGet hD9 (k := Sum.inr s) rfl hg1 fun v1 dv1 => ?_
          walk_at "sx"
          refine g_ixTn n9.gh dv1 (by omega) (by show (j : Int) < 3; omega) fun u1 e1 m1 _ du1 => ?_
          obtain ⟨b1, rfl, hb11, hb12⟩ : ∃ b : Int, e1 = .int b ∧ -4 ≤ b ∧ b ≤ 4 := by
            simp only [List.mem_cons, List.not_mem_nil, or_false] at m1
            rcases m1 with rfl | rfl | rfl <;> exact ⟨_, rfl, by omega, by omega⟩
          cases dp_int du1
          walk_at "sx"
          refine k1 _ G9 H9 (.int (b2 - b1)) (Nx.refl n9.gh) (.int _) ⟨by simp [hjj.1], fun d hd => ?_⟩
          rcases List.mem_append.mp hd with hd | hd
          · exact hjj.2 d hd
          · simp only [List.mem_cons, List.not_mem_nil, or_false] at hd
            subst hd
            exact ⟨⟨_, rfl, by omega, by omega⟩, _, rfl, by omega, by omega⟩
        · obtain ⟨hl3, hsm⟩ := hjj
          replace hl3 : acc.length = 3 := hl3
          have hLm : LstAt K A G9 H9 acc := ⟨ys, h, g, da⟩
          have hAa : A ≠ a := fun z => hp8.live (z ▸ hA)
          have hAr : A ≠ r := fun z => hLs8.live (z ▸ hA)
          have hp9 := hp8.go n9 (by simp)
          have hLs9 := hLs8.go n9 (by simp)
          have n49 : Nx [a, r] G2 H4 G9 H9 := n48.trans n9.pure
          walk_at "sx"
          refine ⟨fun σ' H' => ∃ G' acc' y10, σ' = [some (.ref a), some (.ref p), some (.int m), some (.ref pd), y4, some (.ref r), some (.int (i : Int)), some (.str s), some (.str t), some (.ref A), y10] ∧ Nx [a, r] G2 H4 G' H' ∧ PoolAt K a G' H' ∧ LstAt K r G' H' ls ∧ LstAt K A G' H' acc' ∧ acc'.length = 3 ∧ ∀ d ∈ acc', sml d, ?_, ?_⟩
          · walk_at "sx"
            refine ⟨G9, a, 7, rfl, n9.gh, hp9, by decide, by decide, fun z H10 z0 z1 n10 hp10 => ?_⟩
            walk_at "sx"
            have n410 : Nx [a, r] G2 H4 G9 H10 := n49.trans (n10.mono fun w hw => by simp at hw; simp [hw])
            refine g_dec (fun hz => ?_) (fun hz => ?_) <;> walk_at "sx"
            rotate_left
            · exact ⟨G9, acc, _, rfl, n410, hp10, hLs9.go n10 (by simp [hra]), hLm.go n10 (by simp [hAa]), hl3, fun d hd => (hsm d hd).1⟩
            refine ⟨G9, a, 3, rfl, n10.gh, hp10, by decide, by decide, fun jj H11 j0 j1 n11 hp11 => ?_⟩
            walk_at "sx"
            have hLm11 := (hLm.go n10 (by simp [hAa])).go n11 (by simp [hAa])
            refine g_ixLsD hLm11 j0 (by omega) fun v1 d1 hd1 _ dv1 => ?_
            obtain ⟨_, b1, rfl, hb1, hb2⟩ := hsm d1 hd1
            cases dp_int dv1
            walk_at "sx"
            refine g_lstD (K := K) (ds := [.int 1, .int (-1), .int 5]) n11.gh (by walk_at "da") (by show 3 ≤ sizeLine; decide) fun pp G12 H12 n12 dp12 => ?_
            walk_at "sx"
            refine ⟨G12, a, 3, rfl, n12.gh, hp11.go n12 (by simp), by decide, by decide, fun i13 H13 k0 k1 n13 hp13 => ?_⟩
            walk_at "sx"
            refine g_ixLn n13.gh dp12 k0 (by simpa using k1) fun v2 d2 hm2 _ dv2 => ?_
            obtain ⟨b3, rfl, hb31, hb32⟩ : ∃ b : Int, d2 = .int b ∧ -1 ≤ b ∧ b ≤ 5 := by
              simp only [List.mem_cons, List.not_mem_nil, or_false] at hm2
              rcases hm2 with rfl | rfl | rfl <;> exact ⟨_, rfl, by decide, by decide⟩
            cases dp_int dv2
            walk_at "sx"
            have n1013 : Nx [a] G9 H10 G12 H13 := (n11.trans n12.pure).trans n13
            have hLm13 := (hLm11.go n12 (by simp)).go n13 (by simp [hAa])
            refine g_setLs n13.gh hLm13 (.int _) (k := jj.toNat) (by omega) (by omega) fun H14 n14 hLm14 => ?_
            have n1014 : Nx [a, A] G9 H10 G12 H14 := (n1013.mono fun w hw => by simp at hw; simp [hw]).trans (n14.mono fun w hw => by simp at hw; simp [hw])
            have hLs10 := hLs9.go n10 (by simp [hra])
            refine ⟨G12, acc.set jj.toNat (.int (b1 + b3)), _, rfl, ?_, hp13.go n14 (by simp [hAa.symm]), (hLs10.go n1013 (by simp [hra])).go n14 (by simp [hAr.symm]), hLm14, by simp [hl3], fun d hd => ?_⟩
            · refine Nx.sub (M' := [a, r, A]) ((n410.mono fun w hw => by simp at hw; rcases hw with h | h <;> simp [h]).trans (n1014.mono fun w hw => by simp at hw; rcases hw with h | h <;> simp [h])) fun w hw => ?_
              simp only [List.mem_cons, List.not_mem_nil, or_false] at hw
              rcases hw with h | h | h
              · exact .inl (by simp [h])
              · exact .inl (by simp [h])
              · exact .inr (h ▸ n48.fresh hA)
            · rcases List.mem_or_eq_of_mem_set hd with hd | rfl
              · exact (hsm d hd).1
              · exact ⟨_, rfl, by omega, by omega⟩
          · rintro σ' H10 ⟨G10, acc', y10', rfl, n10, hp10, hLs10, hLm10, hl3', hsm'⟩
            match acc', hl3' with
            | [d1, d2, d3], _ =>
              obtain ⟨b1, rfl, hb1⟩ := hsm' d1 (by simp)
              obtain ⟨b2, rfl, hb2⟩ := hsm' d2 (by simp)
              obtain ⟨b3, rfl, hb3⟩ := hsm' d3 (by simp)
              walk_at "sx"
              refine g_tyLs hLs10 ?_
              walk_at "sx"
              refine g_ixLs (k := 0) hLm10 rfl rfl fun v1 dv1 => ?_
              walk_at "sx"
              refine g_ixLs (k := 1) hLm10 rfl rfl fun v2 dv2 => ?_
              walk_at "sx"
              refine g_ixLs (k := 2) hLm10 rfl rfl fun v3 dv3 => ?_
              walk_at "sx"
              refine g_tupD (K := K) n10.gh (.cons (.str _) (.cons (.str _) (.cons dv1 (.cons dv2 (.cons dv3 .nil))))) (by show 5 ≤ sizeLine; decide) fun t5 G11 H11 n11 dt => ?_
              walk_at "sx"
              refine g_appLs n11.gh (hLs10.go n11 (by simp)) dt (by omega) fun H12 n12 hLs12 => ?_
              refine ⟨G11, (n10.trans n11.pure).trans (n12.mono fun w hw => by simp at hw; simp [hw]), (hp10.go n11 (by simp)).go n12 (by simp [hra.symm]), _, _, _, _, _, _, _, rfl, hLs12, by simp; omega, fun d hd => ?_⟩
              rcases List.mem_append.mp hd with hd | hd
              · exact hlk d hd
              · simp only [List.mem_cons, List.not_mem_nil, or_false] at hd
                subst hd
                exact ⟨s, t, _, _, _, rfl, hs, htn, hne, hb1, hb2, hb3⟩
      · rintro σ' G5 H5 n5 ⟨hp5, ls, y4, y6, y7, y8, y9, y10, rfl, hLs, hll, hlk⟩
        rw [rng_len] at hll
        walk_at "sx"
        refine q r ls G5 H5 ?_ hp5 hrH hLs (by omega) hlk
        refine Nx.sub (M' := [a, pd, r]) ((n14.mono fun w hw => by simp at hw; rcases hw with h | h <;> simp [h]).trans (n5.mono fun w hw => by simp at hw; rcases hw with h | h <;> simp [h])) fun w hw => ?_
        simp only [List.mem_cons, List.not_mem_nil, or_false] at hw
        rcases hw with h | h | h
        · exact .inl (by simp [h])
        · exact .inr (h ▸ hpd)
        · exact .inr (h ▸ hrH)
def sp__law_reading (K : PySem.W.Frag) : Sp := fun vs H Q _ => ∃ G a, vs = [.ref a] ∧ Y.Ex G H ∧ PoolAt K a G H ∧ ∀ v d G' H', isRd d = true → Dp K G' v d → Nx [a] G H G' H' → PoolAt K a G' H' → Q v H'
theorem ok__law_reading (T : Tx fa fn bx K mg) : FnOk P w K mg base CX0 3 (He.ga K "_law_reading") (fdOf K (He.ga K "_law_reading")) ["pool"] (sp__law_reading K) := by
  refine FunD.ok (F__law_reading T) sc__law_reading (fun vs H Q E h => ?_) (fun cdv A outer s H vs Q E hr h => ?_)
  · obtain ⟨_, _, rfl, _⟩ := h
    rfl
  · obtain ⟨G, a, rfl, e, hp, q⟩ := h
    refine ⟨_, PSs.nox ((pss_one (ps_ret (pe_ix (Y.ix_listK (K := K) rfl) (pe_lst (pa_cons pe_non (pa_cons pe_int (pa_cons pe_int (pa_cons pe_int (pa_cons pe_int (pa_cons pe_int (pa_cons (Y.pe_callC (ok__law_take T) (cal__law_take T) (hr.mono (by decide)) (by rfl) pass0 (pa_cons (pv 0) (pa_cons pe_int pa_nil))) (pa_cons pe_int pa_nil))))))))) (Y.pe_callC (ok__law_take T) (cal__law_take T) (hr.mono (by decide)) (by rfl) pass0 (pa_cons (pv 0) (pa_cons pe_int pa_nil))) (fun _ _ => rfl))))), ?_⟩
    walk_at "sx"
    refine ⟨G, a, 1000, rfl, e, hp, by decide, by decide, fun i H1 i0 i1 n1 hp1 => ?_⟩
    walk_at "sx"
    refine g_lstD (K := K) (ds := [.none, .int 0, .int 999, .int 7, .int 8, .int 9, .int i, .int 10]) n1.gh (by walk_at "da") (by show 8 ≤ sizeLine; decide) fun p G2 H2 n2 dp => ?_
    walk_at "sx"
    refine ⟨G2, a, 8, rfl, n2.gh, hp1.go n2 (by simp), by decide, by decide, fun j H3 j0 j1 n3 hp3 => ?_⟩
    walk_at "sx"
    refine g_ixLn n3.gh dp j0 (by simpa using j1) fun v d hm _ dv => ?_
    refine q v d G2 H3 ?_ dv ((n1.trans n2.pure).trans n3) hp3
    simp only [List.mem_cons, List.not_mem_nil, or_false] at hm
    rcases hm with h | h | h | h | h | h | h | h <;> subst h <;> simp only [isRd] <;> first | rfl | decide | exact decide_eq_true ⟨i0, by omega⟩
theorem rowsOk_of {rs : List PyData} {w : Nat} (h1 : 1 ≤ rs.length) (h2 : rs.length ≤ 12) (h3 : 1 ≤ w) (h4 : w ≤ 12) (h : ∀ d ∈ rs, ∃ cs, d = .tuple cs ∧ cs.length = w ∧ cs.all isRd = true) : rowsOk (.tuple rs) = true := by
  simp only [rowsOk]
  rw [decide_eq_true ⟨h1, h2⟩, Bool.true_and, Bool.and_eq_true]
  refine ⟨List.all_eq_true.mpr fun d hd => ?_, ?_⟩
  · obtain ⟨cs, rfl, hl, ha⟩ := h d hd
    simp only [rowOk]
    rw [ha, decide_eq_true (by omega)]
    rfl
  · cases rs with
    | nil => rfl
    | cons r rs =>
      simp only [sameLen]
      refine List.all_eq_true.mpr fun d hd => ?_
      obtain ⟨cs, rfl, hl, _⟩ := h d hd
      obtain ⟨c0, rfl, hl0, _⟩ := h r (by simp)
      simp only [dlen, hl, hl0, decide_true]
theorem fit_rd {d : PyData} (h : isRd d = true) : fit d = true := by cases d <;> first | rfl | cases h
theorem rows_inv {rs : List PyData} (h : rowsOk (.tuple rs) = true) : 1 ≤ rs.length ∧ rs.length ≤ 12 ∧ (∀ d ∈ rs, rowOk d = true) ∧ sameLen rs = true := by
  simp only [rowsOk, Bool.and_eq_true, decide_eq_true_eq] at h
  exact ⟨h.1.1, h.1.2, List.all_eq_true.mp h.2.1, h.2.2⟩
theorem fit_row {d : PyData} (h : rowOk d = true) : fit d = true := by
  obtain ⟨cs, rfl, _, h2, h3⟩ := rowOk_tup h
  exact fit_tuple (by omega) fun d hd => fit_rd (List.all_eq_true.mp h3 d hd)
def sp__law_rows (K : PySem.W.Frag) : Sp := fun vs H Q _ => ∃ G a m, vs = [.ref a, .int m] ∧ Y.Ex G H ∧ PoolAt K a G H ∧ 1 ≤ m ∧ m ≤ 12 ∧ ∀ v rs G' H', rowsOk (.tuple rs) = true → (rs.length : Int) ≤ m → (∀ d ∈ rs, (dlen d : Int) ≤ m) → Dp K G' v (.tuple rs) → Nx [a] G H G' H' → PoolAt K a G' H' → Q v H'
theorem ok__law_rows (T : Tx fa fn bx K mg) : FnOk P w K mg base CX0 4 (He.ga K "_law_rows") (fdOf K (He.ga K "_law_rows")) ["pool", "most"] (sp__law_rows K) := by
  refine FunD.ok (F__law_rows T) sc__law_rows (fun vs H Q E h => ?_) (fun cdv A outer s H vs Q E hr h => ?_)
  · obtain ⟨_, _, _, rfl, _⟩ := h
    rfl
  · obtain ⟨G, a, m, rfl, e, hp, hm1, hm2, q⟩ := h
    refine ⟨_, PSs.nox ((pss_cons (ps_set (i := 2) sc__law_rows.nd rfl (Or.inr rfl) (pe_op op_add pe_int (Y.pe_callC (ok__law_take T) (cal__law_take T) (hr.mono (by decide)) (by rfl) pass0 (pa_cons (pv 0) (pa_cons (pv 1) pa_nil)))))
      (pss_cons (ps_set (i := 3) sc__law_rows.nd rfl (Or.inl rfl) (pe_op op_add pe_int (Y.pe_callC (ok__law_take T) (cal__law_take T) (hr.mono (by decide)) (by rfl) pass0 (pa_cons (pv 0) (pa_cons (pv 1) pa_nil)))))
      (pss_one (ps_ret (pe_callTy (Y.call_tupleK (K := K) rfl) (by rfl) (T.free 4) (by decide +kernel) (pa_cons (pe_lc (own := [("y", 4)]) (tt := tYes) rfl sc__law_rows.nd (pi_range1 (by rfl) (T.free 16) (pa_cons (pv 3) pa_nil)) (blkOk_by (own := [("y", 4)]) (by kernel_rfl)) (fun _ _ _ _ _ => (pg_name (i := 4) sc__law_rows.nd rfl (Or.inl rfl))) (fun _ _ _ _ _ => pts_nil) (fun _ _ _ _ _ => (pe_callTy (Y.call_tupleK (K := K) rfl) (by rfl) (T.free 4) (by decide +kernel) (pa_cons (pe_lc (own := [("x", 5)]) (tt := tYes) rfl sc__law_rows.nd (pi_range1 (by rfl) (T.free 16) (pa_cons (pv 2) pa_nil)) (blkOk_by (own := [("x", 5)]) (by kernel_rfl)) (fun _ _ _ _ _ => (pg_name (i := 5) sc__law_rows.nd rfl (Or.inl rfl))) (fun _ _ _ _ _ => pts_nil) (fun _ _ _ _ _ => (Y.pe_callC (ok__law_reading T) (cal__law_reading T) (hr.mono (by decide)) (by rfl) pass0 (pa_cons (pv 0) pa_nil)))) pa_nil)))) pa_nil))))))), ?_⟩
    walk_at "sx"
    refine ⟨G, a, m, rfl, e, hp, by omega, by omega, fun w H1 w0 w1 n1 hp1 => ?_⟩
    walk_at "sx"
    refine ⟨G, a, m, rfl, n1.gh, hp1, by omega, by omega, fun t H2 t0 t1 n2 hp2 => ?_⟩
    walk_at "sx"
    refine g_walkR (by omega) (by omega) ?_
    intro A hA
    have lr : ∀ n : Nat, (rng 0 n).length = n := fun n => by simp [rng]
    refine g_lcPool (src_rng 0 _) n2.gh hA hp2 (by rw [lr]; exact szl (by omega)) (fun i acc => acc.length = i ∧ ∀ d ∈ acc, ∃ cs, d = .tuple cs ∧ cs.length = (1 + w).toNat ∧ cs.all isRd = true) ⟨rfl, by simp⟩ (fun i d v acc G3 H3 hi dv n3 hp3 _ hj QE QN k1 k2 => ?_) (fun G3 H3 ys acc hj n3 hp3 g h da => ?_)
    · walk_at "sx"
      refine g_walkR (by omega) (by omega) ?_
      intro B hB
      refine g_lcPool (src_rng 0 _) n3.gh hB hp3 (by rw [lr]; exact szl (by omega)) (fun i acc => acc.length = i ∧ acc.all isRd = true) ⟨rfl, rfl⟩ (fun i2 d2 v2 acc2 G4 H4 hi2 dv2 n4 hp4 _ hj2 QE2 QN2 k3 k4 => ?_) (fun G4 H4 ys2 acc2 hj2 n4 hp4 g2 h2 da2 => ?_)
      · walk_at "sx"
        refine ⟨G4, a, rfl, n4.gh, hp4, fun u du G5 H5 hu hdu n5 hp5 => k3 u H5 |> fun k => ?_⟩
        refine k3 u G5 H5 du n5 hp5 hdu ⟨by rw [List.length_append, hj2.1]; rfl, by rw [List.all_append, hj2.2]; simp [hu]⟩
      · walk_at "sx"
        refine g_tupOfM n4.gh h2 da2 fun p G5 H5 n5 dp => ?_
        refine k1 _ G5 H5 _ (n4.trans n5.pure) (hp4.go n5 (by simp)) dp ⟨by rw [List.length_append, hj.1]; rfl, fun d hd => ?_⟩
        rcases List.mem_append.mp hd with hd | hd
        · exact hj.2 d hd
        · simp only [List.mem_cons, List.not_mem_nil, or_false] at hd
          exact ⟨acc2, hd, by rw [hj2.1, lr], hj2.2⟩
    · walk_at "sx"
      refine g_tupOfM n3.gh h da fun p G4 H4 n4 dp => ?_
      rw [lr] at hj
      refine q _ acc G4 H4 (rowsOk_of (by rw [hj.1]; omega) (by rw [hj.1]; omega) (by omega) (by omega) hj.2) (by rw [hj.1]; omega) (fun d hd => ?_) dp (((n1.trans n2).trans n3).trans n4.pure) (hp3.go n4 (by simp))
      obtain ⟨cs, rfl, hl, _⟩ := hj.2 d hd
      simp only [dlen]
      omega
def viewsOf (ns : List Str) (rs : List PyData) : List PyData := List.zipWith (fun n r => PyData.tuple [.str n, r]) ns rs
theorem viewsOf_len {ns : List Str} {rs : List PyData} (h : rs.length = ns.length) : (viewsOf ns rs).length = ns.length := by
  unfold viewsOf
  rw [List.length_zipWith, h, Nat.min_self]
theorem viewsOf_nm : ∀ {ns : List Str} {rs : List PyData}, rs.length = ns.length → (viewsOf ns rs).map nmOf = ns
  | [], _, _ => rfl
  | n :: ns, [], h => by simp at h
  | n :: ns, r :: rs, h => by
    show nmOf (.tuple [.str n, r]) :: (viewsOf ns rs).map nmOf = _
    rw [viewsOf_nm (by simpa using h)]
    rfl
theorem viewsOf_get {ns : List Str} {rs : List PyData} {i : Nat} {n : Str} {r : PyData} (h1 : ns[i]? = some n) (h2 : rs[i]? = some r) : (viewsOf ns rs)[i]? = some (.tuple [.str n, r]) := by
  unfold viewsOf
  rw [List.getElem?_zipWith, h1, h2]
theorem look_mem' {s : Str} {ws : List PyData} : (look s ws).isSome = decide (s ∈ ws.map nmOf) := by
  unfold look
  rw [Bool.eq_iff_iff, List.find?_isSome, decide_eq_true_eq, List.mem_map]
  constructor
  · rintro ⟨x, hx, h⟩
    exact ⟨x, hx, of_decide_eq_true h⟩
  · rintro ⟨x, hx, h⟩
    exact ⟨x, hx, decide_eq_true h⟩
theorem addV_ok {ws : List PyData} {n : Str} {r : PyData} (h1 : nameOk n = true) (h2 : rowsOk r = true) (h3 : n ∉ ws.map nmOf) (h4 : ws.length < 30) : addV ws (.tuple [.str n, r]) = none := by
  unfold addV
  have e1 : viewOk (.tuple [.str n, r]) = true := by
    simp only [viewOk, isName]
    rw [h1, h2]
    rfl
  have e2 : (look (nmOf (.tuple [.str n, r])) ws).isSome = false := by rw [look_mem']; exact decide_eq_false h3
  rw [if_neg (by rw [e1]; simp), if_neg (by rw [e2]; simp), if_neg (by omega)]
theorem linkOk_of {s t : Str} {x y z : Int} (h1 : nameOk s = true) (h2 : nameOk t = true) (h3 : s ≠ t) (hx : -20 ≤ x ∧ x ≤ 20) (hy : -20 ≤ y ∧ y ≤ 20) (hz : -20 ≤ z ∧ z ≤ 20) : linkOk (.tuple [.str s, .str t, .int x, .int y, .int z]) = true := by
  have e : PyData.eqv (.str s) (.str t) = false := by
    cases e : PyData.eqv (.str s) (.str t) with
    | false => rfl
    | true => exact absurd (by simpa [PyData.eqv] using e) h3
  simp only [linkOk, isName, within]
  rw [h1, h2, e, decide_eq_true (by omega), decide_eq_true (by omega), decide_eq_true (by omega)]
  rfl
theorem addL_ok {ns : List Str} {ws ls : List PyData} {d : PyData} (hn : ∀ s ∈ ns, nameOk s = true) (h : LkOf ns d) (hw : ∀ s ∈ ns, (lnA d = s ∨ lnB d = s) → s ∈ ws.map nmOf) (hl : ls.length < 60) : addL ws ls d = none := by
  obtain ⟨s, t, x, y, z, rfl, hs, ht, hne, hx, hy, hz⟩ := h
  unfold addL
  have e2 : (look s ws).isSome = true := by rw [look_mem']; exact decide_eq_true (hw s hs (.inl rfl))
  have e3 : (look t ws).isSome = true := by rw [look_mem']; exact decide_eq_true (hw t ht (.inr rfl))
  rw [if_neg (by rw [linkOk_of (hn s hs) (hn t ht) hne hx hy hz]; simp), if_neg (by show ¬ (look s ws).isSome = false; rw [e2]; simp), if_neg (by show ¬ (look t ws).isSome = false; rw [e3]; simp), if_neg (by omega)]
theorem fit_lk {ns : List Str} {d : PyData} (hn : ∀ s ∈ ns, nameOk s = true) (h : LkOf ns d) : fit d = true := by
  obtain ⟨s, t, x, y, z, rfl, hs, ht, _⟩ := h
  refine fit_tuple (by show 5 ≤ 100000; decide) fun w hw => ?_
  simp only [List.mem_cons, List.not_mem_nil, or_false] at hw
  rcases hw with rfl | rfl | rfl | rfl | rfl
  · exact fit_name (hn s hs)
  · exact fit_name (hn t ht)
  · rfl
  · rfl
  · rfl
def sp__law_album (K : PySem.W.Frag) : Sp := fun vs H Q _ => ∃ G p ns b rs r ls, vs = [.ref p, .ref b, .ref r] ∧ Y.Ex G H ∧ LstAt K p G H (ns.map .str) ∧ LstAt K b G H rs ∧ LstAt K r G H ls ∧ rs.length = ns.length ∧ ns.Nodup ∧ ns.length ≤ 10 ∧ (∀ s ∈ ns, nameOk s = true) ∧
  (∀ x ∈ rs, rowsOk x = true ∧ fit x = true) ∧ ls.length ≤ 20 ∧ (∀ d ∈ ls, LkOf ns d) ∧ ∀ a d l G' H', Nx [] G H G' H' → H a = none → H d = none → H l = none → AlbAt K a d l G' H' (viewsOf ns rs) ls → Q (.ref a) H'
theorem ok__law_album (T : Tx fa fn bx K mg) : FnOk P w K mg base CX0 8 (He.ga K "_law_album") (fdOf K (He.ga K "_law_album")) ["names", "rows", "links"] (sp__law_album K) := by
  refine FunD.ok (F__law_album T) sc__law_album (fun vs H Q E h => ?_) (fun cdv A outer s H vs Q E hr h => ?_)
  · obtain ⟨_, _, _, _, _, _, _, rfl, _⟩ := h
    rfl
  · obtain ⟨G, p, ns, b, rs, r, ls, rfl, e, hL, hR, hK, hrl, hnd, hn10, hnm, hro, hll, hlk, q⟩ := h
    refine ⟨_, PSs.nox ((pss_cons (ps_set (i := 3) sc__law_album.nd rfl (Or.inl rfl) (pe_make0 (T.mkr 34) (ok_Album___init__ T) (hr.mono (by decide)) rfl (T.glo 35) (cal_Album___init__ T).b .nil pass0))
      (pss_cons (ps_for PassesOwn.never rfl (pi_range1 (by rfl) (T.free 16) (pa_cons (pe_callB (Y.call_lenK (K := K) rfl) (by rfl) (T.free 3) (by decide +kernel) (pa_cons (pv 0) pa_nil)) pa_nil)) (pg_name (i := 4) sc__law_album.nd rfl (Or.inl rfl))
      (pss_one (ps_expr (Y.pe_methCS (pv 3) (T.cls 6) (T.meth 36) (ok_Album_add_view T) (hr.mono (by decide)) (cal_Album_add_view T) (fun σ => passAt takes0 σ) (pa_cons (pe_tup (pa_cons (pe_ix (Y.ix_listK (K := K) rfl) (pv 0) (pv 4) (fun _ _ => rfl)) (pa_cons (pe_ix (Y.ix_listK (K := K) rfl) (pv 1) (pv 4) (fun _ _ => rfl)) pa_nil))) pa_nil)))))
      (pss_cons (ps_for PassesOwn.never rfl (Y.pi_listK (K := K) rfl (pv 2)) (pg_name (i := 5) sc__law_album.nd rfl (Or.inl rfl))
      (pss_one (ps_expr (Y.pe_methCS (pv 3) (T.cls 6) (T.meth 37) (ok_Album_add_link T) (hr.mono (by decide)) (cal_Album_add_link T) (fun σ => passAt takes0 σ) (pa_cons (pv 5) pa_nil)))))
      (pss_one (ps_ret (pv 3))))))), ?_⟩
    walk_at "sx"
    refine g_make0 fun a dx ha hdx hne => ?_
    have n1 := nx_make (C := He.ga K "Album") e ha hdx hne
    refine ⟨G, a, dx, rfl, n1.gh, e.free ha, upd_same, fun d l H2 n2 hd0 hl0 hA => ⟨rfl, ?_⟩⟩
    have n12 : Nx [] G H G H2 := ((n1.pure (M := [a])).trans n2).drop ha
    have hd : H d = none := n1.fresh hd0
    have hl : H l = none := n1.fresh hl0
    have hL2 := hL.go n12 (by simp)
    have hR2 := hR.go n12 (by simp)
    have hK2 := hK.go n12 (by simp)
    have nin : ∀ {x : Addr}, H x ≠ none → x ≠ a ∧ x ≠ d ∧ x ≠ l := fun {x} hx => ⟨fun z => hx (z ▸ ha), fun z => hx (z ▸ hd), fun z => hx (z ▸ hl)⟩
    obtain ⟨pa, pd, pl⟩ := nin hL.live
    obtain ⟨ba, bd, bl⟩ := nin hR.live
    obtain ⟨ra, rd, rl⟩ := nin hK.live
    have vl := viewsOf_len (ns := ns) hrl
    walk_at "sx"
    refine g_lenLs hL2 ?_
    walk_at "sx"
    rw [List.length_map]
    refine g_walkR (by omega) (by omega) ?_
    refine g_forS (K := K) (M := [a, d, l]) (src_rng 0 _) n12.gh (fun i σ G' H' => ∃ y4 y5, σ = [some (.ref p), some (.ref b), some (.ref r), some (.ref a), y4, y5] ∧ AlbAt K a d l G' H' ((viewsOf ns rs).take i) []) ⟨_, _, rfl, hA⟩ ?_ ?_
    · rintro i w v σ' G3 H3 G4 H4 hi n3 ⟨y4, y5, rfl, hA3⟩ n4 dv
      obtain ⟨hic, rfl⟩ := rng_get hi
      cases dp_int dv
      have hin : i < ns.length := by omega
      have hir : i < rs.length := by omega
      have n34 := n3.trans n4.pure
      have hL4 := hL2.go n34 (by simp [pa, pd, pl])
      have hR4 := hR2.go n34 (by simp [ba, bd, bl])
      have hA4 := hA3.go n4 (by simp) (by simp) (by simp)
      walk_at "sx"
      obtain ⟨_, _, _, _, ⟨dx4, h4⟩, _⟩ := id hA4
      refine g_mth h4 rfl ?_
      walk_at "sx"
      refine g_ixLs (k := i) (d := .str ns[i]) hL4 (by simp [hin]) rfl fun v1 d1 => ?_
      cases dp_str d1
      walk_at "sx"
      refine g_ixLs (k := i) (d := rs[i]) hR4 (by simp [hir]) rfl fun v2 d2 => ?_
      walk_at "sx"
      refine g_tupD (K := K) n4.gh (.cons (.str _) (.cons d2 .nil)) (by show 2 ≤ sizeLine; decide) fun t G5 H5 n5 dt => ?_
      walk_at "sx"
      have hv : (viewsOf ns rs)[i]? = some (.tuple [.str ns[i], rs[i]]) := viewsOf_get (by simp [hin]) (by simp [hir])
      have hrsi := hro rs[i] (List.getElem_mem hir)
      have hni := hnm ns[i] (List.getElem_mem hin)
      have hadd : addV ((viewsOf ns rs).take i) (.tuple [.str ns[i], rs[i]]) = none := by
        refine addV_ok hni hrsi.1 ?_ (by rw [List.length_take]; omega)
        rw [List.map_take, viewsOf_nm hrl]
        intro hm
        obtain ⟨j, hj, hj2⟩ := List.mem_take_iff_getElem.mp hm
        have := (List.getElem_inj hnd).mp hj2
        omega
      refine ⟨G5, a, d, l, _, [], _, _, rfl, n5.gh, hA4.go n5 (by simp) (by simp) (by simp), dt, fit_tuple (by show 2 ≤ 100000; decide) (fun w hw => ?_), fun er her => ?_, fun _ G6 H6 n6 hA6 => ?_⟩
      · simp only [List.mem_cons, List.not_mem_nil, or_false] at hw
        rcases hw with rfl | rfl
        · exact fit_name hni
        · exact hrsi.2
      · rw [hadd] at her
        cases her
      · walk_at "sx"
        refine ⟨G6, (n34.trans n5.pure).trans (n6.mono fun w hw => by simp at hw; simp [hw]), _, _, rfl, ?_⟩
        rw [take_get hv]
        exact hA6
    · rintro σ' G3 H3 n3 ⟨y4, y5, rfl, hA3⟩
      rw [rng_len, show ((ns.length : Int)).toNat = ns.length by omega, List.take_of_length_le (by omega)] at hA3
      have hK3 := hK2.go n3 (by simp [ra, rd, rl])
      walk_at "sx"
      refine g_walkLs hK3 fun S => ?_
      refine g_forS (K := K) (M := [a, d, l]) (S [a, d, l] (by simp [ra, rd, rl])) n3.gh (fun i σ G' H' => ∃ y4 y5, σ = [some (.ref p), some (.ref b), some (.ref r), some (.ref a), y4, y5] ∧ AlbAt K a d l G' H' (viewsOf ns rs) (ls.take i)) ⟨_, _, rfl, hA3⟩ ?_ ?_
      · rintro i w v σ' G5 H5 G6 H6 hi n5 ⟨y4, y5, rfl, hA5⟩ n6 dv
        have hil : i < ls.length := (List.getElem?_eq_some_iff.mp hi).1
        have hlki := hlk w (List.mem_of_getElem? hi)
        have hA6 := hA5.go n6 (by simp) (by simp) (by simp)
        walk_at "sx"
        obtain ⟨_, _, _, _, ⟨dx4, h4⟩, _⟩ := id hA6
        refine g_mth h4 rfl ?_
        walk_at "sx"
        have hadd : addL (viewsOf ns rs) (ls.take i) w = none := addL_ok hnm hlki (fun s hs _ => by rw [viewsOf_nm hrl]; exact hs) (by rw [List.length_take]; omega)
        refine ⟨G6, a, d, l, _, _, _, _, rfl, n6.gh, hA6, dv, fit_lk hnm hlki, fun er her => ?_, fun _ G7 H7 n7 hA7 => ?_⟩
        · rw [hadd] at her
          cases her
        · walk_at "sx"
          refine ⟨G7, (n5.trans n6.pure).trans (n7.mono fun w hw => by simp at hw; simp [hw]), _, _, rfl, ?_⟩
          rw [take_get hi]
          exact hA7
      · rintro σ' G5 H5 n5 ⟨y4, y5, rfl, hA5⟩
        rw [List.take_length] at hA5
        walk_at "sx"
        refine q a d l G5 H5 ?_ ha hd hl hA5
        refine Nx.sub (M' := [a, d, l]) ((n12.pure.trans n3).trans n5) fun w hw => ?_
        simp only [List.mem_cons, List.not_mem_nil, or_false] at hw
        rcases hw with h | h | h
        · exact .inr (h ▸ ha)
        · exact .inr (h ▸ hd)
        · exact .inr (h ▸ hl)
/-! links with their numbers, steps, walks -/
def num : Nat → List PyData → List (Nat × PyData)
  | _, [] => []
  | k, d :: r => (k, d) :: num (k + 1) r
def lkB (nm : List Str) (ls : List PyData) : List (Nat × PyData) := (num 0 ls).filter fun p => decide (lnA p.2 ∈ nm) && decide (lnB p.2 ∈ nm)
def lkM (nl : List (Nat × PyData)) : List (Key × PyData) := nl.map fun p => (Sum.inl (p.1 : Int), p.2)
abbrev Stp := Nat × Bool × Str
abbrev Way := List (Nat × Bool)
abbrev Plc := Int × Int × Int
def stepsL (n : Str) (p : Nat × PyData) : List Stp := (if lnA p.2 = n then [(p.1, true, lnB p.2)] else []) ++ (if lnB p.2 = n then [(p.1, false, lnA p.2)] else [])
def stepsOf (nl : List (Nat × PyData)) (n : Str) : List Stp := nl.flatMap (stepsL n)
def stD (s : Stp) : PyData := .tuple [.int (s.1 : Int), .bool s.2.1, .str s.2.2]
def waD (w : Nat × Bool) : PyData := .tuple [.int (w.1 : Int), .bool w.2]
def wayD (w : Way) : PyData := .tuple (w.map waD)
def plD (p : Plc) : PyData := .tuple [.int p.1, .int p.2.1, .int p.2.2]
theorem num_get : ∀ (k i : Nat) (ls : List PyData), (num k ls)[i]? = (ls[i]?).map fun d => (k + i, d)
  | _, _, [] => by simp [num]
  | k, 0, d :: r => by simp [num]
  | k, i + 1, d :: r => by
    show (num (k + 1) r)[i]? = _
    rw [num_get (k + 1) i r, List.getElem?_cons_succ]
    congr 1
    funext d
    rw [show k + 1 + i = k + (i + 1) by omega]
theorem num_len : ∀ (k : Nat) (ls : List PyData), (num k ls).length = ls.length
  | _, [] => rfl
  | k, d :: r => congrArg (· + 1) (num_len (k + 1) r)
theorem num_take : ∀ (k i : Nat) (ls : List PyData), num k (ls.take i) = (num k ls).take i
  | _, 0, _ => by simp [num]
  | _, _ + 1, [] => by simp [num]
  | k, i + 1, d :: r => by
    show (k, d) :: num (k + 1) (r.take i) = (k, d) :: (num (k + 1) r).take i
    rw [num_take]
theorem num_mem : ∀ {k : Nat} {ls : List PyData} {p : Nat × PyData}, p ∈ num k ls → k ≤ p.1 ∧ p.2 ∈ ls
  | k, d :: r, p, h => by
    rcases List.mem_cons.mp h with rfl | h
    · exact ⟨Nat.le_refl _, by simp⟩
    · obtain ⟨h1, h2⟩ := num_mem h
      exact ⟨by omega, by simp [h2]⟩
theorem num_nodup : ∀ (k : Nat) (ls : List PyData), ((num k ls).map (·.1)).Nodup
  | _, [] => by simp [num]
  | k, d :: r => by
    show (k :: (num (k + 1) r).map (·.1)).Nodup
    rw [List.nodup_cons]
    refine ⟨fun h => ?_, num_nodup (k + 1) r⟩
    obtain ⟨p, hp, h2⟩ := List.mem_map.mp h
    have := (num_mem hp).1
    omega
theorem lkB_take {nm : List Str} {ls : List PyData} {i : Nat} {d : PyData} (h : ls[i]? = some d) : lkB nm (ls.take (i + 1)) = lkB nm (ls.take i) ++ (if (decide (lnA d ∈ nm) && decide (lnB d ∈ nm)) = true then [(i, d)] else []) := by
  unfold lkB
  rw [num_take, num_take, List.take_add_one, num_get, h, List.filter_append]
  congr 1
  simp only [Option.map_some, Option.toList_some, Nat.zero_add]
  by_cases hc : (decide (lnA d ∈ nm) && decide (lnB d ∈ nm)) = true
  · rw [if_pos hc, List.filter_cons_of_pos (by simpa using hc)]
    rfl
  · rw [if_neg hc, List.filter_cons_of_neg (by simpa using hc)]
    rfl
theorem lkB_new {nm : List Str} {ls : List PyData} {i : Nat} : ((i : Nat) : Int) ∉ (lkB nm (ls.take i)).map (fun p => (p.1 : Int)) := by
  intro h
  obtain ⟨p, hp, h2⟩ := List.mem_map.mp h
  have hp := (List.mem_filter.mp hp).1
  rw [num_take] at hp
  obtain ⟨j, hj, hj2⟩ := List.mem_take_iff_getElem.mp hp
  have e1 : (num 0 ls)[j]? = some p := by rw [List.getElem?_eq_getElem (by omega), hj2]
  rw [num_get] at e1
  obtain ⟨d, _, rfl⟩ := Option.map_eq_some_iff.mp e1
  simp only at h2
  omega
theorem lkB_len (nm : List Str) (ls : List PyData) : (lkB nm ls).length ≤ ls.length := by
  unfold lkB
  exact Nat.le_trans (List.length_filter_le _ _) (Nat.le_of_eq (num_len 0 ls))
theorem lkB_mem {nm : List Str} {ls : List PyData} {p : Nat × PyData} (h : p ∈ lkB nm ls) : p.2 ∈ ls ∧ lnA p.2 ∈ nm ∧ lnB p.2 ∈ nm ∧ ls[p.1]? = some p.2 := by
  obtain ⟨h1, h2⟩ := List.mem_filter.mp h
  rw [Bool.and_eq_true, decide_eq_true_eq, decide_eq_true_eq] at h2
  refine ⟨(num_mem h1).2, h2.1, h2.2, ?_⟩
  obtain ⟨j, hj, hj2⟩ := List.mem_iff_getElem.mp h1
  have e1 : (num 0 ls)[j]? = some p := by rw [List.getElem?_eq_getElem hj, hj2]
  rw [num_get] at e1
  obtain ⟨d, hd, rfl⟩ := Option.map_eq_some_iff.mp e1
  simpa using hd
theorem stepsL_len (n : Str) (p : Nat × PyData) : (stepsL n p).length ≤ 2 := by
  unfold stepsL
  rw [List.length_append]
  split <;> split <;> simp
theorem num_snoc {ls : List PyData} {i : Nat} {d : PyData} {n : Str} (h : ls[i]? = some d) : stepsOf (num 0 (ls.take (i + 1))) n = stepsOf (num 0 (ls.take i)) n ++ stepsL n (i, d) := by
  rw [num_take, num_take, List.take_add_one, num_get, h]
  unfold stepsOf
  rw [List.flatMap_append]
  simp
def sp__law_steps (K : PySem.W.Frag) : Sp := fun vs H Q _ => ∃ G r ls n, vs = [.ref r, .str n] ∧ Y.Ex G H ∧ LstAt K r G H ls ∧ ls.length ≤ 100 ∧ (∀ d ∈ ls, ∃ (s t : Str) (x y z : Int), d = .tuple [.str s, .str t, .int x, .int y, .int z]) ∧ ∀ o G' H', Nx [] G H G' H' → H o = none → LstAt K o G' H' ((stepsOf (num 0 ls) n).map stD) → Q (.ref o) H'
theorem ok__law_steps (T : Tx fa fn bx K mg) : FnOk P w K mg base CX0 1 (He.ga K "_law_steps") (fdOf K (He.ga K "_law_steps")) ["links", "name"] (sp__law_steps K) := by
  refine FunD.ok (F__law_steps T) sc__law_steps (fun vs H Q E h => ?_) (fun cdv A outer s H vs Q E hr h => ?_)
  · obtain ⟨_, _, _, _, rfl, _⟩ := h
    rfl
  · obtain ⟨G, r, ls, n, rfl, e, hL, hll, hlk, q⟩ := h
    refine ⟨_, PSs.nox ((pss_cons (ps_set (i := 2) sc__law_steps.nd rfl (Or.inl rfl) (pe_lst pa_nil))
      (pss_cons (ps_for PassesOwn.never rfl (pi_range1 (by rfl) (T.free 16) (pa_cons (pe_callB (Y.call_lenK (K := K) rfl) (by rfl) (T.free 3) (by decide +kernel) (pa_cons (pv 0) pa_nil)) pa_nil)) (pg_name (i := 3) sc__law_steps.nd rfl (Or.inl rfl))
      (pss_cons (ps_if (pt_cmpR op_eq (pe_ix (Y.ix_tupK (K := K) rfl) (pe_ix (Y.ix_listK (K := K) rfl) (pv 0) (pv 3) (fun _ _ => rfl)) pe_int (fun _ _ => rfl)) (pv 1) (nomark _))
      (pss_one (ps_expr (Y.pe_bmK (K := K) rfl PySem.F.plainAttrs_list PySem.F.slot_list_append PySem.F.type_list_append mt_append (pv 2) (pa_cons (pe_tup (pa_cons (pv 3) (pa_cons pe_bl (pa_cons (pe_ix (Y.ix_tupK (K := K) rfl) (pe_ix (Y.ix_listK (K := K) rfl) (pv 0) (pv 3) (fun _ _ => rfl)) pe_int (fun _ _ => rfl)) pa_nil)))) pa_nil))))
      pss_nil)
      (pss_one (ps_if (pt_cmpR op_eq (pe_ix (Y.ix_tupK (K := K) rfl) (pe_ix (Y.ix_listK (K := K) rfl) (pv 0) (pv 3) (fun _ _ => rfl)) pe_int (fun _ _ => rfl)) (pv 1) (nomark _))
      (pss_one (ps_expr (Y.pe_bmK (K := K) rfl PySem.F.plainAttrs_list PySem.F.slot_list_append PySem.F.type_list_append mt_append (pv 2) (pa_cons (pe_tup (pa_cons (pv 3) (pa_cons pe_bl (pa_cons (pe_ix (Y.ix_tupK (K := K) rfl) (pe_ix (Y.ix_listK (K := K) rfl) (pv 0) (pv 3) (fun _ _ => rfl)) pe_int (fun _ _ => rfl)) pa_nil)))) pa_nil))))
      pss_nil))))
      (pss_one (ps_ret (pv 2)))))), ?_⟩
    walk_at "sx"
    refine g_lstLs (K := K) (L := []) e .nil (Nat.zero_le _) fun o H1 n1 ho hO => ?_
    walk_at "sx"
    have hL1 := hL.go n1 (by simp)
    have orr : o ≠ r := fun z => hL.live (z ▸ ho)
    refine g_lenLs hL1 ?_
    walk_at "sx"
    refine g_walkR (by omega) (by omega) ?_
    refine g_forS (K := K) (M := [o]) (src_rng 0 _) n1.gh (fun i σ G' H' => ∃ y3, σ = [some (.ref r), some (.str n), some (.ref o), y3] ∧ LstAt K o G' H' ((stepsOf (num 0 (ls.take i)) n).map stD)) ⟨_, rfl, by simpa [num, stepsOf] using hO⟩ ?_ ?_
    · rintro i w v σ' G2 H2 G3 H3 hi n2 ⟨y3, rfl, hO2⟩ n3 dv
      obtain ⟨hic, rfl⟩ := rng_get hi
      cases dp_int dv
      have hil : i < ls.length := by omega
      have hd0 : ls[i]? = some ls[i] := by simp [hil]
      obtain ⟨s, t, x, y, z, hd⟩ := hlk _ (List.getElem_mem hil)
      rw [hd] at hd0
      have n23 := n2.trans n3.pure
      have hL3 := hL1.go n23 (by simp [orr.symm])
      have hO3 := hO2.go n3 (by simp)
      have bl : ((stepsOf (num 0 (ls.take i)) n).map stD).length ≤ 1000 := by
        have key : ∀ l : List (Nat × PyData), (stepsOf l n).length ≤ 2 * l.length := fun l => by
          unfold stepsOf
          induction l with
          | nil => simp
          | cons p r ih =>
            rw [List.flatMap_cons, List.length_append, List.length_cons]
            have := stepsL_len n p
            omega
        have := key (num 0 (ls.take i))
        rw [num_len, List.length_take] at this
        rw [List.length_map]
        omega
      walk_at "sx"
      refine g_ixLs (k := i) hL3 hd0 rfl fun v1 d1 => ?_
      walk_at "sx"
      refine g_ixT (k := 0) n3.gh d1 rfl rfl fun v2 d2 => ?_
      cases dp_str d2
      walk_at "sx"
      refine g_dec (fun hs => ?_) (fun hs => ?_) <;> walk_at "sx"
      · refine g_tyLs hO3 ?_
        walk_at "sx"
        refine g_ixLs (k := i) hL3 hd0 rfl fun v3 d3 => ?_
        walk_at "sx"
        refine g_ixT (k := 1) n3.gh d3 rfl rfl fun v4 d4 => ?_
        cases dp_str d4
        walk_at "sx"
        refine g_tupD (K := K) (ds := [.int (i : Int), .bool true, .str t]) n3.gh (.cons (.int _) (.cons (.bl _) (.cons (.str _) .nil))) (by show 3 ≤ sizeLine; decide) fun tp G4 H4 n4 d5 => ?_
        walk_at "sx"
        refine g_appLs n4.gh (hO3.go n4 (by simp)) d5 (by omega) fun H5 n5 hO5 => ?_
        walk_at "sx"
        have hL5 := (hL3.go n4 (by simp)).go n5 (by simp [orr.symm])
        have n25 := (n23.trans n4.pure).trans n5
        refine g_ixLs (k := i) hL5 hd0 rfl fun v5 d5 => ?_
        walk_at "sx"
        refine g_ixT (k := 1) n5.gh d5 rfl rfl fun v6 d6 => ?_
        cases dp_str d6
        walk_at "sx"
        refine g_dec (fun ht => ?_) (fun ht => ?_) <;> walk_at "sx"
        · refine g_tyLs hO5 ?_
          walk_at "sx"
          refine g_ixLs (k := i) hL5 hd0 rfl fun v7 d7 => ?_
          walk_at "sx"
          refine g_ixT (k := 0) n5.gh d7 rfl rfl fun v8 d8 => ?_
          cases dp_str d8
          walk_at "sx"
          refine g_tupD (K := K) (ds := [.int (i : Int), .bool false, .str s]) n5.gh (.cons (.int _) (.cons (.bl _) (.cons (.str _) .nil))) (by show 3 ≤ sizeLine; decide) fun tp2 G6 H6 n6 d9 => ?_
          walk_at "sx"
          refine g_appLs n6.gh (hO5.go n6 (by simp)) d9 (by simp only [List.length_append, List.length_map, List.length_cons, List.length_nil] at *; omega) fun H7 n7 hO7 => ?_
          refine ⟨G6, (n25.trans n6.pure).trans n7, _, rfl, ?_⟩
          rw [num_snoc hd0]
          have : stepsL n (i, .tuple [.str s, .str t, .int x, .int y, .int z]) = [(i, true, t)] ++ [(i, false, s)] := by
            simp [stepsL, lnA, lnB, hs, ht]
          rw [this, List.map_append]
          simpa [stD] using hO7
        · refine ⟨G4, n25, _, rfl, ?_⟩
          rw [num_snoc hd0]
          have : stepsL n (i, .tuple [.str s, .str t, .int x, .int y, .int z]) = [(i, true, t)] := by
            simp [stepsL, lnA, lnB, hs, ht]
          rw [this, List.map_append]
          simpa [stD] using hO5
      · refine g_ixLs (k := i) hL3 hd0 rfl fun v5 d5 => ?_
        walk_at "sx"
        refine g_ixT (k := 1) n3.gh d5 rfl rfl fun v6 d6 => ?_
        cases dp_str d6
        walk_at "sx"
        refine g_dec (fun ht => ?_) (fun ht => ?_) <;> walk_at "sx"
        · refine g_tyLs hO3 ?_
          walk_at "sx"
          refine g_ixLs (k := i) hL3 hd0 rfl fun v7 d7 => ?_
          walk_at "sx"
          refine g_ixT (k := 0) n3.gh d7 rfl rfl fun v8 d8 => ?_
          cases dp_str d8
          walk_at "sx"
          refine g_tupD (K := K) (ds := [.int (i : Int), .bool false, .str s]) n3.gh (.cons (.int _) (.cons (.bl _) (.cons (.str _) .nil))) (by show 3 ≤ sizeLine; decide) fun tp2 G6 H6 n6 d9 => ?_
          walk_at "sx"
          refine g_appLs n6.gh (hO3.go n6 (by simp)) d9 (by simp only [List.length_append, List.length_map, List.length_cons, List.length_nil] at *; omega) fun H7 n7 hO7 => ?_
          refine ⟨G6, (n23.trans n6.pure).trans n7, _, rfl, ?_⟩
          rw [num_snoc hd0]
          have : stepsL n (i, .tuple [.str s, .str t, .int x, .int y, .int z]) = [] ++ [(i, false, s)] := by
            simp [stepsL, lnA, lnB, hs, ht]
          rw [this, List.map_append]
          simpa [stD] using hO7
        · refine ⟨G3, n23, _, rfl, ?_⟩
          rw [num_snoc hd0]
          have : stepsL n (i, .tuple [.str s, .str t, .int x, .int y, .int z]) = [] := by
            simp [stepsL, lnA, lnB, hs, ht]
          rw [this, List.map_append]
          simpa [stD] using hO3
    · rintro σ' G2 H2 n2 ⟨y3, rfl, hO2⟩
      rw [rng_len, show ((ls.length : Int)).toNat = ls.length by omega, List.take_length] at hO2
      walk_at "sx"
      exact q o G2 H2 ((n1.pure.trans n2).drop ho) ho hO2
/-- the dict of the steps while it is made: its lists by address -/
structure StA (K : PySem.W.Frag) (D : Addr) (nm : List Str) (as : List Addr) (F : Str → List Stp) (G H : Hp) : Prop where
  dk : H D = some (.dK (List.zipWith (fun n a => ((Sum.inr n : Key), V.ref a)) nm as))
  gd : G D = none
  len : as.length = nm.length
  nd : as.Nodup
  nin : D ∉ as
  at_ : ∀ (j : Nat) (n : Str) (a : Addr), nm[j]? = some n → as[j]? = some a → LstAt K a G H ((F n).map stD)
section
variable {K : PySem.W.Frag} {D : Addr} {nm : List Str} {as : List Addr} {F : Str → List Stp} {G H G' H' : Hp} {M : List Addr}
theorem StA.go (r : StA K D nm as F G H) (n : Nx M G H G' H') (hD : D ∉ M) (ha : ∀ a ∈ as, a ∉ M) : StA K D nm as F G' H' :=
  ⟨n.fr D _ hD r.dk, n.old D r.gd ⟨_, r.dk, fun _ z => nomatch z⟩, r.len, r.nd, r.nin, fun j x a h1 h2 => (r.at_ j x a h1 h2).go n (ha a (List.mem_of_getElem? h2))⟩
theorem StA.updd (r : StA K D nm as F G H) {q : Addr} {o : HO} (h1 : q ≠ D) (h2 : q ∉ as) : StA K D nm as F G (upd H q o) :=
  ⟨by rw [upd_ne h1.symm]; exact r.dk, r.gd, r.len, r.nd, r.nin, fun j x a h3 h4 => (r.at_ j x a h3 h4).upd (fun z => h2 (z ▸ List.mem_of_getElem? h4))⟩
theorem StA.get (r : StA K D nm as F G H) (hnd : nm.Nodup) {j : Nat} {n : Str} (h : nm[j]? = some n) : ∃ a, as[j]? = some a ∧ valV (List.zipWith (fun n a => ((Sum.inr n : Key), V.ref a)) nm as) (Sum.inr n) = some (.ref a) := by
  have hj : j < nm.length := (List.getElem?_eq_some_iff.mp h).1
  have hja : j < as.length := by rw [r.len]; exact hj
  refine ⟨as[j], by simp [hja], ?_⟩
  have key : ∀ (nm : List Str) (as : List Addr) (j : Nat) (n : Str) (a : Addr), nm.Nodup → nm[j]? = some n → as[j]? = some a → valV (List.zipWith (fun n a => ((Sum.inr n : Key), V.ref a)) nm as) (Sum.inr n) = some (.ref a) := by
    intro nm
    induction nm with
    | nil => intro as j n a _ h _; simp at h
    | cons m nm ih =>
      intro as j n a hnd h h2
      cases as with
      | nil => simp at h2
      | cons b as =>
        rw [List.nodup_cons] at hnd
        show valV ((Sum.inr m, V.ref b) :: List.zipWith (fun n a => ((Sum.inr n : Key), V.ref a)) nm as) (Sum.inr n) = _
        cases j with
        | zero =>
          simp only [List.getElem?_cons_zero, Option.some.injEq] at h h2
          subst h h2
          exact valV_pos (p := (Sum.inr m, V.ref b)) rfl
        | succ j =>
          simp only [List.getElem?_cons_succ] at h h2
          have hne : m ≠ n := fun z => hnd.1 (z ▸ List.mem_of_getElem? h)
          rw [valV_neg (p := (Sum.inr m, V.ref b)) (by simpa using hne)]
          exact ih as j n a hnd.2 h h2
  exact key nm as j n _ hnd h (by simp [hja])
/-- one more step at a name -/
theorem StA.put (r : StA K D nm as F G H) (hnd : nm.Nodup) {j : Nat} {n : Str} {a : Addr} (h : nm[j]? = some n) (h2 : as[j]? = some a) {s : Stp} (x : Nx [a] G H G' H') (hL : LstAt K a G' H' ((F n ++ [s]).map stD)) : StA K D nm as (fun m => if m = n then F n ++ [s] else F m) G' H' := by
  have haD : D ≠ a := fun z => r.nin (by rw [z]; exact List.mem_of_getElem? h2)
  refine ⟨x.fr D _ (by simp [haD]) r.dk, x.old D r.gd ⟨_, r.dk, fun _ z => nomatch z⟩, r.len, r.nd, r.nin, fun j' n' a' h3 h4 => ?_⟩
  by_cases hj : j' = j
  · subst hj
    rw [h] at h3
    rw [h2] at h4
    cases h3; cases h4
    rw [if_pos rfl]
    exact hL
  · have hja : j < as.length := (List.getElem?_eq_some_iff.mp h2).1
    have hja' : j' < as.length := (List.getElem?_eq_some_iff.mp h4).1
    have hjn : j < nm.length := (List.getElem?_eq_some_iff.mp h).1
    have hjn' : j' < nm.length := (List.getElem?_eq_some_iff.mp h3).1
    have ha : a' ≠ a := fun z => hj ((List.getElem_inj r.nd).mp (by
      rw [List.getElem?_eq_getElem hja'] at h4
      rw [List.getElem?_eq_getElem hja] at h2
      rw [Option.some.inj h4, Option.some.inj h2, z] : as[j'] = as[j]))
    have hn : n' ≠ n := fun z => hj ((List.getElem_inj hnd).mp (by
      rw [List.getElem?_eq_getElem hjn'] at h3
      rw [List.getElem?_eq_getElem hjn] at h
      rw [Option.some.inj h3, Option.some.inj h, z] : nm[j'] = nm[j]))
    rw [if_neg hn]
    exact (r.at_ j' n' a' h3 h4).go x (by simp [ha])
end
/-- all is known at the end -/
theorem StA.know {K : PySem.W.Frag} {D : Addr} {nm : List Str} {as : List Addr} {F : Str → List Stp} {G H G0 H0 : Hp} {M : List Addr} (r : StA K D nm as F G H) (n : Nx M G0 H0 G H) (h0 : ∀ a ∈ as, H0 a = none) :
    ∃ G', Nx M G0 H0 G' H ∧ DctAt K D G' H (nm.map fun x => ((Sum.inr x : Key), PyData.list ((F x).map stD))) := by
  have key : ∀ k, k ≤ as.length → ∃ G', Nx M G0 H0 G' H ∧ Y.Ex G G' ∧ G' D = none ∧ (∀ (j : Nat) (a : Addr), k ≤ j → as[j]? = some a → G' a = none) ∧ ∀ (j : Nat) (x : Str) (a : Addr), j < k → nm[j]? = some x → as[j]? = some a → Dp K G' (.ref a) (.list ((F x).map stD)) := by
    intro k
    induction k with
    | zero => exact fun _ => ⟨G, n, Ex.refl _, r.gd, fun j a _ h => by
        have hjn : j < nm.length := by have := (List.getElem?_eq_some_iff.mp h).1; rw [r.len] at this; exact this
        obtain ⟨vs, _, g, _⟩ := r.at_ j nm[j] a (by simp [hjn]) h
        exact g, fun j x a h => absurd h (by omega)⟩
    | succ k ih =>
      intro hk
      obtain ⟨G', n', e', gD, gl, kn⟩ := ih (by omega)
      have hka : as[k]? = some as[k] := by simp
      have hkn : k < nm.length := by rw [← r.len]; exact hk
      obtain ⟨vs, h1, _, d1⟩ := r.at_ k nm[k] as[k] (by simp [hkn]) hka
      have gk := gl k _ (Nat.le_refl _) hka
      have ne : Ex G' (upd G' as[k] (.lst vs)) := Ex.new gk
      refine ⟨upd G' as[k] (.lst vs), n'.know (h0 _ (List.mem_of_getElem? hka)) h1 gk, e'.trans ne, ?_, fun j a hj hja => ?_, fun j x a hj hx hja => ?_⟩
      · rw [upd_ne (fun (z : D = as[k]) => r.nin (by rw [z]; exact List.mem_of_getElem? hka))]
        exact gD
      · have hjl : j < as.length := (List.getElem?_eq_some_iff.mp hja).1
        have : a ≠ as[k] := fun z => by
          rw [List.getElem?_eq_getElem hjl] at hja
          have := (List.getElem_inj r.nd).mp ((Option.some.inj hja).trans z)
          omega
        rw [upd_ne this]
        exact gl j a (by omega) hja
      · by_cases hjk : j < k
        · exact dp_mono ne (kn j x a hjk hx hja)
        · have : j = k := by omega
          subst this
          rw [hka] at hja
          have hx' : nm[j]? = some nm[j] := by simp [hkn]
          rw [hx'] at hx
          cases hja; cases hx
          exact .lst (.of upd_same) (dpAll_mono (e'.trans ne) d1)
  obtain ⟨G', n', _, gD, _, kn⟩ := key as.length (Nat.le_refl _)
  refine ⟨G', n', _, r.dk, gD, ?_, ?_⟩
  · rw [List.map_zipWith, List.map_map]
    have : ∀ (nm : List Str) (as : List Addr), as.length = nm.length → List.zipWith (fun (x : Str) (y : Addr) => (Sum.inr x : Key)) nm as = nm.map fun x => (Sum.inr x : Key) := by
      intro nm
      induction nm with
      | nil => intro as _; rfl
      | cons a nm ih =>
        intro as h
        cases as with
        | nil => simp at h
        | cons b as =>
          show (Sum.inr a : Key) :: List.zipWith _ nm as = (Sum.inr a : Key) :: nm.map _
          rw [ih as (by simpa using h)]
    exact this nm as r.len
  · refine dpAll_at (by simp [r.len]) fun i v d hv hd => ?_
    rw [List.getElem?_map, List.getElem?_zipWith] at hv
    rw [List.map_map, List.getElem?_map] at hd
    obtain ⟨x, hx, rfl⟩ := Option.map_eq_some_iff.mp hd
    rw [hx] at hv
    cases ha : as[i]? with
    | none => rw [ha] at hv; cases hv
    | some a =>
      rw [ha] at hv
      cases hv
      exact kn i x a ((List.getElem?_eq_some_iff.mp ha).1) hx ha
def stepsM (nm : List Str) (nl : List (Nat × PyData)) : List (Key × PyData) := nm.map fun x => ((Sum.inr x : Key), PyData.list ((stepsOf nl x).map stD))
def nlOk (nm : List Str) (nl : List (Nat × PyData)) : Prop := nl.length ≤ 1000 ∧ ∀ p ∈ nl, ∃ s t x y z, p.2 = .tuple [.str s, .str t, .int x, .int y, .int z] ∧ s ∈ nm ∧ t ∈ nm ∧ s ≠ t
def sp__steps_at (K : PySem.W.Frag) : Sp := fun vs H Q _ => ∃ G p nm q nl, vs = [.ref p, .ref q] ∧ Y.Ex G H ∧ LstAt K p G H (nm.map .str) ∧ DctAt K q G H (lkM nl) ∧ nm.Nodup ∧ nm.length ≤ 1000 ∧ nlOk nm nl ∧ ∀ r G' H', Nx [] G H G' H' → H r = none → DctAt K r G' H' (stepsM nm nl) → Q (.ref r) H'
theorem stepsOf_snoc {nl : List (Nat × PyData)} {p : Nat × PyData} {n : Str} : stepsOf (nl ++ [p]) n = stepsOf nl n ++ stepsL n p := by
  unfold stepsOf
  rw [List.flatMap_append]
  simp
theorem stepsOf_len (nl : List (Nat × PyData)) (n : Str) : (stepsOf nl n).length ≤ 2 * nl.length := by
  induction nl with
  | nil => exact Nat.zero_le _
  | cons p r ih =>
    have e : stepsOf (p :: r) n = stepsL n p ++ stepsOf r n := rfl
    rw [e, List.length_append]
    have : (stepsL n p).length ≤ 2 := by
      unfold stepsL
      rw [List.length_append]
      split <;> split <;> simp
    simp only [List.length_cons]
    omega
theorem ok__steps_at (T : Tx fa fn bx K mg) : FnOk P w K mg base CX0 1 (He.ga K "_steps_at") (fdOf K (He.ga K "_steps_at")) ["names", "links"] (sp__steps_at K) := by
  refine FunD.ok (F__steps_at T) sc__steps_at (fun vs H Q E h => ?_) (fun cdv A outer s H vs Q E hr h => ?_)
  · obtain ⟨_, _, _, _, _, rfl, _⟩ := h
    rfl
  · obtain ⟨G, p, nm, q0, nl, rfl, e, hL, hD, hnd, hnl, ⟨hll, hok⟩, q⟩ := h
    refine ⟨_, PSs.nox ((pss_cons (Y.ps_setDc (i := 2) (own := [("name", 5)]) (tt := tYes) rfl sc__steps_at.nd rfl rfl (Y.sw_trueD rfl rfl rfl (by decide +kernel)) (Y.pi_listK (K := K) rfl (pv 0)) (blkOk_by (own := [("name", 5)]) (by kernel_rfl)) (fun _ _ _ _ _ => (pg_name (i := 5) sc__steps_at.nd rfl (Or.inl rfl))) (fun _ _ _ _ _ => pts_nil) (fun _ _ _ _ _ => (pv 5)) (fun _ _ _ _ _ => (pe_lst pa_nil)))
      (pss_cons (ps_lock (ps_for PassesOwn.never rfl (pi_items (pv 1)) (Y.pg_tupK (K := K) (n := 2) rfl rfl (pgs_cons (pg_name (i := 3) sc__steps_at.nd rfl (Or.inl rfl)) (pgs_cons (pg_name (i := 4) sc__steps_at.nd rfl (Or.inl rfl)) pgs_nil)))
      (pss_cons (ps_asg (pe_slice (Y.sl_tupAK (K := K) rfl) (pv 4) po_none (po_some pe_int)) (Y.pg_tupK (K := K) (n := 2) rfl rfl (pgs_cons (pg_name (i := 6) sc__steps_at.nd rfl (Or.inl rfl)) (pgs_cons (pg_name (i := 7) sc__steps_at.nd rfl (Or.inl rfl)) pgs_nil))))
      (pss_cons (ps_expr (Y.pe_bmK (K := K) rfl PySem.F.plainAttrs_list PySem.F.slot_list_append PySem.F.type_list_append mt_append (pe_dget (hu_of hr) (pv 2) (pv 6) (fun _ _ => rfl)) (pa_cons (pe_tup (pa_cons (pv 3) (pa_cons pe_bl (pa_cons (pv 7) pa_nil)))) pa_nil)))
      (pss_one (ps_expr (Y.pe_bmK (K := K) rfl PySem.F.plainAttrs_list PySem.F.slot_list_append PySem.F.type_list_append mt_append (pe_dget (hu_of hr) (pv 2) (pv 7) (fun _ _ => rfl)) (pa_cons (pe_tup (pa_cons (pv 3) (pa_cons pe_bl (pa_cons (pv 6) pa_nil)))) pa_nil))))))))
      (pss_one (ps_ret (pv 2)))))), ?_⟩
    walk_at "sx"
    refine g_walkLs hL fun S => ?_
    intro A hA
    have hAp : A ≠ p := fun z => hL.live (z ▸ hA)
    have hAq : A ≠ q0 := fun z => hD.live (z ▸ hA)
    refine g_dcC (K := K) (M := []) (S [] (by simp)) e hA (by simp) (by rw [List.length_map]; omega) (fun i kvs G' H' => ∃ as : List Addr, kvs = List.zipWith (fun n a => ((Sum.inr n : Key), V.ref a)) (nm.take i) as ∧ as.length = min i nm.length ∧ as.Nodup ∧ A ∉ as ∧ (∀ a ∈ as, H a = none) ∧ ∀ a ∈ as, LstAt K a G' H' []) (fun i kvs G' H' o ⟨as, h1, h2, h3, h4, h5, h6⟩ => ⟨as, h1, h2, h3, h4, h5, fun a ha => (h6 a ha).upd (fun z => h4 (z ▸ ha))⟩) (fun i kvs G' H' G1 H1 n ⟨as, h1, h2, h3, h4, h5, h6⟩ => ⟨as, h1, h2, h3, h4, h5, fun a ha => (h6 a ha).go n (by simp)⟩) ⟨[], by simp, by simp, by simp, by simp, by simp, by simp⟩ (fun i d v kvs G' H' hi dv n hAl ⟨as, h1, h2, h3, h4, h5, h6⟩ QE QN k1 k2 => ?_) (fun G1 H1 kvs ⟨as, h1, h2, h3, h4, h5, h6⟩ n1 gA hA1 _ => ?_)
    · rw [List.getElem?_map] at hi
      obtain ⟨x, hx, rfl⟩ := Option.map_eq_some_iff.mp hi
      cases dp_str dv
      have hil : i < nm.length := (List.getElem?_eq_some_iff.mp hx).1
      walk_at "sx"
      refine g_lstLs (K := K) (L := []) n.gh .nil (Nat.zero_le _) fun r H2 n2 hr hLr => ?_
      have hal : as.length = i := by rw [h2]; omega
      refine k1 _ _ (Sum.inr x) G' H2 rfl n2 ⟨as ++ [r], ?_, by rw [List.length_append, hal]; simp; omega, ?_, ?_, ?_, ?_⟩
      · have e1 : putK kvs (Sum.inr x) (V.ref r) = ptM kvs (Sum.inr x) (V.ref r) := rfl
        rw [e1, ptM_new, h1, List.take_add_one, hx]
        · show _ = List.zipWith _ (nm.take i ++ [x]) (as ++ [r])
          rw [List.zipWith_append (by rw [List.length_take, hal]; omega)]
          rfl
        · rw [h1, List.map_zipWith]
          intro hm
          have : ∀ (as : List Addr) (nm : List Str), (Sum.inr x : Key) ∈ List.zipWith (fun (x : Str) (y : Addr) => (Sum.inr x : Key)) nm as → x ∈ nm := by
            intro as nm
            induction nm generalizing as with
            | nil => intro h; simp at h
            | cons m nm ih =>
              intro h
              cases as with
              | nil => simp at h
              | cons b as =>
                rcases List.mem_cons.mp h with h | h
                · simp only [Sum.inr.injEq] at h
                  simp [h]
                · exact List.mem_cons_of_mem _ (ih as h)
          have hm2 := this as (nm.take i) hm
          obtain ⟨j, hj, hj2⟩ := List.mem_take_iff_getElem.mp hm2
          have e2 : nm[i] = x := (List.getElem?_eq_some_iff.mp hx).2
          have := (List.getElem_inj hnd).mp (hj2.trans e2.symm)
          omega
      · refine List.nodup_append.mpr ⟨h3, by simp, fun a ha b hb => ?_⟩
        simp only [List.mem_cons, List.not_mem_nil, or_false] at hb
        subst hb
        exact fun z => (h6 a ha).live (z ▸ hr)
      · intro hm
        rcases List.mem_append.mp hm with hm | hm
        · exact h4 hm
        · simp only [List.mem_cons, List.not_mem_nil, or_false] at hm
          exact hAl (hm ▸ hr)
      · intro a ha
        rcases List.mem_append.mp ha with ha | ha
        · exact h5 a ha
        · simp only [List.mem_cons, List.not_mem_nil, or_false] at ha
          subst ha
          exact n.fresh hr
      · intro a ha
        rcases List.mem_append.mp ha with ha | ha
        · exact (h6 a ha).go n2 (by simp)
        · simp only [List.mem_cons, List.not_mem_nil, or_false] at ha
          subst ha
          exact hLr
    · rw [List.length_map] at h1 h2
      rw [List.take_length] at h1
      rw [Nat.min_self] at h2
      have st : StA K A nm as (stepsOf []) G1 H1 := ⟨by rw [hA1, h1], gA, h2, h3, h4, fun j n a _ ha => h6 a (List.mem_of_getElem? ha)⟩
      have hD1 := hD.go n1 (by simp)
      have hq0as : q0 ∉ as := fun hm => hD.live (h5 q0 hm)
      walk_at "sx"
      have sl := fun n => stepsOf_len nl n
      refine g_forItems (K := K) (M := as) hD1 n1.gh hq0as rfl (fun i σ G' H' => ∃ y3 y4 y6 y7, σ = [some (.ref p), some (.ref q0), some (.ref A), y3, y4, none, y6, y7] ∧ StA K A nm as (stepsOf (nl.take i)) G' H') (fun od u => ⟨_, _, _, _, rfl, st.go (Nx.set (M := [q0]) n1.gh (by obtain ⟨_, _, g, _⟩ := hD1; exact g) (by simp)) (by simp [hAq]) (fun a ha => by simp; exact fun z => hq0as (z ▸ ha))⟩) ?_ ?_
      · rintro i k x v σ' G2 H2 H0 G3 H3 hi n2 ⟨y3, y4, y6, y7, rfl, st2⟩ n3 dv R hR D' e1 e2
        unfold lkM at hi
        rw [List.getElem?_map] at hi
        obtain ⟨⟨nb, x0⟩, hx0, he⟩ := Option.map_eq_some_iff.mp hi
        simp only [Prod.mk.injEq] at he
        obtain ⟨rfl, rfl⟩ := he
        obtain ⟨s, t, dx, dy, dz, e5, hs, ht, hst⟩ := hok _ (List.mem_of_getElem? hx0)
        simp only at e5
        subst e5
        have st3 := st2.go n3 (by simp) (fun _ _ => by simp)
        refine g_un2 n3.gh dv fun v1 v2 d1 d2 => ?_
        cases dp_int d1
        walk_at "sx"
        refine g_slHi (k := 2) n3.gh d2 rfl fun v3 G4 H4 n4 d4 => ?_
        have st4 := st3.go n4 (by simp) (fun _ _ => by simp)
        refine g_un2 n4.gh d4 fun v5 v6 d5 d6 => ?_
        cases dp_str d5
        cases dp_str d6
        walk_at "sx"
        obtain ⟨js, hjs, hjs2⟩ := List.getElem_of_mem hs
        obtain ⟨jt, hjt, hjt2⟩ := List.getElem_of_mem ht
        have gs : nm[js]? = some s := by rw [List.getElem?_eq_getElem hjs, hjs2]
        have gt : nm[jt]? = some t := by rw [List.getElem?_eq_getElem hjt, hjt2]
        obtain ⟨as_, has, hvs⟩ := st4.get hnd gs
        refine g_rawGet st4.dk (k := Sum.inr s) rfl hvs ?_
        have hLs := st4.at_ js s as_ gs has
        refine g_tyLs hLs ?_
        walk_at "sx"
        refine g_tupD (K := K) (ds := [.int (nb : Int), .bool true, .str t]) n4.gh (.cons (.int _) (.cons (.bl _) (.cons (.str _) .nil))) (by show 3 ≤ sizeLine; decide) fun tp G5 H5 n5 d7 => ?_
        walk_at "sx"
        have st5 := st4.go n5 (by simp) (fun _ _ => by simp)
        have bl : ∀ n, ((stepsOf (nl.take i) n).map stD).length < 50000 := fun n => by
          have := stepsOf_len (nl.take i) n
          rw [List.length_take] at this
          rw [List.length_map]
          omega
        refine g_appLs n5.gh (hLs.go n5 (by simp)) d7 (by have := bl s; omega) fun H6 n6 hL6 => ?_
        have st6 := st5.put hnd gs has (s := (nb, true, t)) n6 (by rw [List.map_append]; exact hL6)
        walk_at "sx"
        obtain ⟨at_, hat, hvt⟩ := st6.get hnd gt
        refine g_rawGet st6.dk (k := Sum.inr t) rfl hvt ?_
        have hLt := st6.at_ jt t at_ gt hat
        rw [if_neg (fun z => hst z.symm)] at hLt
        refine g_tyLs hLt ?_
        walk_at "sx"
        refine g_tupD (K := K) (ds := [.int (nb : Int), .bool false, .str s]) n6.gh (.cons (.int _) (.cons (.bl _) (.cons (.str _) .nil))) (by show 3 ≤ sizeLine; decide) fun tp2 G7 H7 n7 d8 => ?_
        walk_at "sx"
        have st7 := st6.go n7 (by simp) (fun _ _ => by simp)
        refine g_appLs n7.gh (hLt.go n7 (by simp)) d8 (by have := bl t; omega) fun H8 n8 hL8 => ?_
        have st8 := st7.put hnd gt hat (s := (nb, false, s)) n8 (by rw [if_neg (fun z => hst z.symm), List.map_append]; exact hL8)
        rw [e1]
        have nn : Nx as G2 H2 G7 H8 := ((((n3.trans n4).trans n5).pure.trans (n6.mono fun w hw => by simp at hw; rw [hw]; exact List.mem_of_getElem? has)).trans n7.pure).trans (n8.mono fun w hw => by simp at hw; rw [hw]; exact List.mem_of_getElem? hat)
        refine hR _ G7 _ (n2.trans nn) ⟨_, _, _, _, rfl, ?_⟩
        have eF : stepsOf (nl.take (i + 1)) = fun m => if m = t then (if t = s then stepsOf (nl.take i) s ++ [(nb, true, t)] else stepsOf (nl.take i) t) ++ [(nb, false, s)] else if m = s then stepsOf (nl.take i) s ++ [(nb, true, t)] else stepsOf (nl.take i) m := by
          funext m
          rw [List.take_add_one, hx0]
          show stepsOf (nl.take i ++ [(nb, _)]) m = _
          rw [stepsOf_snoc]
          simp only [stepsL, lnA, lnB]
          by_cases h1 : m = t
          · subst h1
            have h3 : ¬ m = s := fun z => hst z.symm
            simp [hst, h3]
          · by_cases h2 : m = s
            · subst h2
              have h3 : ¬ t = m := fun z => h1 z.symm
              simp [h1, h3]
            · have h3 : ¬ t = m := fun z => h1 z.symm
              have h4 : ¬ s = m := fun z => h2 z.symm
              simp [h1, h2, h3, h4]
        rw [eF]
        exact st8
      · rintro σ' G2 H2 od u n2 g2 hD2 ⟨y3, y4, y6, y7, rfl, st2⟩
        unfold lkM at st2
        rw [List.length_map, List.take_length] at st2
        have st3 := st2.updd (o := u) hAq.symm hq0as
        obtain ⟨G3, n3, hD3⟩ := st3.know (n1.pure.trans n2) h5
        walk_at "sx"
        exact q A G3 _ (n3.sub fun x hx => .inr (h5 x hx)) hA hD3
/-! walks, breadth first -/
def behind (p : Plc) (d : PyData) (f : Bool) : Plc := match d with
  | .tuple [_, _, .int x, .int y, .int z] => if f = true then (p.1 + x, p.2.1 + y, p.2.2 + z) else (p.1 - x, p.2.1 - y, p.2.2 - z)
  | _ => p
abbrev Tab := List (Str × (Way × Plc))
def lkAt (nl : List (Nat × PyData)) (i : Nat) : PyData := (gtM nl i).getD .none
def visit (nl : List (Nat × PyData)) (w : Way) (p : Plc) (tab : Tab) (st : Stp) : Tab := if st.2.2 ∈ tab.map (·.1) then tab else tab ++ [(st.2.2, (w ++ [(st.1, st.2.1)], behind p (lkAt nl st.1) st.2.1))]
def proc (nl : List (Nat × PyData)) (tab : Tab) (i : Nat) : Tab := match tab[i]? with
  | none => tab
  | some e => (stepsOf nl e.1).foldl (visit nl e.2.1 e.2.2) tab
def walkP (nl : List (Nat × PyData)) (s : Str) : Nat → Tab
  | 0 => [(s, ([], (0, 0, 0)))]
  | i + 1 => proc nl (walkP nl s i) i
def enD (e : Way × Plc) : PyData := .tuple [wayD e.1, plD e.2]
def tabM (tab : Tab) : List (Key × PyData) := tab.map fun e => ((Sum.inr e.1 : Key), enD e.2)
structure TabOk (nm : List Str) (tab : Tab) : Prop where
  nd : (tab.map (·.1)).Nodup
  sub : ∀ s ∈ tab.map (·.1), s ∈ nm
  way : ∀ e ∈ tab, e.2.1.length ≤ tab.length
section
variable {nm : List Str} {nl : List (Nat × PyData)} {tab : Tab} {w : Way} {p : Plc} {st : Stp} {s : Str}
theorem TabOk.len (t : TabOk nm tab) : tab.length ≤ nm.length := by
  have := nodup_le t.nd t.sub
  rwa [List.length_map] at this
theorem TabOk.visit (t : TabOk nm tab) (hs : st.2.2 ∈ nm) (hw : w.length ≤ tab.length) : TabOk nm (visit nl w p tab st) := by
  unfold A.visit
  split
  · exact t
  · rename_i h
    refine ⟨?_, ?_, ?_⟩
    · rw [List.map_append]
      refine List.nodup_append.mpr ⟨t.nd, by simp, fun a ha b hb => ?_⟩
      simp only [List.map_cons, List.map_nil, List.mem_cons, List.not_mem_nil, or_false] at hb
      rintro rfl
      exact h (hb ▸ ha)
    · intro x hx
      rw [List.map_append, List.mem_append] at hx
      rcases hx with hx | hx
      · exact t.sub x hx
      · simp only [List.map_cons, List.map_nil, List.mem_cons, List.not_mem_nil, or_false] at hx
        exact hx ▸ hs
    · intro e he
      rw [List.length_append]
      rcases List.mem_append.mp he with he | he
      · have := t.way e he
        simp only [List.length_cons, List.length_nil]
        omega
      · simp only [List.mem_cons, List.not_mem_nil, or_false] at he
        subst he
        simp
        omega
theorem visit_pre : ∃ more, visit nl w p tab st = tab ++ more := by
  unfold visit
  split
  · exact ⟨[], by simp⟩
  · exact ⟨_, rfl⟩
theorem fold_pre : ∀ {sts : List Stp} {tab : Tab}, ∃ more, sts.foldl (visit nl w p) tab = tab ++ more
  | [], tab => ⟨[], by simp⟩
  | x :: r, tab => by
    obtain ⟨m1, h1⟩ := visit_pre (nl := nl) (w := w) (p := p) (tab := tab) (st := x)
    obtain ⟨m2, h2⟩ := fold_pre (sts := r) (tab := visit nl w p tab x)
    exact ⟨m1 ++ m2, by rw [List.foldl_cons, h2, h1, List.append_assoc]⟩
theorem TabOk.fold : ∀ {sts : List Stp} {tab : Tab}, TabOk nm tab → (∀ x ∈ sts, x.2.2 ∈ nm) → w.length ≤ tab.length → TabOk nm (sts.foldl (A.visit nl w p) tab)
  | [], tab, t, _, _ => t
  | x :: r, tab, t, h, hw => by
    rw [List.foldl_cons]
    obtain ⟨m1, h1⟩ := visit_pre (nl := nl) (w := w) (p := p) (tab := tab) (st := x)
    exact TabOk.fold (t.visit (h x (by simp)) hw) (fun y hy => h y (by simp [hy])) (by rw [h1, List.length_append]; omega)
theorem steps_mem {n : Str} {x : Stp} (h : x ∈ stepsOf nl n) : ∃ q ∈ nl, q.1 = x.1 ∧ ((lnA q.2 = n ∧ x.2.1 = true ∧ lnB q.2 = x.2.2) ∨ (lnB q.2 = n ∧ x.2.1 = false ∧ lnA q.2 = x.2.2)) := by
  obtain ⟨q, hq, h⟩ := List.mem_flatMap.mp h
  refine ⟨q, hq, ?_⟩
  unfold stepsL at h
  rcases List.mem_append.mp h with h | h
  · split at h
    · rename_i hn
      simp only [List.mem_cons, List.not_mem_nil, or_false] at h
      subst h
      exact ⟨rfl, .inl ⟨hn, rfl, rfl⟩⟩
    · cases h
  · split at h
    · rename_i hn
      simp only [List.mem_cons, List.not_mem_nil, or_false] at h
      subst h
      exact ⟨rfl, .inr ⟨hn, rfl, rfl⟩⟩
    · cases h
theorem steps_in (h : nlOk nm nl) {n : Str} {x : Stp} (hx : x ∈ stepsOf nl n) : x.2.2 ∈ nm ∧ n ∈ nm := by
  obtain ⟨q, hq, _, hc⟩ := steps_mem hx
  obtain ⟨s, t, a, b, c, e, hs, ht, _⟩ := h.2 q hq
  rw [e] at hc
  simp only [lnA, lnB] at hc
  rcases hc with ⟨h1, _, h2⟩ | ⟨h1, _, h2⟩
  · exact ⟨h2 ▸ ht, h1 ▸ hs⟩
  · exact ⟨h2 ▸ hs, h1 ▸ ht⟩
theorem TabOk.proc (t : TabOk nm tab) (h : nlOk nm nl) {i : Nat} : TabOk nm (proc nl tab i) := by
  unfold A.proc
  split
  · exact t
  · rename_i e he
    exact t.fold (fun x hx => (steps_in h hx).1) (t.way e (List.mem_of_getElem? he))
theorem walkP_ok (h : nlOk nm nl) (hs : s ∈ nm) : ∀ i, TabOk nm (walkP nl s i)
  | 0 => ⟨by simp [walkP], by simp [walkP, hs], by simp [walkP]⟩
  | i + 1 => (walkP_ok h hs i).proc h
theorem proc_pre {i : Nat} : ∃ more, proc nl tab i = tab ++ more := by
  unfold proc
  split
  · exact ⟨[], by simp⟩
  · exact fold_pre
theorem walkP_pre {a : Nat} : ∀ k, ∃ more, walkP nl s (a + k) = walkP nl s a ++ more
  | 0 => ⟨[], by simp⟩
  | k + 1 => by
    obtain ⟨m, h⟩ := walkP_pre k
    obtain ⟨m2, h2⟩ := proc_pre (nl := nl) (tab := walkP nl s (a + k)) (i := a + k)
    exact ⟨m ++ m2, by show proc nl (walkP nl s (a + k)) (a + k) = _; rw [h2, h, List.append_assoc]⟩
theorem walkP_get {a k i : Nat} {e : Str × (Way × Plc)} (h : (walkP nl s a)[i]? = some e) : (walkP nl s (a + k))[i]? = some e := by
  obtain ⟨m, hm⟩ := walkP_pre (nl := nl) (s := s) (a := a) k
  rw [hm, List.getElem?_append_left (List.getElem?_eq_some_iff.mp h).1]
  exact h
theorem walkP_done {a : Nat} (h : (walkP nl s a).length ≤ a) : ∀ k, walkP nl s (a + k) = walkP nl s a
  | 0 => rfl
  | k + 1 => by
    have ih := walkP_done h k
    show proc nl (walkP nl s (a + k)) (a + k) = _
    unfold proc
    rw [ih, List.getElem?_eq_none (by omega)]
theorem gt_tab (t : TabOk nm tab) {i : Nat} {e : Str × (Way × Plc)} (h : tab[i]? = some e) : gtM (tabM tab) (Sum.inr e.1 : Key) = some (enD e.2) := by
  have key : ∀ (tab : Tab) (i : Nat), (tab.map (·.1)).Nodup → tab[i]? = some e → gtM (tabM tab) (Sum.inr e.1 : Key) = some (enD e.2) := by
    intro tab
    induction tab with
    | nil => intro i _ h; simp at h
    | cons x tab ih =>
      intro i hnd h
      rw [List.map_cons, List.nodup_cons] at hnd
      show gtM (((Sum.inr x.1 : Key), enD x.2) :: tabM tab) _ = _
      rw [gtM_cons]
      cases i with
      | zero =>
        simp only [List.getElem?_cons_zero, Option.some.injEq] at h
        subst h
        simp
      | succ i =>
        simp only [List.getElem?_cons_succ] at h
        have hne : x.1 ≠ e.1 := fun z => hnd.1 (z ▸ List.mem_map_of_mem (List.mem_of_getElem? h))
        rw [if_neg (by simpa using hne)]
        exact ih i hnd.2 h
  exact key tab i t.nd h
theorem tab_keys : (gtM (tabM tab) (Sum.inr s : Key)).isSome = decide (s ∈ tab.map (·.1)) := by
  rw [Bool.eq_iff_iff, decide_eq_true_eq]
  constructor
  · intro h
    refine Classical.byContradiction fun z => ?_
    rw [gtM_none.mpr (fun hm => z ?_)] at h
    · cases h
    · unfold tabM at hm
      rw [List.map_map] at hm
      obtain ⟨e, he, h2⟩ := List.mem_map.mp hm
      simp only [Function.comp_apply, Sum.inr.injEq] at h2
      exact h2 ▸ List.mem_map_of_mem he
  · intro h
    cases e : gtM (tabM tab) (Sum.inr s : Key) with
    | some _ => rfl
    | none =>
      refine absurd ?_ (gtM_none.mp e)
      obtain ⟨x, hx, rfl⟩ := List.mem_map.mp h
      unfold tabM
      rw [List.map_map]
      exact List.mem_map.mpr ⟨x, hx, rfl⟩
theorem gt_steps (hnd : nm.Nodup) (hs : s ∈ nm) : gtM (stepsM nm nl) (Sum.inr s : Key) = some (.list ((stepsOf nl s).map stD)) := by
  have key : ∀ nm : List Str, s ∈ nm → gtM (stepsM nm nl) (Sum.inr s : Key) = some (.list ((stepsOf nl s).map stD)) := by
    intro nm
    induction nm with
    | nil => intro h; cases h
    | cons x nm ih =>
      intro h
      show gtM (((Sum.inr x : Key), _) :: stepsM nm nl) _ = _
      rw [gtM_cons]
      by_cases hx : x = s
      · subst hx
        simp
      · rw [if_neg (by simpa using hx)]
        rcases List.mem_cons.mp h with z | h
        · exact absurd z.symm hx
        · exact ih h
  exact key nm hs
theorem gt_lkM {i : Nat} : gtM (lkM nl) (Sum.inl (i : Int) : Key) = gtM nl i := by
  induction nl with
  | nil => rfl
  | cons x nl ih =>
    show gtM (((Sum.inl (x.1 : Int) : Key), x.2) :: lkM nl) _ = _
    rw [gtM_cons, gtM_cons, ih]
    by_cases h : x.1 = i
    · rw [if_pos (by rw [h]), if_pos h]
    · rw [if_neg (fun z => h (by have := Sum.inl.inj z; omega)), if_neg h]
theorem gt_mem (hnd : (nl.map (·.1)).Nodup) {q : Nat × PyData} (h : q ∈ nl) : gtM nl q.1 = some q.2 := by
  induction nl with
  | nil => cases h
  | cons x nl ih =>
    rw [List.map_cons, List.nodup_cons] at hnd
    rw [gtM_cons]
    rcases List.mem_cons.mp h with rfl | h
    · rw [if_pos rfl]
    · rw [if_neg (fun z => hnd.1 (by rw [z]; exact List.mem_map_of_mem h))]
      exact ih hnd.2 h
end
def sp__place_behind (K : PySem.W.Frag) : Sp := fun vs H Q _ => ∃ G v1 v2 p s t a b c f, vs = [v1, v2, .bl f] ∧ Y.Ex G H ∧ Dp K G v1 (plD p) ∧ Dp K G v2 (.tuple [.str s, .str t, .int a, .int b, .int c]) ∧
  ∀ v G' H', Nx [] G H G' H' → Dp K G' v (plD (behind p (.tuple [.str s, .str t, .int a, .int b, .int c]) f)) → Q v H'
theorem ok__place_behind (T : Tx fa fn bx K mg) : FnOk P w K mg base CX0 1 (He.ga K "_place_behind") (fdOf K (He.ga K "_place_behind")) ["place", "link", "forward"] (sp__place_behind K) := by
  refine FunD.ok (F__place_behind T) sc__place_behind (fun vs H Q E h => ?_) (fun cdv A outer s H vs Q E hr h => ?_)
  · obtain ⟨_, _, _, _, _, _, _, _, _, _, rfl, _⟩ := h
    rfl
  · obtain ⟨G, v1, v2, p, s, t, a, b, c, f, rfl, e, d1, d2, q⟩ := h
    refine ⟨_, PSs.nox ((pss_cons (ps_asg (pv 0) (Y.pg_tupK (K := K) (n := 3) rfl rfl (pgs_cons (pg_name (i := 3) sc__place_behind.nd rfl (Or.inl rfl)) (pgs_cons (pg_name (i := 4) sc__place_behind.nd rfl (Or.inl rfl)) (pgs_cons (pg_name (i := 5) sc__place_behind.nd rfl (Or.inl rfl)) pgs_nil)))))
      (pss_cons (ps_asg (pe_slice (Y.sl_tupAK (K := K) rfl) (pv 1) (po_some pe_int) po_none) (Y.pg_tupK (K := K) (n := 3) rfl rfl (pgs_cons (pg_name (i := 6) sc__place_behind.nd rfl (Or.inl rfl)) (pgs_cons (pg_name (i := 7) sc__place_behind.nd rfl (Or.inl rfl)) (pgs_cons (pg_name (i := 8) sc__place_behind.nd rfl (Or.inl rfl)) pgs_nil)))))
      (pss_cons (ps_if (pt_val (pv 2))
      (pss_one (ps_ret (pe_tup (pa_cons (pe_op op_add (pv 3) (pv 6)) (pa_cons (pe_op op_add (pv 4) (pv 7)) (pa_cons (pe_op op_add (pv 5) (pv 8)) pa_nil))))))
      pss_nil)
      (pss_one (ps_ret (pe_tup (pa_cons (pe_op op_sub (pv 3) (pv 6)) (pa_cons (pe_op op_sub (pv 4) (pv 7)) (pa_cons (pe_op op_sub (pv 5) (pv 8)) pa_nil)))))))))), ?_⟩
    walk_at "sx"
    refine g_un3 e d1 fun u1 u2 u3 e1 e2 e3 => ?_
    cases dp_int e1
    cases dp_int e2
    cases dp_int e3
    walk_at "sx"
    refine g_slLo (k := 2) e d2 rfl fun v3 G1 H1 n1 d3 => ?_
    refine g_un3 n1.gh d3 fun w1 w2 w3 f1 f2 f3 => ?_
    cases dp_int f1
    cases dp_int f2
    cases dp_int f3
    walk_at "sx"
    refine g_bool (fun hf => ?_) (fun hf => ?_) <;> walk_at "sx"
    · refine g_tupD (K := K) n1.gh (.cons (.int _) (.cons (.int _) (.cons (.int _) .nil))) (by show 3 ≤ sizeLine; decide) fun r G2 H2 n2 dr => ?_
      refine q _ G2 H2 (n1.trans n2) ?_
      subst hf
      exact dr
    · refine g_tupD (K := K) n1.gh (.cons (.int _) (.cons (.int _) (.cons (.int _) .nil))) (by show 3 ≤ sizeLine; decide) fun r G2 H2 n2 dr => ?_
      refine q _ G2 H2 (n1.trans n2) ?_
      subst hf
      exact dr
def walksOf (nm : List Str) (nl : List (Nat × PyData)) (s : Str) : Tab := walkP nl s nm.length
def nlNd (nl : List (Nat × PyData)) : Prop := (nl.map (·.1)).Nodup
def sp__walks_from (K : PySem.W.Frag) : Sp := fun vs H Q _ => ∃ G q r nm nl s, vs = [.str s, .ref q, .ref r] ∧ Y.Ex G H ∧ DctAt K q G H (lkM nl) ∧ DctAt K r G H (stepsM nm nl) ∧ nm.Nodup ∧ nm.length ≤ 1000 ∧ nlOk nm nl ∧ nlNd nl ∧ s ∈ nm ∧
  ∀ o G' H', Nx [] G H G' H' → H o = none → DctAt K o G' H' (tabM (walksOf nm nl s)) → Q (.ref o) H'
theorem strs_drop {tab : Tab} {b : Nat} : (tab.drop b).map (fun e => PyData.str e.1) = ((tab.map (fun e => PyData.str e.1)).drop b) := by rw [List.map_drop]
def nmsD (tab : Tab) : List PyData := tab.map fun e => PyData.str e.1
theorem ok__walks_from (T : Tx fa fn bx K mg) : FnOk P w K mg base CX0 2 (He.ga K "_walks_from") (fdOf K (He.ga K "_walks_from")) ["start", "links", "steps"] (sp__walks_from K) := by
  refine FunD.ok (F__walks_from T) sc__walks_from (fun vs H Q E h => ?_) (fun cdv A outer s H vs Q E hr h => ?_)
  · obtain ⟨_, _, _, _, _, _, rfl, _⟩ := h
    rfl
  · obtain ⟨G, q0, r0, nm, nl, s, rfl, e, hq, hr0, hnd, hnl, hok, hnn, hs, q⟩ := h
    refine ⟨_, PSs.nox ((pss_cons (ps_set (i := 3) sc__walks_from.nd rfl (Or.inl rfl) (pe_disp (pps_cons (pv 0) (pe_tup (pa_cons (pe_tup pa_nil) (pa_cons (pe_glob (v := .ref (He.ga K "ORIGIN")) rfl (T.glo 8) rfl) pa_nil))) pps_nil) (by rfl) (by rfl) (fun z => by cases z) (by decide)))
      (pss_cons (ps_set (i := 4) sc__walks_from.nd rfl (Or.inl rfl) (pe_lst (pa_cons (pv 0) pa_nil)))
      (pss_cons (ps_while PassesOwn.never (Y.pt_truthK (K := K) rfl (pv 4) (by intro _; rfl))
      (pss_cons (ps_set (i := 5) sc__walks_from.nd rfl (Or.inl rfl) (pe_lst pa_nil))
      (pss_cons (ps_for PassesOwn.never rfl (Y.pi_listK (K := K) rfl (pv 4)) (pg_name (i := 6) sc__walks_from.nd rfl (Or.inl rfl))
      (pss_cons (ps_asg (pe_dget (hu_of hr) (pv 3) (pv 6) (fun _ _ => rfl)) (Y.pg_tupK (K := K) (n := 2) rfl rfl (pgs_cons (pg_name (i := 7) sc__walks_from.nd rfl (Or.inl rfl)) (pgs_cons (pg_name (i := 8) sc__walks_from.nd rfl (Or.inl rfl)) pgs_nil))))
      (pss_one (ps_for PassesOwn.never rfl (Y.pi_listK (K := K) rfl (pe_dget (hu_of hr) (pv 2) (pv 6) (fun _ _ => rfl))) (Y.pg_tupK (K := K) (n := 3) rfl rfl (pgs_cons (pg_name (i := 9) sc__walks_from.nd rfl (Or.inl rfl)) (pgs_cons (pg_name (i := 10) sc__walks_from.nd rfl (Or.inl rfl)) (pgs_cons (pg_name (i := 11) sc__walks_from.nd rfl (Or.inl rfl)) pgs_nil))))
      (pss_one (ps_if (pt_cmp (pc_dnotin (hu_of hr) (pv 11) (pv 3)))
      (pss_cons (ps_dput (hu_of hr) (pv 3) (pv 11) (pe_tup (pa_cons (pe_op (Y.op_catAK (K := K) rfl) (pv 7) (pe_tup (pa_cons (pe_tup (pa_cons (pv 9) (pa_cons (pv 10) pa_nil))) pa_nil))) (pa_cons (Y.pe_callC (ok__place_behind T) (cal__place_behind T) (hr.mono (by decide)) (by rfl) pass0 (pa_cons (pv 8) (pa_cons (pe_dget (hu_of hr) (pv 1) (pv 9) (fun _ _ => rfl)) (pa_cons (pv 10) pa_nil)))) pa_nil))) rfl)
      (pss_one (ps_expr (Y.pe_bmK (K := K) rfl PySem.F.plainAttrs_list PySem.F.slot_list_append PySem.F.type_list_append mt_append (pv 5) (pa_cons (pv 11) pa_nil)))))
      pss_nil))))))
      (pss_one (ps_set (i := 4) sc__walks_from.nd rfl (Or.inl rfl) (pv 5))))))
      (pss_one (ps_ret (pv 3))))))), ?_⟩
    have tok := walkP_ok hok hs
    have nm1 : 1 ≤ nm.length := List.length_pos_of_mem hs
    walk_at "sx"
    intro D hD0
    have n1 : Nx [] G H G (upd H D (.dK [])) := Nx.own e hD0
    have hDD : (upd H D (.dK [])) D = some (.dK []) := upd_same
    generalize upd H D (.dK []) = H1 at n1 hDD ⊢
    walk_at "sx"
    refine g_tupD (K := K) (ds := []) n1.gh .nil (Nat.zero_le _) fun t1 G2 H2 n2 d1 => ?_
    walk_at "sx"
    have dO : Dp K G2 (.ref (He.ga K "ORIGIN")) (plD (0, 0, 0)) := tupB_ok (ns := [0, 0, 0]) (tup_ORIGIN T) (by decide)
    refine g_tupD (K := K) n2.gh (.cons d1 (.cons dO .nil)) (by show 2 ≤ sizeLine; decide) fun t2 G3 H3 n3 d2 => ?_
    walk_at "sx"
    have n13 := n2.trans n3
    have hD3 := n13.fr D _ (by simp) hDD
    refine g_di1 hD3 (k := Sum.inr s) rfl ?_
    have gD3 : G3 D = none := (n1.trans n13).old D (e.free hD0) |> fun f => by
      have : G3 D = none := n13.old D (e.free hD0) ⟨_, hDD, fun _ z => nomatch z⟩
      exact this
    have n4 : Nx [D] G3 H3 G3 (upd H3 D (.dK [(Sum.inr s, .ref t2)])) := Nx.set n3.gh gD3 (by simp)
    have hDt : DctAt K D G3 (upd H3 D (.dK [(Sum.inr s, .ref t2)])) (tabM (walkP nl s 0)) := ⟨_, upd_same, gD3, rfl, .cons d2 .nil⟩
    generalize upd H3 D (.dK [(Sum.inr s, .ref t2)]) = H4 at n4 hDt ⊢
    have nA : Nx [] G H G3 H4 := ((n1.trans n13).pure.trans n4).drop hD0
    have hq4 := hq.go nA (by simp)
    have hr4 := hr0.go nA (by simp)
    have Dq : D ≠ q0 := fun z => hq.live (z ▸ hD0)
    have Dr : D ≠ r0 := fun z => hr0.live (z ▸ hD0)
    walk_at "sx"
    refine g_lstLs (K := K) (L := [.str s]) n4.gh (.cons (.str _) .nil) (by show 1 ≤ 100000; decide) fun f0 H5 n5 hf0 hLf => ?_
    walk_at "sx"
    have hD5 := hDt.go n5 (by simp)
    have nB : Nx [] G H G3 H5 := nA.trans n5
    refine g_while nm.length (fun n σ H' => ∃ G' f a y5 y6 y7 y8 y9 y10 y11, σ = [some (.str s), some (.ref q0), some (.ref r0), some (.ref D), some (.ref f), y5, y6, y7, y8, y9, y10, y11] ∧ Nx [D] G3 H5 G' H' ∧ DctAt K D G' H' (tabM (walkP nl s a)) ∧ LstAt K f G' H' ((nmsD (walkP nl s a)).drop a) ∧ n = nm.length - a ∧ a ≤ (walkP nl s a).length) ⟨G3, f0, 0, _, _, _, _, _, _, _, rfl, Nx.refl n5.gh, hD5, hLf, by omega, Nat.zero_le _⟩ ?_
    rintro n σ' H6 ⟨G6, f, a, y5, y6, y7, y8, y9, y10, y11, rfl, n6, hD6, hL6, hn, ha⟩
    obtain ⟨us, hus, gus, dus⟩ := id hL6
    have hul := dpAll_len dus
    unfold nmsD at hul
    rw [List.length_drop, List.length_map] at hul
    have tl := (tok a).len
    walk_at "sx"
    refine g_truL (.of hus) ?_
    refine g_nbool (fun hne => ?_) (fun hem => ?_)
    rotate_left
    · walk_at "sx"
      have hz : us.length = 0 := by
        cases us with
        | nil => rfl
        | cons _ _ => cases hem
      have hea : (walkP nl s a).length = a := by omega
      have : walksOf nm nl s = walkP nl s a := by
        unfold walksOf
        have := walkP_done (nl := nl) (s := s) (a := a) (by omega) (nm.length - a)
        rw [show a + (nm.length - a) = nm.length by omega] at this
        exact this
      refine q D G6 H6 ((nB.pure.trans n6).drop hD0) hD0 ?_
      rw [this]
      exact hD6
    have hlt : a < (walkP nl s a).length := by
      cases us with
      | nil => cases hne
      | cons _ _ => simp at hul; omega
    refine g_whN ?_
    walk_at "sx"
    refine g_lstLs (K := K) (L := []) n6.gh .nil (Nat.zero_le _) fun fu H7 n7 hfu hLfu => ?_
    walk_at "sx"
    have hD7 := hD6.go n7 (by simp)
    have hL7 := hL6.go n7 (by simp)
    have fuD : fu ≠ D := fun z => hD6.live (z ▸ hfu)
    have fuf : fu ≠ f := fun z => hL6.live (z ▸ hfu)
    have fD : f ≠ D := fun z => by
      obtain ⟨kvs, h1, _⟩ := hD6
      rw [z, h1] at hus
      cases hus
    generalize hb : (walkP nl s a).length = b at hlt tl hul
    refine g_walkLs hL7 fun S => ?_
    refine g_forS (K := K) (M := [D, fu]) (S [D, fu] (by simp [fD, fuf.symm])) n7.gh (fun j σ G' H' => ∃ y6 y7 y8 y9 y10 y11, σ = [some (.str s), some (.ref q0), some (.ref r0), some (.ref D), some (.ref f), some (.ref fu), y6, y7, y8, y9, y10, y11] ∧ DctAt K D G' H' (tabM (walkP nl s (a + j))) ∧ LstAt K fu G' H' ((nmsD (walkP nl s (a + j))).drop b)) ⟨_, _, _, _, _, _, rfl, hD7, ?_⟩ ?_ ?_
    · rw [Nat.add_zero, List.drop_eq_nil_of_le (by unfold nmsD; rw [List.length_map]; omega)]
      exact hLfu
    · rintro j d v σ' G8 H8 G9 H9 hj n8 ⟨z6, z7, z8, z9, z10, z11, rfl, hD8, hL8⟩ n9 dv
      obtain ⟨e0, he0, rfl⟩ : ∃ e0 : Str × (Way × Plc), (walkP nl s a)[a + j]? = some e0 ∧ d = .str e0.1 := by
        unfold nmsD at hj
        rw [List.getElem?_drop, List.getElem?_map] at hj
        obtain ⟨e0, h1, h2⟩ := Option.map_eq_some_iff.mp hj
        exact ⟨e0, h1, h2.symm⟩
      obtain ⟨nx, wx, px⟩ := e0
      cases dp_str dv
      have hget := walkP_get (k := j) he0
      have hD9 := hD8.go n9 (by simp)
      have hL9 := hL8.go n9 (by simp)
      have n79 : Nx [D, fu] G6 H7 G9 H9 := n8.trans n9.pure
      have h6q := (hq4.go n5 (by simp)).go n6 (by simp [Dq.symm])
      have h6r := (hr4.go n5 (by simp)).go n6 (by simp [Dr.symm])
      have hq0fu : q0 ≠ fu := fun z => h6q.live (z ▸ hfu)
      have hr0fu : r0 ≠ fu := fun z => h6r.live (z ▸ hfu)
      have hq9 : DctAt K q0 G9 H9 (lkM nl) := (h6q.go n7 (by simp)).go n79 (by simp [Dq.symm, hq0fu])
      have hr9 : DctAt K r0 G9 H9 (stepsM nm nl) := (h6r.go n7 (by simp)).go n79 (by simp [Dr.symm, hr0fu])
      have hxnm : nx ∈ nm := (tok a).sub nx (List.mem_map_of_mem (List.mem_of_getElem? he0))
      walk_at "sx"
      refine g_dcGet hD9 (k := Sum.inr nx) rfl (gt_tab (tok (a + j)) hget) fun v1 dv1 => ?_
      refine g_un2 n9.gh dv1 fun v2 v3 dw dp => ?_
      walk_at "sx"
      refine g_dcGet hr9 (k := Sum.inr nx) rfl (gt_steps hnd hxnm) fun v4 dv4 => ?_
      refine g_walkL n9.gh dv4 fun b4 hb4 S2 => ?_
      have hwl : wx.length ≤ (walkP nl s (a + j)).length := (tok (a + j)).way _ (List.mem_of_getElem? hget)
      refine g_forS (K := K) (M := [D, fu]) (S2 [D, fu]) n9.gh (fun k σ G' H' => ∃ y9 y10 y11, σ = [some (.str s), some (.ref q0), some (.ref r0), some (.ref D), some (.ref f), some (.ref fu), some (.str nx), some v2, some v3, y9, y10, y11] ∧ DctAt K D G' H' (tabM (((stepsOf nl nx).take k).foldl (visit nl wx px) (walkP nl s (a + j)))) ∧ LstAt K fu G' H' ((nmsD (((stepsOf nl nx).take k).foldl (visit nl wx px) (walkP nl s (a + j)))).drop b)) ⟨_, _, _, rfl, hD9, hL9⟩ ?_ ?_
      · rintro k d w σ' G10 H10 G11 H11 hk n10 ⟨w9, w10, w11, rfl, hD10, hL10⟩ n11 dw2
        rw [List.getElem?_map] at hk
        obtain ⟨⟨i1, f1, o1⟩, hst, rfl⟩ := Option.map_eq_some_iff.mp hk
        have hsm := List.mem_of_getElem? hst
        obtain ⟨ho1, _⟩ := steps_in hok hsm
        obtain ⟨lq, hlq, hl1, hl2⟩ := steps_mem hsm
        simp only at hl1
        obtain ⟨sa, sb, da, db, dc, hld, _⟩ := hok.2 lq hlq
        have hlk : gtM nl i1 = some (.tuple [.str sa, .str sb, .int da, .int db, .int dc]) := by
          rw [← hl1, ← hld]
          exact gt_mem hnn hlq
        have hlat : lkAt nl i1 = .tuple [.str sa, .str sb, .int da, .int db, .int dc] := by unfold lkAt; rw [hlk]; rfl
        have tk : (stepsOf nl nx).take (k + 1) = (stepsOf nl nx).take k ++ [(i1, f1, o1)] := by rw [List.take_add_one, hst]; rfl
        have hD11 := hD10.go n11 (by simp)
        have hL11 := hL10.go n11 (by simp)
        have n911 : Nx [D, fu] G9 H9 G11 H11 := n10.trans n11.pure
        have hq11 := hq9.go n911 (by simp [Dq.symm, hq0fu])
        have tokk : TabOk nm (((stepsOf nl nx).take k).foldl (visit nl wx px) (walkP nl s (a + j))) := (tok (a + j)).fold (fun x hx => (steps_in hok (List.mem_of_mem_take hx)).1) hwl
        have tokn : TabOk nm (((stepsOf nl nx).take (k + 1)).foldl (visit nl wx px) (walkP nl s (a + j))) := (tok (a + j)).fold (fun x hx => (steps_in hok (List.mem_of_mem_take hx)).1) hwl
        have pre : ∃ more, ((stepsOf nl nx).take k).foldl (visit nl wx px) (walkP nl s (a + j)) = walkP nl s (a + j) ++ more := fold_pre
        rw [tk, List.foldl_append, List.foldl_cons, List.foldl_nil] at tokn ⊢
        generalize ((stepsOf nl nx).take k).foldl (visit nl wx px) (walkP nl s (a + j)) = tab at hD11 hL11 tokk tokn pre hD10 hL10 ⊢
        refine g_un3 n11.gh dw2 fun x1 x2 x3 e1 e2 e3 => ?_
        cases dp_int e1
        cases dp_bl e2
        cases dp_str e3
        walk_at "sx"
        refine g_dcNi hD11 (k := Sum.inr o1) rfl ?_
        rw [tab_keys]
        walk_at "sx"
        refine g_ndec (fun hno => ?_) (fun hyes => ?_) <;> walk_at "sx"
        rotate_left
        · refine ⟨G11, n911, _, _, _, rfl, ?_, ?_⟩
          · unfold visit
            rw [if_pos hyes]
            exact hD11
          · unfold visit
            rw [if_pos hyes]
            exact hL11
        have dway : Dp K G11 v2 (.tuple (wx.map waD)) := dp_mono n911.gg dw
        have dplc : Dp K G11 v3 (plD px) := dp_mono n911.gg dp
        refine g_tupD (K := K) (ds := [.int (i1 : Int), .bool f1]) n11.gh (.cons (.int _) (.cons (.bl _) .nil)) (by show 2 ≤ sizeLine; decide) fun t3 G12 H12 n12 d12 => ?_
        walk_at "sx"
        refine g_tupD (K := K) (ds := [waD (i1, f1)]) n12.gh (.cons d12 .nil) (by show 1 ≤ sizeLine; decide) fun t4 G13 H13 n13' d13 => ?_
        walk_at "sx"
        have n1113 := n12.trans n13'
        have twl := (tok (a + j)).len
        refine g_catA n13'.gh (dp_mono n1113.gg dway) d13 (by rw [List.length_map]; exact szle (by simp; omega)) fun t5 G14 H14 n14 d14 => ?_
        walk_at "sx"
        have n1114 := n1113.trans n14
        refine g_dcGet (hq11.go n1114 (by simp)) (k := Sum.inl (i1 : Int)) rfl (by rw [gt_lkM]; exact hlk) fun v5 d5 => ?_
        walk_at "sx"
        refine ⟨G14, v3, v5, px, sa, sb, da, db, dc, f1, rfl, n14.gh, dp_mono n1114.gg dplc, d5, fun v6 G15 H15 n15 d6 => ?_⟩
        walk_at "sx"
        refine g_tupD (K := K) n15.gh (.cons (dp_mono n15.gg d14) (.cons d6 .nil)) (by show 2 ≤ sizeLine; decide) fun t6 G16 H16 n16 d16 => ?_
        walk_at "sx"
        have n1116 := (n1114.trans n15).trans n16
        have hl16 := tokk.len
        refine g_dcPut n16.gh (hD11.go n1116 (by simp)) (k := Sum.inr o1) rfl d16 (by unfold tabM; rw [List.length_map]; omega) fun H17 n17 hD17 => ?_
        walk_at "sx"
        have hL17 := (hL11.go n1116 (by simp)).go n17 (by simp [fuD])
        refine g_tyLs hL17 ?_
        walk_at "sx"
        refine g_appLs n17.gh hL17 (.str _) (by unfold nmsD; rw [List.length_drop, List.length_map]; omega) fun H18 n18 hL18 => ?_
        have ev : visit nl wx px tab (i1, f1, o1) = tab ++ [(o1, (wx ++ [(i1, f1)], behind px (lkAt nl i1) f1))] := if_neg hno
        have nn : Nx [D, fu] G9 H9 G16 H18 := ((n911.trans n1116.pure).trans (n17.mono fun w hw => by simp at hw; simp [hw])).trans (n18.mono fun w hw => by simp at hw; simp [hw])
        rw [ev]
        refine ⟨G16, nn, _, _, _, rfl, ?_, ?_⟩
        · rw [ptM_new (fun hm => by
            have := tab_keys (tab := tab) (s := o1)
            rw [decide_eq_false hno] at this
            cases hgt : gtM (tabM tab) (Sum.inr o1 : Key) with
            | none => exact gtM_none.mp hgt hm
            | some _ => rw [hgt] at this; cases this)] at hD17
          have e2 : tabM (tab ++ [(o1, (wx ++ [(i1, f1)], behind px (lkAt nl i1) f1))]) = tabM tab ++ [(Sum.inr o1, .tuple [.tuple (wx.map waD ++ [waD (i1, f1)]), plD (behind px (.tuple [.str sa, .str sb, .int da, .int db, .int dc]) f1)])] := by simp [tabM, enD, wayD, hlat]
          rw [e2]
          exact hD17.go n18 (by simp [fuD.symm])
        · have hbl : b ≤ (nmsD tab).length := by
            obtain ⟨more, hm⟩ := pre
            obtain ⟨m2, h2⟩ := walkP_pre (nl := nl) (s := s) (a := a) j
            unfold nmsD
            rw [List.length_map, hm, h2, List.length_append, List.length_append]
            omega
          have e1 : nmsD (tab ++ [(o1, (wx ++ [(i1, f1)], behind px (lkAt nl i1) f1))]) = nmsD tab ++ [.str o1] := by simp [nmsD]
          rw [e1, List.drop_append_of_le_length hbl]
          exact hL18
      · rintro σ' G10 H10 n10 ⟨w9, w10, w11, rfl, hD10, hL10⟩
        rw [List.length_map, List.take_length] at hD10 hL10
        have ep : walkP nl s (a + (j + 1)) = (stepsOf nl nx).foldl (visit nl wx px) (walkP nl s (a + j)) := by
          show proc nl (walkP nl s (a + j)) (a + j) = _
          unfold proc
          rw [hget]
        rw [← ep] at hD10 hL10
        exact ⟨G10, n79.trans n10, _, _, _, _, _, _, rfl, hD10, hL10⟩
    · rintro σ' G8 H8 n8 ⟨z6, z7, z8, z9, z10, z11, rfl, hD8, hL8⟩
      have el : a + ((nmsD (walkP nl s a)).drop a).length = b := by
        unfold nmsD
        rw [List.length_drop, List.length_map]
        omega
      rw [el] at hD8 hL8
      walk_at "sx"
      have tlb := (tok b).len
      have hbl : b ≤ (walkP nl s b).length := by
        obtain ⟨m2, h2⟩ := walkP_pre (nl := nl) (s := s) (a := a) (b - a)
        rw [show a + (b - a) = b by omega] at h2
        rw [h2, List.length_append]
        omega
      refine ⟨nm.length - b, by omega, G8, fu, b, _, _, _, _, _, _, _, rfl, ?_, hD8, hL8, rfl, hbl⟩
      have nn : Nx [D, fu] G3 H5 G8 H8 := (n6.mono fun w hw => by simp at hw; simp [hw]).trans (n7.pure.trans n8)
      exact nn.sub fun x hx => by
        simp only [List.mem_cons, List.not_mem_nil, or_false] at hx
        rcases hx with h | h
        · exact .inl (by simp [h])
        · exact .inr (h ▸ n6.fresh hfu)
inductive Pth (nl : List (Nat × PyData)) : Nat → Str → Str → Prop
  | zero (u : Str) : Pth nl 0 u u
  | succ {k : Nat} {u v : Str} {x : Stp} (h : Pth nl k u v) (hx : x ∈ stepsOf nl v) : Pth nl (k + 1) u x.2.2
def Rch (nl : List (Nat × PyData)) (u v : Str) : Prop := ∃ k, Pth nl k u v
section
variable {nm : List Str} {nl : List (Nat × PyData)} {tab : Tab} {s u v : Str}
/-- a link's two steps -/
theorem step_fwd {q : Nat × PyData} (h : q ∈ nl) : (q.1, true, lnB q.2) ∈ stepsOf nl (lnA q.2) := List.mem_flatMap.mpr ⟨q, h, by unfold stepsL; rw [if_pos rfl]; simp⟩
theorem step_bwd {q : Nat × PyData} (h : q ∈ nl) : (q.1, false, lnA q.2) ∈ stepsOf nl (lnB q.2) := List.mem_flatMap.mpr ⟨q, h, by unfold stepsL; rw [if_pos (rfl : lnB q.2 = lnB q.2)]; simp⟩
theorem step_back {x : Stp} (h : x ∈ stepsOf nl u) : ∃ y ∈ stepsOf nl x.2.2, y.2.2 = u := by
  obtain ⟨q, hq, _, ⟨h1, _, h2⟩ | ⟨h1, _, h2⟩⟩ := steps_mem h
  · exact ⟨_, h2 ▸ step_bwd hq, h1⟩
  · exact ⟨_, h2 ▸ step_fwd hq, h1⟩
theorem Pth.trans {k : Nat} (h : Pth nl k u v) : ∀ {m : Nat} {w : Str}, Pth nl m v w → Pth nl (k + m) u w
  | _, _, .zero _ => h
  | _, _, .succ h2 hx => .succ (h.trans h2) hx
theorem Pth.one {x : Stp} (h : x ∈ stepsOf nl u) : Pth nl 1 u x.2.2 := .succ (.zero u) h
theorem Pth.symm : ∀ {k : Nat} {u v : Str}, Pth nl k u v → Pth nl k v u
  | _, _, _, .zero u => .zero u
  | _, _, _, @Pth.succ _ k u v x h hx => by
    obtain ⟨y, hy, e⟩ := step_back hx
    have := (e ▸ Pth.one hy).trans h.symm
    rwa [Nat.add_comm] at this
theorem Rch.refl (u : Str) : Rch nl u u := ⟨0, .zero u⟩
theorem Rch.symm (h : Rch nl u v) : Rch nl v u := let ⟨k, h⟩ := h; ⟨k, h.symm⟩
theorem Rch.trans {w : Str} (h : Rch nl u v) (h2 : Rch nl v w) : Rch nl u w := let ⟨k, h⟩ := h; let ⟨m, h2⟩ := h2; ⟨k + m, h.trans h2⟩
theorem Rch.mem (ok : nlOk nm nl) (h : Rch nl u v) (hu : u ∈ nm) : v ∈ nm := by
  obtain ⟨k, h⟩ := h
  cases h with
  | zero => exact hu
  | succ _ hx => exact (steps_in ok hx).1
/-- the walks are paths -/
theorem visit_pth {w : Way} {p : Plc} {x : Stp} (ht : ∀ e ∈ tab, Pth nl e.2.1.length s e.1) (hw : Pth nl w.length s u) (hx : x ∈ stepsOf nl u) : ∀ e ∈ visit nl w p tab x, Pth nl e.2.1.length s e.1 := by
  unfold visit
  split
  · exact ht
  · intro e he
    rcases List.mem_append.mp he with he | he
    · exact ht e he
    · simp only [List.mem_cons, List.not_mem_nil, or_false] at he
      subst he
      show Pth nl (w ++ [(x.1, x.2.1)]).length s x.2.2
      rw [List.length_append]
      exact .succ hw hx
theorem fold_pth {w : Way} {p : Plc} : ∀ {sts : List Stp} {tab : Tab}, (∀ e ∈ tab, Pth nl e.2.1.length s e.1) → Pth nl w.length s u → (∀ x ∈ sts, x ∈ stepsOf nl u) → ∀ e ∈ sts.foldl (visit nl w p) tab, Pth nl e.2.1.length s e.1
  | [], tab, ht, _, _ => ht
  | x :: r, tab, ht, hw, h => by
    rw [List.foldl_cons]
    exact fold_pth (visit_pth ht hw (h x (by simp))) hw fun y hy => h y (by simp [hy])
theorem walkP_pth : ∀ i, ∀ e ∈ walkP nl s i, Pth nl e.2.1.length s e.1
  | 0 => by
    intro e he
    simp only [walkP, List.mem_cons, List.not_mem_nil, or_false] at he
    subst he
    exact .zero s
  | i + 1 => by
    have ih := walkP_pth i
    show ∀ e ∈ proc nl (walkP nl s i) i, _
    unfold proc
    split
    · exact ih
    · rename_i e0 he0
      exact fold_pth ih (ih e0 (List.mem_of_getElem? he0)) fun _ h => h
theorem visit_has {w : Way} {p : Plc} {x : Stp} : x.2.2 ∈ (visit nl w p tab x).map (·.1) := by
  unfold visit
  split
  · assumption
  · simp
theorem fold_has {w : Way} {p : Plc} : ∀ {sts : List Stp} {tab : Tab}, ∀ x ∈ sts, x.2.2 ∈ (sts.foldl (visit nl w p) tab).map (·.1)
  | y :: r, tab, x, hx => by
    rw [List.foldl_cons]
    rcases List.mem_cons.mp hx with rfl | hx
    · obtain ⟨m, hm⟩ := fold_pre (nl := nl) (w := w) (p := p) (sts := r) (tab := visit nl w p tab x)
      rw [hm, List.map_append]
      exact List.mem_append_left _ visit_has
    · exact fold_has x hx
def keysOf (nm : List Str) (nl : List (Nat × PyData)) (s : Str) : List Str := (walksOf nm nl s).map (·.1)
theorem keys_start (hs : s ∈ nm) : s ∈ keysOf nm nl s := by
  obtain ⟨m, hm⟩ := walkP_pre (nl := nl) (s := s) (a := 0) nm.length
  rw [Nat.zero_add] at hm
  unfold keysOf walksOf
  rw [hm, List.map_append]
  exact List.mem_append_left _ (by simp [walkP])
theorem keys_closed (ok : nlOk nm nl) (hs : s ∈ nm) (h : u ∈ keysOf nm nl s) {x : Stp} (hx : x ∈ stepsOf nl u) : x.2.2 ∈ keysOf nm nl s := by
  unfold keysOf walksOf at h ⊢
  obtain ⟨e, he, rfl⟩ := List.mem_map.mp h
  obtain ⟨j, hj, rfl⟩ := List.getElem_of_mem he
  have hjn : j < nm.length := by
    have := (walkP_ok ok hs nm.length).len
    omega
  -- the entry stands at index j of the walk at its own turn
  have hlen : j < (walkP nl s j).length := by
    refine Classical.byContradiction fun z => ?_
    have hd := walkP_done (nl := nl) (s := s) (a := j) (by omega) (nm.length - j)
    rw [show j + (nm.length - j) = nm.length by omega] at hd
    rw [hd] at hj
    omega
  have e1 : (walkP nl s j)[j]? = some (walkP nl s j)[j] := by simp [hlen]
  have e2 := walkP_get (k := nm.length - j) e1
  rw [show j + (nm.length - j) = nm.length by omega, List.getElem?_eq_getElem hj] at e2
  have e3 := Option.some.inj e2
  have hp : walkP nl s (j + 1) = (stepsOf nl (walkP nl s j)[j].1).foldl (visit nl (walkP nl s j)[j].2.1 (walkP nl s j)[j].2.2) (walkP nl s j) := by
    show proc nl (walkP nl s j) j = _
    unfold proc
    rw [e1]
  rw [e3] at hx
  have h1 := fold_has (nl := nl) (w := (walkP nl s j)[j].2.1) (p := (walkP nl s j)[j].2.2) (tab := walkP nl s j) x hx
  rw [← hp] at h1
  obtain ⟨m, hm⟩ := walkP_pre (nl := nl) (s := s) (a := j + 1) (nm.length - (j + 1))
  rw [show j + 1 + (nm.length - (j + 1)) = nm.length by omega] at hm
  rw [hm, List.map_append]
  exact List.mem_append_left _ h1
theorem keys_rch (ok : nlOk nm nl) (hs : s ∈ nm) : v ∈ keysOf nm nl s ↔ Rch nl s v := by
  constructor
  · intro h
    obtain ⟨e, he, rfl⟩ := List.mem_map.mp h
    exact ⟨_, walkP_pth _ e he⟩
  · rintro ⟨k, h⟩
    induction h with
    | zero => exact keys_start hs
    | succ _ hx ih => exact keys_closed ok hs (ih hs) hx
/-- any two that are joined are joined by a path of at most as many steps as there are names -/
theorem short_pth (ok : nlOk nm nl) (hs : s ∈ nm) (h : Rch nl s v) : ∃ k, k ≤ nm.length ∧ Pth nl k s v := by
  obtain ⟨e, he, rfl⟩ := List.mem_map.mp ((keys_rch ok hs).mpr h)
  have t := walkP_ok ok hs nm.length
  exact ⟨_, Nat.le_trans (t.way e he) t.len, walkP_pth _ e he⟩
end
/-! the groups, in their order -/
def grp (nm : List Str) (nl : List (Nat × PyData)) (s : Str) : List Str := nm.filter fun o => decide (o ∈ keysOf nm nl s)
def groupsFrom (nm : List Str) (nl : List (Nat × PyData)) : List Str → List Str → List (List Str)
  | [], _ => []
  | n :: r, pl => if n ∈ pl then groupsFrom nm nl r pl else grp nm nl n :: groupsFrom nm nl r (pl ++ keysOf nm nl n)
def groupsOf (nm : List Str) (nl : List (Nat × PyData)) : List (List Str) := groupsFrom nm nl nm []
def gsD (gs : List (List Str)) : List PyData := gs.map fun g => .list (g.map .str)
theorem g_same' {α : Type} {x : α} {A B : Prop} {d : Decidable (x = x)} {i : Decidable ((!decide (x = x)) = true)} (h : B) : @ite Prop ((!decide (x = x)) = true) i A B := g_ndec (fun z => absurd rfl z) fun _ => h
theorem depth_rd' {d : PyData} (h : isRd d = true) : d.depth ≤ 0 := by cases d <;> first | (simp [PyData.depth]; done) | cases h
theorem depth_view {d : PyData} (h : viewOk d = true) : d.depth ≤ 3 := by
  obtain ⟨s, r, rfl, hs, hr⟩ := view_inv h
  cases r with
  | tuple rs =>
    refine depth_tup fun d hd => ?_
    simp only [List.mem_cons, List.not_mem_nil, or_false] at hd
    rcases hd with hd | hd <;> subst hd
    · simp [PyData.depth]
    · refine depth_tup fun d hd => ?_
      obtain ⟨cs, rfl, _, _, h3⟩ := rowOk_tup ((rows_inv hr).2.2.1 d hd)
      exact depth_tup fun d hd => depth_rd' (List.all_eq_true.mp h3 d hd)
  | _ => cases hr
theorem depth_within {d : PyData} {lo hi : Int} (h : within d lo hi = true) : d.depth = 0 := by cases d <;> first | (simp [PyData.depth]; done) | cases h
theorem depth_link {d : PyData} (h : linkOk d = true) : d.depth ≤ 1 := by
  obtain ⟨a, b, x, y, z, rfl, _, _⟩ := link_inv h
  simp only [linkOk, Bool.and_eq_true] at h
  refine depth_tup (n := 0) fun d hd => ?_
  simp only [List.mem_cons, List.not_mem_nil, or_false] at hd
  rcases hd with hd | hd | hd | hd | hd <;> subst hd
  · simp [PyData.depth]
  · simp [PyData.depth]
  · rw [depth_within h.1.1.2]; exact Nat.le_refl 0
  · rw [depth_within h.1.2]; exact Nat.le_refl 0
  · rw [depth_within h.2]; exact Nat.le_refl 0
theorem shaped_views {ws ls : List PyData} (ok : AOk ws ls) : SeqAt.shaped (.list ws) = true :=
  shaped_fit (fit_list (by have := ok.vl; omega) fun d hd => (ok.vo d hd).2) (Nat.le_trans (depth_lst (n := 3) fun d hd => depth_view (ok.vo d hd).1) (by decide))
theorem shaped_links {ws ls : List PyData} (ok : AOk ws ls) : SeqAt.shaped (.list ls) = true :=
  shaped_fit (fit_list (by have := ok.ll; omega) fun d hd => (ok.lo d hd).2) (Nat.le_trans (depth_lst (n := 1) fun d hd => depth_link (ok.lo d hd).1) (by decide))
theorem name_fit {v : PyData} (h : viewOk v = true) : nameOk (nmOf v) = true := by
  obtain ⟨s, r, rfl, hs, _⟩ := view_inv h
  exact hs
theorem shaped_names {ws ls : List PyData} (ok : AOk ws ls) : SeqAt.shaped (.list (namesOf ws)) = true := by
  have hm : ∀ d ∈ namesOf ws, ∃ v ∈ ws, d = .str (nmOf v) := fun d hd => by
    obtain ⟨v, hv, rfl⟩ := List.mem_map.mp hd
    exact ⟨v, hv, rfl⟩
  refine shaped_fit (fit_list (by have := ok.vl; simp [namesOf]; omega) fun d hd => ?_) (Nat.le_trans (depth_lst (n := 0) fun d hd => ?_) (by decide))
  · obtain ⟨v, hv, rfl⟩ := hm d hd
    exact fit_name (name_fit (ok.vo v hv).1)
  · obtain ⟨v, hv, rfl⟩ := hm d hd
    simp [PyData.depth]
/-! closed ways and rings -/
def backW (w : Way) : Way := w.reverse.map fun x => (x.1, !x.2)
def wyAt (tab : Tab) (n : Str) : Way × Plc := (gtM tab n).getD ([], (0, 0, 0))
def ringAt (tab : Tab) (q : Nat × PyData) : Option Way := if behind (wyAt tab (lnA q.2)).2 q.2 true ≠ (wyAt tab (lnB q.2)).2 then some ((wyAt tab (lnA q.2)).1 ++ [(q.1, true)] ++ backW (wyAt tab (lnB q.2)).1) else none
def ringsFrom (nm : List Str) (nl : List (Nat × PyData)) (s : Str) : List Way := nl.filterMap (ringAt (walksOf nm nl s))
def ringsAll (nm : List Str) (nl : List (Nat × PyData)) : List Way := nm.flatMap (ringsFrom nm nl)
theorem gtM_tab {n : Str} : ∀ {tab : Tab}, gtM (tabM tab) (Sum.inr n : Key) = (gtM tab n).map enD
  | [] => rfl
  | x :: tab => by
    show gtM (((Sum.inr x.1 : Key), enD x.2) :: tabM tab) _ = _
    rw [gtM_cons, gtM_cons, gtM_tab]
    by_cases h : x.1 = n
    · rw [if_pos (congrArg _ h), if_pos h]; rfl
    · rw [if_neg (fun z => h (Sum.inr.inj z)), if_neg h]
theorem wy_get {n : Str} {tab : Tab} (h : n ∈ tab.map (·.1)) : gtM tab n = some (wyAt tab n) ∧ ∃ e ∈ tab, e = (n, wyAt tab n) := by
  obtain ⟨e, he⟩ : ∃ e, gtM tab n = some e := by
    cases hg : gtM tab n with
    | some e => exact ⟨e, rfl⟩
    | none => exact absurd h (gtM_none.mp hg)
  have e2 : wyAt tab n = e := by unfold wyAt; rw [he]; rfl
  refine ⟨by rw [e2]; exact he, ?_⟩
  unfold gtM at he
  obtain ⟨x, hx, rfl⟩ := Option.map_eq_some_iff.mp he
  have h1 := List.find?_some hx
  rw [decide_eq_true_eq] at h1
  exact ⟨x, List.mem_of_find?_eq_some hx, by rw [e2, ← h1]⟩
theorem backW_len (w : Way) : (backW w).length = w.length := by unfold backW; simp
theorem way_len {nm : List Str} {nl : List (Nat × PyData)} {s n : Str} (ok : nlOk nm nl) (hs : s ∈ nm) (h : n ∈ keysOf nm nl s) : (wyAt (walksOf nm nl s) n).1.length ≤ nm.length := by
  obtain ⟨_, e, he, rfl⟩ := wy_get h
  have t := walkP_ok ok hs nm.length
  exact Nat.le_trans (t.way _ he) t.len
theorem ring_len {nm : List Str} {nl : List (Nat × PyData)} {s : Str} (ok : nlOk nm nl) (hs : s ∈ nm) (h : ∀ q ∈ nl, lnA q.2 ∈ keysOf nm nl s ∧ lnB q.2 ∈ keysOf nm nl s) : ∀ w ∈ ringsFrom nm nl s, w.length ≤ 2 * nm.length + 1 := by
  intro w hw
  obtain ⟨q, hq, e⟩ := List.mem_filterMap.mp hw
  unfold ringAt at e
  split at e
  · cases e
    have h1 := way_len ok hs (h q hq).1
    have h2 := way_len ok hs (h q hq).2
    simp [backW_len]
    omega
  · cases e
theorem eqv_pl {p q : Plc} : PyData.eqv (plD p) (plD q) = decide (p = q) := by
  obtain ⟨a, b, c⟩ := p
  obtain ⟨x, y, z⟩ := q
  unfold plD
  rw [Bool.eq_iff_iff]
  simp [PyData.eqv, PyData.eqvAll, Prod.mk.injEq]
theorem shaped_pl {p : Plc} : SeqAt.shaped (plD p) = true := by
  refine shaped_fit (fit_tuple (by show 3 ≤ 100000; decide) fun d hd => ?_) ?_
  · simp only [List.mem_cons, List.not_mem_nil, or_false] at hd
    rcases hd with rfl | rfl | rfl <;> rfl
  · exact Nat.le_trans (depth_tup (n := 0) fun d hd => by
      simp only [List.mem_cons, List.not_mem_nil, or_false] at hd
      rcases hd with rfl | rfl | rfl <;> simp [PyData.depth]) (by decide)
/-! the first of the shortest -/
def better (b : Option Way) (w : Way) : Option Way := match b with
  | none => some w
  | some x => if w.length < x.length then some w else some x
def firstMin (l : List Way) : Option Way := l.foldl better none
def IsMin (l : List Way) (i : Nat) (b : Way) : Prop := l[i]? = some b ∧ ∀ j w, l[j]? = some w → b.length ≤ w.length ∧ (j < i → b.length < w.length)
theorem IsMin.uniq {l : List Way} {i j : Nat} {b c : Way} (h1 : IsMin l i b) (h2 : IsMin l j c) : b = c := by
  have a1 := h1.2 j c h2.1
  have a2 := h2.2 i b h1.1
  have : i = j := by
    rcases Nat.lt_trichotomy i j with h | h | h
    · have := a2.2 h; omega
    · exact h
    · have := a1.2 h; omega
  subst this
  exact Option.some.inj (h1.1.symm.trans h2.1)
theorem firstMin_snoc {l : List Way} {w : Way} : firstMin (l ++ [w]) = better (firstMin l) w := by unfold firstMin; rw [List.foldl_append]; rfl
theorem firstMin_is : ∀ (n : Nat) (l : List Way), l.length = n → (l = [] ∧ firstMin l = none) ∨ ∃ i b, firstMin l = some b ∧ IsMin l i b
  | 0, l, h => .inl ⟨List.length_eq_zero_iff.mp h, by rw [List.length_eq_zero_iff.mp h]; rfl⟩
  | n + 1, l, h => by
    obtain ⟨m, w, rfl⟩ : ∃ m w, l = m ++ [w] := by
      cases hl : l.reverse with
      | nil => rw [List.reverse_eq_nil_iff.mp hl] at h; cases h
      | cons w r => exact ⟨r.reverse, w, by have := congrArg List.reverse hl; simpa using this⟩
    rw [firstMin_snoc]
    have hm : m.length = n := by simpa using h
    have g1 : (m ++ [w])[m.length]? = some w := by simp
    have split : ∀ j x, (m ++ [w])[j]? = some x → (m[j]? = some x ∧ j < m.length) ∨ (j = m.length ∧ x = w) := fun j x hx => by
      by_cases hj : j < m.length
      · rw [List.getElem?_append_left hj] at hx; exact .inl ⟨hx, hj⟩
      · have hjl := (List.getElem?_eq_some_iff.mp hx).1
        have : j = m.length := by simp at hjl; omega
        subst this
        rw [g1] at hx
        exact .inr ⟨rfl, (Option.some.inj hx).symm⟩
    rcases firstMin_is n m hm with ⟨e, e2⟩ | ⟨i, b, e, h1, h2⟩
    · refine .inr ⟨0, w, by rw [e2]; rfl, by rw [e]; rfl, fun j x hx => ?_⟩
      rcases split j x hx with ⟨a, _⟩ | ⟨a, rfl⟩
      · rw [e] at a; simp at a
      · exact ⟨Nat.le_refl _, fun z => by omega⟩
    · rw [e]
      have il := (List.getElem?_eq_some_iff.mp h1).1
      unfold better
      by_cases hw : w.length < b.length
      · simp only [if_pos hw]
        refine .inr ⟨m.length, w, rfl, g1, fun j x hx => ?_⟩
        rcases split j x hx with ⟨a, aj⟩ | ⟨rfl, rfl⟩
        · have := (h2 j x a).1
          exact ⟨by omega, fun _ => by omega⟩
        · exact ⟨Nat.le_refl _, fun z => by omega⟩
      · simp only [if_neg hw]
        refine .inr ⟨i, b, rfl, by rw [List.getElem?_append_left il]; exact h1, fun j x hx => ?_⟩
        rcases split j x hx with ⟨a, _⟩ | ⟨rfl, rfl⟩
        · exact h2 j x a
        · exact ⟨by omega, fun z => by omega⟩
theorem firstMin_of {l : List Way} {i : Nat} {b : Way} (h : IsMin l i b) : firstMin l = some b := by
  rcases firstMin_is l.length l rfl with ⟨e, _⟩ | ⟨j, c, e, hc⟩
  · have := h.1
    rw [e] at this
    simp at this
  · rw [e, hc.uniq h]
/-! answers of a laying -/
inductive Ans where
  | ring (w : Way)
  | laid (md : List (Str × (Int × Plc)))
def plcD (e : Int × Plc) : PyData := .tuple [.int e.1, .int e.2.1, .int e.2.2.1, .int e.2.2.2]
def layM (md : List (Str × (Int × Plc))) : List (Key × PyData) := md.map fun e => ((Sum.inr e.1 : Key), plcD e.2)
def AnsAt (K : PySem.W.Frag) (v : V) (G H : Hp) (a : Ans) : Prop := ∃ t x, v = .ref t ∧ match a with
  | .ring w => SqT K G t [.str "ring", x] ∧ Dp K G x (wayD w)
  | .laid md => ∃ d, x = .ref d ∧ SqT K G t [.str "laid", .ref d] ∧ DctAt K d G H (layM md)
/-- the answer for the names nm (the group's, in order), the links nl between them and the number of the first view -/
def ansOf (nm : List Str) (nl : List (Nat × PyData)) (num : Int) : Ans := match firstMin (ringsAll nm nl) with
  | some w => .ring w
  | none => .laid (nm.map fun n => (n, (num, (wyAt (walksOf nm nl (nm.headD "")) n).2)))
def KvAt (K : PySem.W.Frag) (kvs : List (Key × V)) (G : Hp) (md : List (Key × PyData)) : Prop := kvs.map (·.1) = md.map (·.1) ∧ DpAll K G (kvs.map (·.2)) (md.map (·.2))
theorem KvAt.nil {K : PySem.W.Frag} {G : Hp} : KvAt K [] G [] := ⟨rfl, .nil⟩
theorem KvAt.ex {K : PySem.W.Frag} {G G' : Hp} {kvs : List (Key × V)} {md : List (Key × PyData)} (h : KvAt K kvs G md) (e : Y.Ex G G') : KvAt K kvs G' md := ⟨h.1, dpAll_mono e h.2⟩
/-! several answers joined -/
def ringsIn (as : List Ans) : List Way := as.filterMap fun a => match a with
  | .ring w => some w
  | .laid _ => none
def laidIn (as : List Ans) : List (Key × PyData) := as.foldl (fun acc a => match a with
  | .ring _ => acc
  | .laid md => mergeM acc (layM md)) []
def joinAns (nm : List Str) (as : List Ans) (pl : Str → Int × Plc) : Ans := match firstMin (ringsIn as) with
  | some w => .ring w
  | none => .laid (nm.map fun n => (n, pl n))
def AnsLs (K : PySem.W.Frag) (b : Addr) (G H : Hp) (as : List Ans) : Prop := ∃ vs, H b = some (.lst vs) ∧ G b = none ∧ vs.length = as.length ∧ ∀ (i : Nat) (v : V) (a : Ans), vs[i]? = some v → as[i]? = some a → AnsAt K v G H a
theorem AnsAt.go {K : PySem.W.Frag} {v : V} {G H G' H' : Hp} {M : List Addr} {a : Ans} (r : AnsAt K v G H a) (n : Nx M G H G' H') (hM : ∀ b md, b ∈ M → ¬ DctAt K b G H md) : AnsAt K v G' H' a := by
  obtain ⟨t, x, rfl, h⟩ := r
  refine ⟨t, x, rfl, ?_⟩
  cases a with
  | ring w => exact ⟨n.gg.seqT h.1, dp_mono n.gg h.2⟩
  | laid md =>
    obtain ⟨d, e, h1, h2⟩ := h
    exact ⟨d, e, n.gg.seqT h1, h2.go n fun z => hM d _ z h2⟩
theorem AnsAt.upd {K : PySem.W.Frag} {v : V} {G H : Hp} {A : Addr} {o : HO} {a : Ans} (r : AnsAt K v G H a) (h : H A = none ∨ ∃ ys, H A = some (.lst ys)) : AnsAt K v G (upd H A o) a := by
  obtain ⟨t, x, rfl, z⟩ := r
  refine ⟨t, x, rfl, ?_⟩
  cases a with
  | ring w => exact z
  | laid md =>
    obtain ⟨d, e, h1, h2⟩ := z
    refine ⟨d, e, h1, h2.upd fun hd => ?_⟩
    obtain ⟨kvs, hk, _⟩ := h2
    rw [hd, hk] at h
    rcases h with h | ⟨ys, h⟩ <;> cases h
structure Gl (nm : List Str) (nl : List (Nat × PyData)) (s : Str) (gl : List Str) : Prop where
  nd : gl.Nodup
  rch : ∀ v ∈ gl, Rch nl s v
theorem Gl.len {nm : List Str} {nl : List (Nat × PyData)} {s : Str} {gl : List Str} (g : Gl nm nl s gl) (ok : nlOk nm nl) (hs : s ∈ nm) : gl.length ≤ nm.length := nodup_le g.nd fun v hv => (g.rch v hv).mem ok hs
def sp__law_group (K : PySem.W.Frag) : Sp := fun vs H Q _ => ∃ G r ls nm s, vs = [.ref r, .str s] ∧ Y.Ex G H ∧ LstAt K r G H ls ∧ ls.length ≤ 100 ∧ nm.Nodup ∧ nm.length ≤ 40 ∧ nlOk nm (num 0 ls) ∧ s ∈ nm ∧
  ∀ o (gl : List Str) G' H', Nx [] G H G' H' → H o = none → LstAt K o G' H' (gl.map .str) → (∀ v, v ∈ gl ↔ Rch (num 0 ls) s v) → Q (.ref o) H'
theorem ok__law_group (T : Tx fa fn bx K mg) : FnOk P w K mg base CX0 2 (He.ga K "_law_group") (fdOf K (He.ga K "_law_group")) ["links", "name"] (sp__law_group K) := by
  refine FunD.ok (F__law_group T) sc__law_group (fun vs H Q E h => ?_) (fun cdv A outer s H vs Q E hr h => ?_)
  · obtain ⟨_, _, _, _, _, rfl, _⟩ := h
    rfl
  · obtain ⟨G, r, ls, nm, s, rfl, e, hL, hll, hnd, hnl, hok, hs, q⟩ := h
    refine ⟨_, PSs.nox ((pss_cons (ps_set (i := 2) sc__law_group.nd rfl (Or.inl rfl) (pe_lst (pa_cons (pv 1) pa_nil)))
      (pss_cons (ps_for PassesOwn.never rfl (pi_range1 (by rfl) (T.free 16) (pa_cons pe_int pa_nil)) (pg_name (i := 3) sc__law_group.nd rfl (Or.inl rfl))
      (pss_one (ps_for PassesOwn.never rfl (Y.pi_listK (K := K) rfl (pe_callTy (Y.call_listK (K := K) rfl) (by rfl) (T.free 31) (by decide +kernel) (pa_cons (pv 2) pa_nil))) (pg_name (i := 4) sc__law_group.nd rfl (Or.inl rfl))
      (pss_one (ps_for PassesOwn.never rfl (Y.pi_listK (K := K) rfl (Y.pe_callC (ok__law_steps T) (cal__law_steps T) (hr.mono (by decide)) (by rfl) pass0 (pa_cons (pv 0) (pa_cons (pv 4) pa_nil)))) (pg_name (i := 5) sc__law_group.nd rfl (Or.inl rfl))
      (pss_one (ps_if (pt_cmpR (Y.op_notInK (K := K) rfl) (pe_ix (Y.ix_tupK (K := K) rfl) (pv 5) pe_int (fun _ _ => rfl)) (pv 2) (by rfl))
      (pss_one (ps_expr (Y.pe_bmK (K := K) rfl PySem.F.plainAttrs_list PySem.F.slot_list_append PySem.F.type_list_append mt_append (pv 2) (pa_cons (pe_ix (Y.ix_tupK (K := K) rfl) (pv 5) pe_int (fun _ _ => rfl)) pa_nil))))
      pss_nil)))))))
      (pss_one (ps_ret (pv 2)))))), ?_⟩
    have hform : ∀ d ∈ ls, ∃ (s t : Str) (x y z : Int), d = .tuple [.str s, .str t, .int x, .int y, .int z] := fun d hd => by
      obtain ⟨i, hi, rfl⟩ := List.getElem_of_mem hd
      have hm : (i, ls[i]) ∈ num 0 ls := List.mem_of_getElem? (i := i) (by rw [num_get, List.getElem?_eq_getElem hi]; simp)
      obtain ⟨s, t, a, b, c, e, _⟩ := hok.2 _ hm
      exact ⟨s, t, a, b, c, e⟩
    generalize hnn : num 0 ls = nl at *
    walk_at "sx"
    refine g_lstLs (K := K) (L := [.str s]) e (.cons (.str _) .nil) (by show 1 ≤ 100000; decide) fun O H1 n1 hO0 hO => ?_
    walk_at "sx"
    have hL1 := hL.go n1 (by simp)
    have Or : O ≠ r := fun z => hL.live (z ▸ hO0)
    refine g_walkR (by decide) (by decide) ?_
    refine g_forS (K := K) (M := [O]) (src_rng 0 _) n1.gh (fun i σ G' H' => ∃ gl : List Str, ∃ y3 y4 y5, σ = [some (.ref r), some (.str s), some (.ref O), y3, y4, y5] ∧ LstAt K O G' H' (gl.map .str) ∧ Gl nm nl s gl ∧ ∀ k v, k ≤ i → Pth nl k s v → v ∈ gl) ⟨[s], _, _, _, rfl, hO, ⟨by simp, fun v hv => by simp at hv; subst hv; exact .refl _⟩, fun k v hk p => by
      cases p with
      | zero => simp
      | succ _ _ => omega⟩ ?_ ?_
    · rintro i w v σ' G2 H2 G3 H3 hi n2 ⟨gl, y3, y4, y5, rfl, hO2, hg, hall⟩ n3 dv
      obtain ⟨hic, rfl⟩ := rng_get hi
      cases dp_int dv
      have hO3 := hO2.go n3 (by simp)
      have n23 := n2.trans n3.pure
      walk_at "sx"
      refine g_listL n3.gh hO3 fun C H4 n4 hC hLC => ?_
      have OC : O ≠ C := fun z => hO3.live (z ▸ hC)
      walk_at "sx"
      refine g_walkLs hLC fun S => ?_
      have hO4 := hO3.go n4 (by simp)
      refine g_forS (K := K) (M := [O]) (S [O] (by simp [OC.symm])) n4.gh (fun j σ G' H' => ∃ gm : List Str, ∃ y4 y5, σ = [some (.ref r), some (.str s), some (.ref O), some (.int (i : Int)), y4, y5] ∧ LstAt K O G' H' (gm.map .str) ∧ Gl nm nl s gm ∧ (∀ v ∈ gl, v ∈ gm) ∧ ∀ u ∈ gl.take j, ∀ x ∈ stepsOf nl u, x.2.2 ∈ gm) ⟨gl, _, _, rfl, hO4, hg, fun _ h => h, by simp⟩ ?_ ?_
      · rintro j w2 v2 σ' G5 H5 G6 H6 hj n5 ⟨gm, y4, y5, rfl, hO5, hgm, hsub, hst⟩ n6 dv2
        rw [List.getElem?_map] at hj
        obtain ⟨u, hu, rfl⟩ := Option.map_eq_some_iff.mp hj
        cases dp_str dv2
        have hum := List.mem_of_getElem? hu
        have n56 := n5.trans n6.pure
        have hO6 := hO5.go n6 (by simp)
        have n36 : Nx [O] G3 H3 G6 H6 := n4.pure.trans n56
        have hL6 := hL1.go (n23.trans n36) (by simp [Or.symm])
        walk_at "sx"
        refine ⟨G6, r, ls, u, rfl, n6.gh, hL6, hll, hform, fun st G7 H7 n7 hst0 hLs => ?_⟩
        rw [hnn] at hLs
        have sO : st ≠ O := fun z => hO6.live (z ▸ hst0)
        have hO7 := hO6.go n7 (by simp)
        refine g_walkLs hLs fun S2 => ?_
        refine g_forS (K := K) (M := [O]) (S2 [O] (by simp [sO])) n7.gh (fun k σ G' H' => ∃ gk : List Str, ∃ y5, σ = [some (.ref r), some (.str s), some (.ref O), some (.int (i : Int)), some (.str u), y5] ∧ LstAt K O G' H' (gk.map .str) ∧ Gl nm nl s gk ∧ (∀ v ∈ gm, v ∈ gk) ∧ ∀ x ∈ (stepsOf nl u).take k, x.2.2 ∈ gk) ⟨gm, _, rfl, hO7, hgm, fun _ h => h, by simp⟩ ?_ ?_
        · rintro k w3 v3 σ' G8 H8 G9 H9 hk n8 ⟨gk, y5, rfl, hO8, hgk, hsub2, hst2⟩ n9 dv3
          rw [List.getElem?_map] at hk
          obtain ⟨⟨i1, f1, o1⟩, hst1, rfl⟩ := Option.map_eq_some_iff.mp hk
          have hsm := List.mem_of_getElem? hst1
          have tk : (stepsOf nl u).take (k + 1) = (stepsOf nl u).take k ++ [(i1, f1, o1)] := by rw [List.take_add_one, hst1]; rfl
          have hO9 := hO8.go n9 (by simp)
          have n89 := n8.trans n9.pure
          have hglen := hgk.len hok hs
          walk_at "sx"
          refine g_ixT (k := 2) n9.gh dv3 rfl rfl fun v4 d4 => ?_
          cases dp_str d4
          walk_at "sx"
          refine g_inSsT hO9 ?_
          walk_at "sx"
          refine g_ndec (fun hno => ?_) (fun hyes => ?_) <;> walk_at "sx"
          rotate_left
          · refine ⟨G9, n89, gk, _, rfl, hO9, hgk, hsub2, fun x hx => ?_⟩
            rw [tk] at hx
            rcases List.mem_append.mp hx with hx | hx
            · exact hst2 x hx
            · simp only [List.mem_cons, List.not_mem_nil, or_false] at hx
              subst hx
              exact hyes
          refine g_tyLs hO9 ?_
          walk_at "sx"
          refine g_ixT (k := 2) n9.gh dv3 rfl rfl fun v5 d5 => ?_
          cases dp_str d5
          walk_at "sx"
          refine g_appLs n9.gh hO9 (.str _) (by rw [List.length_map]; omega) fun H10 n10 hO10 => ?_
          refine ⟨G9, n89.trans n10, gk ++ [o1], _, rfl, by rw [List.map_append]; exact hO10, ⟨?_, fun v hv => ?_⟩, fun v hv => List.mem_append_left _ (hsub2 v hv), fun x hx => ?_⟩
          · refine List.nodup_append.mpr ⟨hgk.nd, by simp, fun a ha b hb => ?_⟩
            simp only [List.mem_cons, List.not_mem_nil, or_false] at hb
            rintro rfl
            exact hno (hb ▸ ha)
          · rcases List.mem_append.mp hv with hv | hv
            · exact hgk.rch v hv
            · simp only [List.mem_cons, List.not_mem_nil, or_false] at hv
              subst hv
              exact (hg.rch u hum).trans ⟨1, Pth.one hsm⟩
          · rw [tk] at hx
            rcases List.mem_append.mp hx with hx | hx
            · exact List.mem_append_left _ (hst2 x hx)
            · simp only [List.mem_cons, List.not_mem_nil, or_false] at hx
              subst hx
              simp
        · rintro σ' G8 H8 n8 ⟨gk, y5, rfl, hO8, hgk, hsub2, hst2⟩
          rw [List.length_map, List.take_length] at hst2
          refine ⟨G8, (n56.trans n7.pure).trans n8, gk, _, _, rfl, hO8, hgk, fun v hv => hsub2 v (hsub v hv), fun u' hu' x hx => ?_⟩
          rw [List.take_add_one, hu] at hu'
          rcases List.mem_append.mp hu' with hu' | hu'
          · exact hsub2 _ (hst u' hu' x hx)
          · simp only [Option.toList_some, List.mem_cons, List.not_mem_nil, or_false] at hu'
            subst hu'
            exact hst2 x hx
      · rintro σ' G5 H5 n5 ⟨gm, y4, y5, rfl, hO5, hgm, hsub, hst⟩
        rw [List.length_map, List.take_length] at hst
        refine ⟨G5, (n23.trans n4.pure).trans n5, gm, _, _, _, rfl, hO5, hgm, fun k v hk p => ?_⟩
        cases p with
        | zero => exact hsub s (hall 0 s (Nat.zero_le _) (.zero s))
        | @succ k _ u x p hx => exact hst u (hall k u (by omega) p) x hx
    · rintro σ' G2 H2 n2 ⟨gl, y3, y4, y5, rfl, hO2, hg, hall⟩
      rw [rng_len] at hall
      walk_at "sx"
      refine q O gl G2 H2 ((n1.pure.trans n2).drop hO0) hO0 hO2 fun v => ⟨hg.rch v, fun hr => ?_⟩
      obtain ⟨k, hk, p⟩ := short_pth hok hs hr
      exact hall k v (by show k ≤ 40; omega) p
def sp__law_moved (K : PySem.W.Frag) : Sp := fun vs H Q _ => ∃ G v1 v2 p s t a b c f, vs = [v1, v2, .bl f] ∧ Y.Ex G H ∧ Dp K G v1 (plD p) ∧ Dp K G v2 (.tuple [.str s, .str t, .int a, .int b, .int c]) ∧
  ∀ v G' H', Nx [] G H G' H' → Dp K G' v (plD (behind p (.tuple [.str s, .str t, .int a, .int b, .int c]) f)) → Q v H'
theorem ok__law_moved (T : Tx fa fn bx K mg) : FnOk P w K mg base CX0 1 (He.ga K "_law_moved") (fdOf K (He.ga K "_law_moved")) ["place", "link", "forward"] (sp__law_moved K) := by
  refine FunD.ok (F__law_moved T) sc__law_moved (fun vs H Q E h => ?_) (fun cdv A outer s H vs Q E hr h => ?_)
  · obtain ⟨_, _, _, _, _, _, _, _, _, _, rfl, _⟩ := h
    rfl
  · obtain ⟨G, v1, v2, p, s, t, a, b, c, f, rfl, e, d1, d2, q⟩ := h
    refine ⟨_, PSs.nox ((pss_cons (ps_set (i := 3) sc__law_moved.nd rfl (Or.inr rfl) pe_int)
      (pss_cons (ps_if (pt_not (pt_val (pv 2)))
      (pss_one (ps_set (i := 3) sc__law_moved.nd rfl (Or.inr rfl) (pe_op op_sub pe_int pe_int)))
      pss_nil)
      (pss_one (ps_ret (pe_callTy (Y.call_tupleK (K := K) rfl) (by rfl) (T.free 4) (by decide +kernel) (pa_cons (pe_lc (own := [("j", 4)]) (tt := tYes) rfl sc__law_moved.nd (pi_range1 (by rfl) (T.free 16) (pa_cons pe_int pa_nil)) (blkOk_by (own := [("j", 4)]) (by kernel_rfl)) (fun _ _ _ _ _ => (pg_name (i := 4) sc__law_moved.nd rfl (Or.inl rfl))) (fun _ _ _ _ _ => pts_nil) (fun _ _ _ _ _ => (pe_op op_add (pe_ix (Y.ix_tupK (K := K) rfl) (pv 0) (pv 4) (fun _ _ => rfl)) (pe_op op_mul (pv 3) (pe_ix (Y.ix_tupK (K := K) rfl) (pv 1) (pe_op op_add pe_int (pv 4)) (fun _ _ => rfl)))))) pa_nil))))))), ?_⟩
    walk_at "sx"
    have key : ∀ sg : Int, (sg = if f = true then 1 else -1) → (plD (behind p (.tuple [.str s, .str t, .int a, .int b, .int c]) f)) = .tuple [.int (p.1 + sg * a), .int (p.2.1 + sg * b), .int (p.2.2 + sg * c)] := fun sg h => by
      subst h
      unfold behind plD
      cases f <;> simp [Int.sub_eq_add_neg]
    refine g_nbool (fun hf => ?_) (fun hf => ?_) <;> walk_at "sx"
    · refine g_walkR (by decide) (by decide) ?_
      intro A hA
      refine g_lcPS (K := K) (M := []) (es := fun i => ([.int (p.1 + (-1) * a), .int (p.2.1 + (-1) * b), .int (p.2.2 + (-1) * c)] : List PyData).take i) (src_rng 0 3) e hA (by simp) (by rw [rng_len]; decide) (by simp) (fun i dd v acc G1 H1 hi dv n1 _ QE QN k1 k2 => ?_) fun G1 H1 n1 hL => ?_
      · obtain ⟨hic, rfl⟩ := rng_get hi
        cases dp_int dv
        obtain ⟨x, y, hx, hy, hes⟩ : ∃ x y : Int, ([.int p.1, .int p.2.1, .int p.2.2] : List PyData)[i]? = some (.int x) ∧ ([.str s, .str t, .int a, .int b, .int c] : List PyData)[2 + i]? = some (.int y) ∧ ([.int (p.1 + (-1) * a), .int (p.2.1 + (-1) * b), .int (p.2.2 + (-1) * c)] : List PyData)[i]? = some (.int (x + (-1) * y)) := by
          have : i = 0 ∨ i = 1 ∨ i = 2 := by omega
          rcases this with rfl | rfl | rfl
          · exact ⟨_, _, rfl, rfl, rfl⟩
          · exact ⟨_, _, rfl, rfl, rfl⟩
          · exact ⟨_, _, rfl, rfl, rfl⟩
        refine ⟨by first | rfl | exact wipe1, ?_⟩
        walk_at "sx"
        refine g_ixT (k := i) n1.gh (dp_mono n1.gg d1) hx rfl fun v3 d3 => ?_
        cases dp_int d3
        walk_at "sx"
        refine g_ixT (k := 2 + i) n1.gh (dp_mono n1.gg d2) hy (by omega) fun v4 d4 => ?_
        cases dp_int d4
        walk_at "sx"
        refine ⟨_, _, rfl, rfl, .inl (by decide), ?_⟩
        walk_at "sx"
        refine k1 _ G1 H1 _ (Nx.refl n1.gh) (.int _) ?_
        rw [List.take_add_one, hes]
        rfl
      walk_at "sx"
      obtain ⟨ys, hA2, gA2, da⟩ := hL
      refine g_tupOfM n1.gh hA2 da fun u G2 H2 n2 du => q _ _ _ (n1.trans n2) ?_
      rw [key ((-1)) (by rw [hf]; rfl)]
      exact du
    · refine g_walkR (by decide) (by decide) ?_
      intro A hA
      refine g_lcPS (K := K) (M := []) (es := fun i => ([.int (p.1 + 1 * a), .int (p.2.1 + 1 * b), .int (p.2.2 + 1 * c)] : List PyData).take i) (src_rng 0 3) e hA (by simp) (by rw [rng_len]; decide) (by simp) (fun i dd v acc G1 H1 hi dv n1 _ QE QN k1 k2 => ?_) fun G1 H1 n1 hL => ?_
      · obtain ⟨hic, rfl⟩ := rng_get hi
        cases dp_int dv
        obtain ⟨x, y, hx, hy, hes⟩ : ∃ x y : Int, ([.int p.1, .int p.2.1, .int p.2.2] : List PyData)[i]? = some (.int x) ∧ ([.str s, .str t, .int a, .int b, .int c] : List PyData)[2 + i]? = some (.int y) ∧ ([.int (p.1 + 1 * a), .int (p.2.1 + 1 * b), .int (p.2.2 + 1 * c)] : List PyData)[i]? = some (.int (x + 1 * y)) := by
          have : i = 0 ∨ i = 1 ∨ i = 2 := by omega
          rcases this with rfl | rfl | rfl
          · exact ⟨_, _, rfl, rfl, rfl⟩
          · exact ⟨_, _, rfl, rfl, rfl⟩
          · exact ⟨_, _, rfl, rfl, rfl⟩
        refine ⟨by first | rfl | exact wipe1, ?_⟩
        walk_at "sx"
        refine g_ixT (k := i) n1.gh (dp_mono n1.gg d1) hx rfl fun v3 d3 => ?_
        cases dp_int d3
        walk_at "sx"
        refine g_ixT (k := 2 + i) n1.gh (dp_mono n1.gg d2) hy (by omega) fun v4 d4 => ?_
        cases dp_int d4
        walk_at "sx"
        refine ⟨_, _, rfl, rfl, .inl (by decide), ?_⟩
        walk_at "sx"
        refine k1 _ G1 H1 _ (Nx.refl n1.gh) (.int _) ?_
        rw [List.take_add_one, hes]
        rfl
      walk_at "sx"
      obtain ⟨ys, hA2, gA2, da⟩ := hL
      refine g_tupOfM n1.gh hA2 da fun u G2 H2 n2 du => q _ _ _ (n1.trans n2) ?_
      rw [key (1) (by rw [hf]; rfl)]
      exact du
def placeOf (s : Str) (ws : List PyData) : Nat := ws.findIdx fun v => decide (nmOf v = s)
def sp_Album_index (K : PySem.W.Frag) : Sp := fun vs H Q E => ∃ G a d l ws ls s, vs = [.ref a, .str s] ∧ Y.Ex G H ∧ AlbAt K a d l G H ws ls ∧ (look s ws = none → RaE K G H E (.unk s)) ∧ ((look s ws).isSome = true → ∀ G' H', Nx [] G H G' H' → Q (.int (placeOf s ws : Int)) H')
theorem dpAll_strs_inv {K : PySem.W.Frag} {G : Hp} : ∀ {vs : List V} {ws : List PyData}, DpAll K G vs (namesOf ws) → vs = (ws.map nmOf).map V.str
  | _, [], h => by cases h; rfl
  | _, w :: ws, h => by
    cases h with
    | cons a t =>
      cases a
      rw [dpAll_strs_inv t]
      rfl
theorem look_place {s : Str} {ws : List PyData} (h : (look s ws).isSome = true) : (ws.map nmOf)[placeOf s ws]? = some s ∧ ∀ m, m < placeOf s ws → (ws.map nmOf)[m]? ≠ some s := by
  unfold look at h
  rw [List.find?_isSome] at h
  have hl : placeOf s ws < ws.length := List.findIdx_lt_length.mpr h
  refine ⟨?_, fun m hm z => ?_⟩
  · have := List.findIdx_getElem (w := hl)
    rw [List.getElem?_map, List.getElem?_eq_getElem hl]
    exact congrArg some (of_decide_eq_true this)
  · have hml : m < ws.length := by omega
    have := List.not_of_lt_findIdx hm
    rw [List.getElem?_map, List.getElem?_eq_getElem hml] at z
    exact of_decide_eq_false this (Option.some.inj z)
theorem ok_Album_index (T : Tx fa fn bx K mg) : FnOk P w K mg base (L2.CX P w) 4 (He.ma K (He.ga K "Album") "index") (fdOf K (He.ma K (He.ga K "Album") "index")) ["self", "name"] (sp_Album_index K) := by
  refine FunD.ok (F_Album_index T) sc_Album_index (fun vs H Q E h => ?_) (fun cdv A outer s H vs Q E hr h => ?_)
  · obtain ⟨_, _, _, _, _, _, _, rfl, _⟩ := h
    rfl
  · obtain ⟨G, a, d, l, ws, ls, s, rfl, e, hA, qe, q⟩ := h
    refine ⟨_, ((pss_cons (ps_expr (Y.pe_methC (pv 0) (T.cls 6) (T.meth 29) (ok_Album__check_known T) (hr.mono (by decide)) (cal_Album__check_known T) (passL (takesL_of (takes_of rfl rfl rfl rfl))) (pa_cons (pv 1) pa_nil)))
      (pss_one (ps_ret (Y.pe_bmK (K := K) rfl PySem.F.plainAttrs_list PySem.F.slot_list_index PySem.F.type_list_index mt_index (Y.pe_meth0C (pv 0) (T.cls 6) (T.meth 10) (ok_Album_names T) (hr.mono (by decide)) (cal_Album_names T) pass0) (pa_cons (pv 1) pa_nil)))))), ?_⟩
    obtain ⟨g1, g2, g3, ok, ⟨dx, h1⟩, ⟨kvs, h2, hk, dk⟩, xs, h3, dl⟩ := id hA
    walk_at "sx"
    refine g_mth h1 rfl ?_
    walk_at "sx"
    refine ⟨G, a, d, l, ws, ls, s, rfl, e, hA, fun hl => ?_, fun hl => qe hl⟩
    walk_at "sx"
    refine g_mth h1 rfl ?_
    walk_at "sx"
    refine ⟨G, a, d, l, ws, ls, rfl, e, hA, fun p H1 n hp hL => ?_⟩
    obtain ⟨vs, hvs, gp, dvs⟩ := hL
    rw [dpAll_strs_inv dvs] at hvs
    refine g_tyL hvs ?_
    walk_at "sx"
    obtain ⟨z1, z2⟩ := look_place hl
    refine g_index hvs z1 z2 ?_
    exact q hl G H1 n
def placeB : PyData → Bool
  | .tuple xs => decide (xs.length = 4) && xs.all isWhole
  | _ => false
def sp__is_place (K : PySem.W.Frag) : Sp := fun vs H Q _ => ∃ G v d, vs = [v] ∧ Y.Ex G H ∧ Dp K G v d ∧ ∀ G' H', Nx [] G H G' H' → Q (.bl (placeB d)) H'
theorem ok__is_place (T : Tx fa fn bx K mg) : FnOk P w K mg base CX0 2 (He.ga K "_is_place") (fdOf K (He.ga K "_is_place")) ["value"] (sp__is_place K) := by
  refine FunD.ok (F__is_place T) sc__is_place (fun vs H Q E h => ?_) (fun cdv A outer s H vs Q E hr h => ?_)
  · obtain ⟨_, _, _, rfl, _⟩ := h
    rfl
  · obtain ⟨G, v, d, rfl, e, hd, q⟩ := h
    refine ⟨_, PSs.nox ((pss_one (ps_ret (pe_and (Y.pe_callC (ok_is_tuple_of T) (cal_is_tuple_of T) (hr.mono (by decide)) (by rfl) pass0 (pa_cons (pv 0) (pa_cons pe_int pa_nil))) (pe_one (pe_callB (Y.cr_allK (K := K) rfl rfl) (by rfl) (T.free 14) (by decide +kernel) (pa_cons (pe_lc (own := [("number", 1)]) (tt := tYes) rfl sc__is_place.nd (Y.pi_tupK (K := K) rfl (pv 0)) (blkOk_by (own := [("number", 1)]) (by kernel_rfl)) (fun _ _ _ _ _ => (pg_name (i := 1) sc__is_place.nd rfl (Or.inl rfl))) (fun _ _ _ _ _ => pts_nil) (fun _ _ _ _ _ => (Y.pe_callC (ok_is_whole T) (cal_is_whole T) (hr.mono (by decide)) (by rfl) pass0 (pa_cons (pv 1) pa_nil)))) pa_nil))))))), ?_⟩
    walk_at "sx"
    refine ⟨G, v, d, 4, rfl, e, .inl hd, ?_⟩
    refine ⟨_, rfl, ?_⟩
    refine g_bool (fun h1 => ?_) (fun h1 => ?_)
    rotate_left
    · refine q_bl (q G H (Nx.refl e)) ?_
      cases d with
      | tuple xs =>
        simp only [tupleOf, decide_eq_false_iff_not] at h1
        show (decide (xs.length = 4) && _) = false
        rw [decide_eq_false (by omega)]
        rfl
      | _ => rfl
    obtain ⟨xs, rfl⟩ : ∃ xs, d = .tuple xs := by
      cases d with
      | tuple xs => exact ⟨xs, rfl⟩
      | _ => cases h1
    simp only [tupleOf, decide_eq_true_eq] at h1
    walk_at "sx"
    refine g_walkT e hd fun a ea S => ?_
    intro A hA
    refine g_lcPS (K := K) (M := []) (es := fun i => ((xs.take i).map isWhole).map .bool) (S []) e hA (by simp) (szl (by omega)) (by simp) (fun i d v1 acc G1 H1 hi d1 n1 _ QE QN k1 k2 => ?_) fun G1 H1 n1 hL => ?_
    · refine ⟨by first | rfl | exact wipe1, ?_⟩
      walk_at "sx"
      refine ⟨G1, v1, d, rfl, n1.gh, d1, ?_⟩
      refine k1 _ G1 H1 _ (Nx.refl n1.gh) (.bl _) ?_
      rw [List.take_add_one, hi, List.map_append, List.map_append]
      rfl
    · obtain ⟨ys, hy, _, dy⟩ := hL
      rw [List.take_length] at dy
      walk_at "sx"
      refine g_allM hy dy ?_
      refine q_bl (q G1 H1 n1) ?_
      show (decide (xs.length = 4) && xs.all isWhole) = _
      rw [decide_eq_true (by omega), List.all_map, Bool.true_and]
      rfl
/-- a place: the group's number, x, y, the light -/
abbrev Four := Int × Int × Int × Int
def frD (p : Four) : PyData := .tuple [.int p.1, .int p.2.1, .int p.2.2.1, .int p.2.2.2]
def keepB (p r : Four) (a b c : Int) : Bool := decide (p.1 = r.1) && decide (p.2.1 + a = r.2.1 ∧ p.2.2.1 + b = r.2.2.1 ∧ p.2.2.2 + c = r.2.2.2)
def sp_keeps (K : PySem.W.Frag) : Sp := fun vs H Q _ => ∃ G d w md s t a b c p r, vs = [.ref d, w] ∧ Y.Ex G H ∧ DctAt K d G H md ∧ Dp K G w (.tuple [.str s, .str t, .int a, .int b, .int c]) ∧ gtM md (Sum.inr s) = some (frD p) ∧ gtM md (Sum.inr t) = some (frD r) ∧
  ∀ G' H', Nx [] G H G' H' → Q (.bl (keepB p r a b c)) H'
theorem ok_keeps (T : Tx fa fn bx K mg) : FnOk P w K mg base CX0 2 (He.ga K "keeps") (fdOf K (He.ga K "keeps")) ["laying", "link"] (sp_keeps K) := by
  refine FunD.ok (F_keeps T) sc_keeps (fun vs H Q E h => ?_) (fun cdv A outer s H vs Q E hr h => ?_)
  · obtain ⟨_, _, _, _, _, _, _, _, _, _, _, rfl, _⟩ := h
    rfl
  · obtain ⟨G, d, w, md, s, t, a, b, c, p, r, rfl, e, hD, hw, h1, h2, q⟩ := h
    refine ⟨_, PSs.nox ((pss_cons (ps_asg (pe_slice (Y.sl_tupAK (K := K) rfl) (pv 1) po_none (po_some pe_int)) (Y.pg_tupK (K := K) (n := 2) rfl rfl (pgs_cons (pg_name (i := 2) sc_keeps.nd rfl (Or.inl rfl)) (pgs_cons (pg_name (i := 3) sc_keeps.nd rfl (Or.inl rfl)) pgs_nil))))
      (pss_cons (ps_if (PW.pt (pw_or (pt_cmp (pc_dnotin (hu_of hr) (pv 2) (pv 0))) (pw_or1 (pt_cmp (pc_dnotin (hu_of hr) (pv 3) (pv 0))))))
      (pss_one (ps_ret pe_bl))
      pss_nil)
      (pss_cons (ps_if (pt_cmpR (Y.op_neDK (K := K) rfl hr.units) (pe_ix (Y.ix_tupK (K := K) rfl) (pe_dget (hu_of hr) (pv 0) (pv 2) (fun _ _ => rfl)) pe_int (fun _ _ => rfl)) (pe_ix (Y.ix_tupK (K := K) rfl) (pe_dget (hu_of hr) (pv 0) (pv 3) (fun _ _ => rfl)) pe_int (fun _ _ => rfl)) (nomark _))
      (pss_one (ps_ret pe_bl))
      pss_nil)
      (pss_one (ps_ret (pe_cmpR (Y.op_eqDK (K := K) rfl hr.units) (Y.pe_callC (ok__place_behind T) (cal__place_behind T) (hr.mono (by decide)) (by rfl) pass0 (pa_cons (pe_slice (Y.sl_tupAK (K := K) rfl) (pe_dget (hu_of hr) (pv 0) (pv 2) (fun _ _ => rfl)) (po_some pe_int) po_none) (pa_cons (pv 1) (pa_cons pe_bl pa_nil)))) (pe_slice (Y.sl_tupAK (K := K) rfl) (pe_dget (hu_of hr) (pv 0) (pv 3) (fun _ _ => rfl)) (po_some pe_int) po_none) (nomark _)))))))), ?_⟩
    walk_at "sx"
    refine g_slHi (k := 2) e hw rfl fun u G1 H1 n1 du => ?_
    refine g_un2 n1.gh du fun v1 v2 d1 d2 => ?_
    cases dp_str d1
    cases dp_str d2
    have hD1 := hD.go n1 (by simp)
    walk_at "sx"
    refine g_dcNi hD1 (k := Sum.inr s) rfl ?_
    rw [h1]
    walk_at "sx"
    refine g_bool (fun h => nomatch h) (fun _ => ?_)
    walk_at "sx"
    refine g_dcNi hD1 (k := Sum.inr t) rfl ?_
    rw [h2]
    walk_at "sx"
    refine g_bool (fun h => nomatch h) (fun _ => ?_)
    walk_at "sx"
    refine g_dcGet hD1 (k := Sum.inr s) rfl h1 fun v3 d3 => ?_
    walk_at "sx"
    refine g_ixT (k := 0) n1.gh d3 rfl rfl fun v4 d4 => ?_
    cases dp_int d4
    walk_at "sx"
    refine g_dcGet hD1 (k := Sum.inr t) rfl h2 fun v5 d5 => ?_
    walk_at "sx"
    refine g_ixT (k := 0) n1.gh d5 rfl rfl fun v6 d6 => ?_
    cases dp_int d6
    walk_at "sx"
    refine g_neD (K := K) (d := .int p.1) (d' := .int r.1) n1.gh (.int _) (.int _) rfl rfl ?_
    have ee : PyData.eqv (.int p.1) (.int r.1) = decide (p.1 = r.1) := by
      show (p.1 == r.1) = _
      by_cases h : p.1 = r.1
      · rw [decide_eq_true h, h]; simp
      · rw [decide_eq_false h]; exact beq_eq_false_iff_ne.mpr h
    rw [ee]
    refine ⟨_, rfl, ?_⟩
    refine g_ndec (fun h3 => ?_) (fun h3 => ?_)
    · walk_at "sx"
      exact q_bl (q G1 H1 n1) (by unfold keepB; rw [decide_eq_false h3]; rfl)
    walk_at "sx"
    refine g_dcGet hD1 (k := Sum.inr s) rfl h1 fun v7 d7 => ?_
    walk_at "sx"
    refine g_slLo (k := 1) n1.gh d7 rfl fun v8 G2 H2 n2 d8 => ?_
    walk_at "sx"
    have n12 := n1.trans n2
    refine ⟨G2, v8, w, (p.2.1, p.2.2.1, p.2.2.2), s, t, a, b, c, true, rfl, n2.gh, d8, dp_mono n12.gg hw, fun v9 G3 H3 n3 d9 => ?_⟩
    walk_at "sx"
    have n13 := n12.trans n3
    refine g_dcGet ((hD1.go n2 (by simp)).go n3 (by simp)) (k := Sum.inr t) rfl h2 fun v10 d10 => ?_
    walk_at "sx"
    refine g_slLo (k := 1) n3.gh d10 rfl fun v11 G4 H4 n4 d11 => ?_
    refine g_eqD (K := K) (d := plD _) (d' := plD (r.2.1, r.2.2.1, r.2.2.2)) n4.gh (dp_mono n4.gg d9) d11 shaped_pl shaped_pl ?_
    rw [eqv_pl]
    refine q_bl (q G4 H4 (n13.trans n4)) ?_
    unfold keepB
    rw [decide_eq_true (by simpa using h3), Bool.true_and]
    congr 1
    apply propext
    show (_ ∧ _ ∧ _) ↔ ((p.2.1 + a, p.2.2.1 + b, p.2.2.2 + c) = ((r.2.1, r.2.2.1, r.2.2.2) : Plc))
    simp only [Prod.mk.injEq]
def allB (md : List (Key × PyData)) (nm : List Str) : Bool := decide (md.length = nm.length) && nm.all fun s => match gtM md (Sum.inr s) with
  | some d => placeB d
  | none => false
def sp__places_all (K : PySem.W.Frag) : Sp := fun vs H Q _ => ∃ G a d l ws ls v, vs = [.ref a, v] ∧ Y.Ex G H ∧ AlbAt K a d l G H ws ls ∧
  ((∃ p md, v = .ref p ∧ DctAt K p G H md ∧ ∀ G' H', Nx [] G H G' H' → Q (.bl (allB md (ws.map nmOf))) H') ∨ (∃ p xs, v = .ref p ∧ H p = some (.lst xs) ∧ ∀ G' H', Nx [] G H G' H' → Q (.bl false) H') ∨ ∃ x, Dp K G v x ∧ ∀ G' H', Nx [] G H G' H' → Q (.bl false) H')
theorem ok__places_all (T : Tx fa fn bx K mg) : FnOk P w K mg base CX0 3 (He.ga K "_places_all") (fdOf K (He.ga K "_places_all")) ["album", "laying"] (sp__places_all K) := by
  refine FunD.ok (F__places_all T) sc__places_all (fun vs H Q E h => ?_) (fun cdv A outer s H vs Q E hr h => ?_)
  · obtain ⟨_, _, _, _, _, _, _, rfl, _⟩ := h
    rfl
  · obtain ⟨G, a, d, l, ws, ls, v, rfl, e, hA, hv⟩ := h
    refine ⟨_, PSs.nox ((pss_cons (ps_set (i := 2) sc__places_all.nd rfl (Or.inl rfl) (Y.pe_meth0C (pv 0) (T.cls 6) (T.meth 10) (ok_Album_names T) (hr.mono (by decide)) (cal_Album_names T) pass0))
      (pss_cons (ps_if (PW.pt (pw_or (pt_not (pt_val (pe_callB (Y.call_isiK (K := K) rfl) (by rfl) (T.free 0) (by decide +kernel) (pa_cons (pv 1) (pa_cons (pe_bltn (v := .ty "dict") (by rfl) (T.free 15) (by decide +kernel) rfl) pa_nil))))) (pw_or1 (pt_cmpR op_ne (pe_callB Y.call_lenDk (by rfl) (T.free 3) (by decide +kernel) (pa_cons (pv 1) pa_nil)) (pe_callB (Y.call_lenK (K := K) rfl) (by rfl) (T.free 3) (by decide +kernel) (pa_cons (pv 2) pa_nil)) (nomark _)))))
      (pss_one (ps_ret pe_bl))
      pss_nil)
      (pss_one (ps_ret (pe_callB (Y.cr_allK (K := K) rfl rfl) (by rfl) (T.free 14) (by decide +kernel) (pa_cons (pe_lc (own := [("name", 3)]) (tt := tYes) rfl sc__places_all.nd (Y.pi_listK (K := K) rfl (pv 2)) (blkOk_by (own := [("name", 3)]) (by kernel_rfl)) (fun _ _ _ _ _ => (pg_name (i := 3) sc__places_all.nd rfl (Or.inl rfl))) (fun _ _ _ _ _ => pts_nil) (fun _ _ _ _ _ => (pe_and (pe_cmp (pc_din (hu_of hr) (pv 3) (pv 1))) (pe_one (Y.pe_callC (ok__is_place T) (cal__is_place T) (hr.mono (by decide)) (by rfl) pass0 (pa_cons (pe_dget (hu_of hr) (pv 1) (pv 3) (fun _ _ => rfl)) pa_nil)))))) pa_nil))))))), ?_⟩
    obtain ⟨g1, g2, g3, ok, ⟨dx, h1⟩, _⟩ := id hA
    have wl := ok.vl
    walk_at "sx"
    refine g_mth h1 rfl ?_
    walk_at "sx"
    refine ⟨G, a, d, l, ws, ls, rfl, e, hA, fun p H1 n1 hp hL => ?_⟩
    walk_at "sx"
    rcases hv with ⟨p2, md, rfl, hD, q⟩ | ⟨p2, xs, rfl, hx, q⟩ | ⟨x, dx2, q⟩
    · have hD1 := hD.go n1 (by simp)
      obtain ⟨kvs, hk, gk, hkm, _⟩ := id hD1
      have hkl : kvs.length = md.length := by simpa using congrArg List.length hkm
      refine ⟨.ref p2, .ty "dict", _, _, true, rfl, .ty "dict", .base (.dK hk), kit_ty (by rfl), ?_⟩
      refine ⟨true, rfl, ?_⟩
      refine g_nbool (fun h => nomatch h) (fun _ => ?_)
      walk_at "sx"
      refine ⟨p2, kvs, rfl, hk, ?_⟩
      rw [hkl]
      walk_at "sx"
      refine g_lenLs hL ?_
      have hnl : (namesOf ws).length = ws.length := by simp [namesOf]
      rw [hnl]
      walk_at "sx"
      refine g_ndec (fun h2 => ?_) (fun h2 => ?_)
      · walk_at "sx"
        exact q_bl (q G H1 n1) (by unfold allB; rw [decide_eq_false (by rw [List.length_map]; omega)]; rfl)
      walk_at "sx"
      refine g_walkLs hL fun S => ?_
      intro A hA
      refine g_lcPS (K := K) (M := []) (es := fun i => (((ws.map nmOf).take i).map fun s => match gtM md (Sum.inr s) with
        | some d => placeB d
        | none => false).map .bool) (S [] (by simp)) n1.gh hA (by simp) (by rw [hnl]; exact szl (by omega)) (by simp) (fun i dd v4 acc G2 H2 hi d4 n2 _ QE QN k1 k2 => ?_) fun G2 H2 n2 hLb => ?_
      · unfold namesOf at hi
        rw [List.getElem?_map] at hi
        obtain ⟨w, hw, rfl⟩ := Option.map_eq_some_iff.mp hi
        cases dp_str d4
        have hs : (ws.map nmOf)[i]? = some (nmOf w) := by rw [List.getElem?_map, hw]; rfl
        refine ⟨by first | rfl | exact wipe1, ?_⟩
        walk_at "sx"
        refine g_dcIn (hD1.go n2 (by simp)) (k := Sum.inr (nmOf w)) rfl ?_
        refine ⟨_, rfl, ?_⟩
        cases hg : gtM md (Sum.inr (nmOf w)) with
        | none =>
          refine g_bool (fun h => nomatch h) (fun _ => ?_)
          refine k1 _ G2 H2 _ (Nx.refl n2.gh) (.bl _) ?_
          rw [List.take_add_one, hs, List.map_append, List.map_append]
          simp [hg]
        | some dd =>
          refine g_bool (fun _ => ?_) (fun h => nomatch h)
          walk_at "sx"
          refine g_dcGet (hD1.go n2 (by simp)) (k := Sum.inr (nmOf w)) rfl hg fun v5 d5 => ?_
          walk_at "sx"
          refine ⟨G2, v5, dd, rfl, n2.gh, d5, fun G3 H3 n3 => ?_⟩
          refine k1 _ G3 H3 _ n3 (.bl _) ?_
          rw [List.take_add_one, hs, List.map_append, List.map_append]
          simp [hg]
      · obtain ⟨ys, hy, _, dy⟩ := hLb
        rw [hnl, List.take_of_length_le (by simp)] at dy
        walk_at "sx"
        refine g_allM hy dy ?_
        refine q_bl (q G2 H2 (n1.trans n2)) ?_
        unfold allB
        have al : ∀ (L : List Str) (f : Str → Bool), (L.map f).all id = L.all f := fun L f => by rw [List.all_map]; rfl
        rw [decide_eq_true (by rw [List.length_map]; omega), Bool.true_and, al]
    · refine ⟨.ref p2, .ty "dict", _, _, false, rfl, .ty "dict", .base (.lst (n1.fr p2 _ (by simp) hx)), kit_ty (by rfl), ?_⟩
      refine ⟨false, rfl, ?_⟩
      refine g_nbool (fun _ => ?_) (fun h => nomatch h)
      walk_at "sx"
      exact q G H1 n1
    · have hb : kitB (tyN x) "dict" = some false := by
        cases x with
        | dict _ => exact (dp_nodict dx2).elim
        | _ => rfl
      refine g_isi n1.gh (dp_mono n1.gg dx2) hb ?_
      refine ⟨false, rfl, ?_⟩
      refine g_nbool (fun _ => ?_) (fun h => nomatch h)
      walk_at "sx"
      exact q G H1 n1
def frOf (md : List (Key × PyData)) (s : Str) (p : Four) : Prop := gtM md (Sum.inr s) = some (frD p)
def grpF (P : Str → Four) (nm : List Str) (k : Int) : Bool := match nm with
  | [] => false
  | s :: r => decide ((P s).2 = (0, 0, 0)) && (s :: r).all fun s => decide ((P s).1 = k)
def sp__places_group (K : PySem.W.Frag) : Sp := fun vs H Q _ => ∃ G d v md nm k, ∃ P : Str → Four, vs = [.ref d, v, .int k] ∧ Y.Ex G H ∧ DctAt K d G H md ∧ Dp K G v (.list (nm.map .str)) ∧ nm ≠ [] ∧ nm.length ≤ 1000 ∧ (∀ s ∈ nm, frOf md s (P s)) ∧
  ∀ G' H', Nx [] G H G' H' → Q (.bl (grpF P nm k)) H'
theorem ok__places_group (T : Tx fa fn bx K mg) : FnOk P w K mg base CX0 1 (He.ga K "_places_group") (fdOf K (He.ga K "_places_group")) ["laying", "names", "number"] (sp__places_group K) := by
  refine FunD.ok (F__places_group T) sc__places_group (fun vs H Q E h => ?_) (fun cdv A outer s H vs Q E hr h => ?_)
  · obtain ⟨_, _, _, _, _, _, _, rfl, _⟩ := h
    rfl
  · obtain ⟨G, d, v, md, nm, k, P, rfl, e, hD, hv, hne, hnl, hP, q⟩ := h
    refine ⟨_, PSs.nox ((pss_cons (ps_if (pt_cmpR (Y.op_neDK (K := K) rfl hr.units) (pe_slice (Y.sl_tupAK (K := K) rfl) (pe_dget (hu_of hr) (pv 0) (pe_ix (Y.ix_listK (K := K) rfl) (pv 1) pe_int (fun _ _ => rfl)) (fun _ _ => rfl)) (po_some pe_int) po_none) (pe_glob (v := .ref (He.ga K "ORIGIN")) rfl (T.glo 8) rfl) (nomark _))
      (pss_one (ps_ret pe_bl))
      pss_nil)
      (pss_one (ps_ret (pe_callB (Y.cr_allK (K := K) rfl rfl) (by rfl) (T.free 14) (by decide +kernel) (pa_cons (pe_lc (own := [("name", 3)]) (tt := tYes) rfl sc__places_group.nd (Y.pi_listK (K := K) rfl (pv 1)) (blkOk_by (own := [("name", 3)]) (by kernel_rfl)) (fun _ _ _ _ _ => (pg_name (i := 3) sc__places_group.nd rfl (Or.inl rfl))) (fun _ _ _ _ _ => pts_nil) (fun _ _ _ _ _ => (pe_cmpR (Y.op_eqDK (K := K) rfl hr.units) (pe_ix (Y.ix_tupK (K := K) rfl) (pe_dget (hu_of hr) (pv 0) (pv 3) (fun _ _ => rfl)) pe_int (fun _ _ => rfl)) (pv 2) (nomark _)))) pa_nil)))))), ?_⟩
    obtain ⟨s0, r0, rfl⟩ : ∃ s r, nm = s :: r := by
      cases nm with
      | nil => exact absurd rfl hne
      | cons s r => exact ⟨s, r, rfl⟩
    have h0 : gtM md (Sum.inr s0) = some (frD (P s0)) := hP s0 (by simp)
    walk_at "sx"
    refine g_ixL (k := 0) e hv rfl rfl fun v1 d1 => ?_
    cases dp_str d1
    walk_at "sx"
    refine g_dcGet hD (k := Sum.inr s0) rfl h0 fun v2 d2 => ?_
    walk_at "sx"
    refine g_slLo (k := 1) e d2 rfl fun v3 G1 H1 n1 d3 => ?_
    have dO : Dp K G1 (.ref (He.ga K "ORIGIN")) (plD (0, 0, 0)) := tupB_ok (ns := [0, 0, 0]) (tup_ORIGIN T) (by decide)
    walk_at "sx"
    refine g_neD (K := K) (d := plD (P s0).2) (d' := plD (0, 0, 0)) n1.gh d3 dO shaped_pl shaped_pl ?_
    rw [eqv_pl]
    refine ⟨_, rfl, ?_⟩
    refine g_ndec (fun h1 => ?_) (fun h1 => ?_)
    · walk_at "sx"
      exact q_bl (q G1 H1 n1) (by
        show (decide ((P s0).2 = (0, 0, 0)) && (s0 :: r0).all fun s => decide ((P s).1 = k)) = false
        rw [decide_eq_false h1]
        rfl)
    walk_at "sx"
    have hD1 := hD.go n1 (by simp)
    refine g_walkL n1.gh (dp_mono n1.gg hv) fun a ea S => ?_
    intro A hA
    refine g_lcPS (K := K) (M := []) (es := fun i => (((s0 :: r0).take i).map fun s => decide ((P s).1 = k)).map .bool) (S []) n1.gh hA (by simp) (by rw [List.length_map]; exact szl (by omega)) (by simp) (fun i dd v4 acc G2 H2 hi d4 n2 _ QE QN k1 k2 => ?_) fun G2 H2 n2 hL => ?_
    · rw [List.getElem?_map] at hi
      obtain ⟨s, hs, rfl⟩ := Option.map_eq_some_iff.mp hi
      cases dp_str d4
      refine ⟨by first | rfl | exact wipe1, ?_⟩
      walk_at "sx"
      refine g_dcGet (hD1.go n2 (by simp)) (k := Sum.inr s) rfl (hP s (List.mem_of_getElem? hs)) fun v5 d5 => ?_
      walk_at "sx"
      refine g_ixT (k := 0) n2.gh d5 rfl rfl fun v6 d6 => ?_
      cases dp_int d6
      walk_at "sx"
      refine g_eqD (K := K) (d := .int (P s).1) (d' := .int k) n2.gh (.int _) (.int _) rfl rfl ?_
      have ee : PyData.eqv (.int (P s).1) (.int k) = decide ((P s).1 = k) := by
        show ((P s).1 == k) = _
        by_cases h : (P s).1 = k
        · rw [decide_eq_true h, h]; simp
        · rw [decide_eq_false h]; exact beq_eq_false_iff_ne.mpr h
      rw [ee]
      refine k1 _ G2 H2 _ (Nx.refl n2.gh) (.bl _) ?_
      rw [List.take_add_one, hs, List.map_append, List.map_append]
      rfl
    · obtain ⟨ys, hy, _, dy⟩ := hL
      rw [List.length_map, List.take_length] at dy
      walk_at "sx"
      refine g_allM hy dy ?_
      refine q_bl (q G2 H2 (n1.trans n2)) ?_
      show (decide ((P s0).2 = (0, 0, 0)) && (s0 :: r0).all fun s => decide ((P s).1 = k)) = _
      rw [decide_eq_true h1, Bool.true_and, List.all_map]
      rfl
def sp__links_between (K : PySem.W.Frag) : Sp := fun vs H Q _ => ∃ G a d l ws ls p nm, vs = [.ref a, .ref p] ∧ Y.Ex G H ∧ AlbAt K a d l G H ws ls ∧ LstAt K p G H (nm.map .str) ∧ ∀ q G' H', Nx [] G H G' H' → H q = none → DctAt K q G' H' (lkM (lkB nm ls)) → Q (.ref q) H'
theorem ok__links_between (T : Tx fa fn bx K mg) : FnOk P w K mg base CX0 2 (He.ga K "_links_between") (fdOf K (He.ga K "_links_between")) ["album", "names"] (sp__links_between K) := by
  refine FunD.ok (F__links_between T) sc__links_between (fun vs H Q E h => ?_) (fun cdv A outer s H vs Q E hr h => ?_)
  · obtain ⟨_, _, _, _, _, _, _, _, rfl, _⟩ := h
    rfl
  · obtain ⟨G, a, d, l, ws, ls, p, nm, rfl, e, hA, hL, q⟩ := h
    refine ⟨_, PSs.nox ((pss_cons (ps_set (i := 2) sc__links_between.nd rfl (Or.inl rfl) pe_dnewK)
      (pss_cons (ps_for PassesOwn.never rfl (Y.pi_enumK (K := K) rfl (by rfl) (T.free 5) (pa_cons (Y.pe_meth0C (pv 0) (T.cls 6) (T.meth 7) (ok_Album_links T) (hr.mono (by decide)) (cal_Album_links T) pass0) pa_nil)) (Y.pg_tupK (K := K) (n := 2) rfl rfl (pgs_cons (pg_name (i := 3) sc__links_between.nd rfl (Or.inl rfl)) (pgs_cons (pg_name (i := 4) sc__links_between.nd rfl (Or.inl rfl)) pgs_nil)))
      (pss_one (ps_if (PW.pt (pw_and (pt_cmpR (Y.op_inK (K := K) rfl) (pe_ix (Y.ix_tupK (K := K) rfl) (pv 4) pe_int (fun _ _ => rfl)) (pv 1) (by rfl)) (pw_and1 (pt_cmpR (Y.op_inK (K := K) rfl) (pe_ix (Y.ix_tupK (K := K) rfl) (pv 4) pe_int (fun _ _ => rfl)) (pv 1) (by rfl)))))
      (pss_one (ps_dput (hu_of hr) (pv 2) (pv 3) (pv 4) rfl))
      pss_nil)))
      (pss_one (ps_ret (pv 2)))))), ?_⟩
    walk_at "sx"
    refine g_newD (K := K) e fun q0 H1 n1 hq0 hD => ?_
    walk_at "sx"
    have hA1 := hA.go n1 (by simp) (by simp) (by simp)
    have hL1 := hL.go n1 (by simp)
    obtain ⟨_, _, _, ok, ⟨dx, h1⟩, _⟩ := id hA1
    refine g_mth h1 rfl ?_
    walk_at "sx"
    refine ⟨G, a, d, l, ws, ls, rfl, n1.gh, hA1, fun pl H2 n2 hpl hLl => ?_⟩
    have hq0p : q0 ≠ p := fun z => hL.live (z ▸ hq0)
    have hq0l : q0 ≠ pl := fun z => hD.live (z ▸ hpl)
    have hL2 := hL1.go n2 (by simp)
    refine g_walkEs hLl fun S => ?_
    refine g_forS (K := K) (M := [q0]) (S [q0] (by simp [hq0l.symm])) n2.gh (fun i σ G' H' => ∃ y3 y4, σ = [some (.ref a), some (.ref p), some (.ref q0), y3, y4] ∧ DctAt K q0 G' H' (lkM (lkB nm (ls.take i)))) ⟨_, _, rfl, hD.go n2 (by simp)⟩ ?_ ?_
    · rintro i w v σ' G3 H3 G4 H4 hi n3 ⟨y3, y4, rfl, hD3⟩ n4 dv
      rw [prs_get] at hi
      obtain ⟨d0, hd0, rfl⟩ := Option.map_eq_some_iff.mp hi
      have hil : i < ls.length := (List.getElem?_eq_some_iff.mp hd0).1
      have lok := (ok.lo d0 (List.mem_of_getElem? hd0)).1
      obtain ⟨s, t, x, y, z, rfl, hs, ht⟩ := link_inv lok
      refine g_un2 n4.gh dv fun v1 v2 d1 d2 => ?_
      rw [Nat.zero_add] at d1
      cases dp_int d1
      have n24 : Nx [q0] G H2 G4 H4 := n3.trans n4.pure
      have hL4 := hL2.go n24 (by simp [hq0p.symm])
      have hD4 := hD3.go n4 (by simp)
      have el : (lkM (lkB nm (ls.take i))).length < 100000 := by
        have h1 := lkB_len nm (ls.take i)
        rw [List.length_take] at h1
        have := ok.ll
        unfold lkM
        rw [List.length_map]
        omega
      have keep : ¬ (s ∈ nm ∧ t ∈ nm) → ∃ G3', Nx [q0] G H2 G3' H4 ∧ ∃ y3 y4, [some (V.ref a), some (.ref p), some (.ref q0), some (.int (i : Int)), some v2] = [some (.ref a), some (.ref p), some (.ref q0), y3, y4] ∧ DctAt K q0 G3' H4 (lkM (lkB nm (ls.take (i + 1)))) := fun hc => ⟨G4, n24, _, _, rfl, by
        rw [lkB_take hd0, if_neg (fun z => by rw [Bool.and_eq_true, decide_eq_true_eq, decide_eq_true_eq] at z; exact hc z), List.append_nil]
        exact hD4⟩
      walk_at "sx"
      refine g_ixT (k := 0) n4.gh d2 rfl rfl fun u du => ?_
      cases dp_str du
      walk_at "sx"
      refine g_inSsF hL4 ?_
      walk_at "sx"
      refine g_dec (fun h1 => ?_) (fun h1 => ?_) <;> walk_at "sx"
      rotate_left
      · exact keep (fun z => h1 z.1)
      refine g_ixT (k := 1) n4.gh d2 rfl rfl fun u du => ?_
      cases dp_str du
      walk_at "sx"
      refine g_inSsF hL4 ?_
      walk_at "sx"
      refine g_dec (fun h2 => ?_) (fun h2 => ?_) <;> walk_at "sx"
      rotate_left
      · exact keep (fun z => h2 z.2)
      refine g_dcPut n4.gh hD4 (k := Sum.inl (i : Int)) rfl d2 el fun H5 n5 hD5 => ?_
      refine ⟨G4, n24.trans n5, _, _, rfl, ?_⟩
      rw [lkB_take hd0, if_pos (by rw [Bool.and_eq_true, decide_eq_true_eq, decide_eq_true_eq]; exact ⟨h1, h2⟩)]
      rw [ptM_new (fun hm => ?_)] at hD5
      · unfold lkM at hD5 ⊢
        rw [List.map_append]
        exact hD5
      · unfold lkM at hm
        rw [List.map_map] at hm
        obtain ⟨x, hx, hx2⟩ := List.mem_map.mp hm
        exact lkB_new (List.mem_map.mpr ⟨x, hx, by simpa using hx2⟩)
    · rintro σ' G3 H3 n3 ⟨y3, y4, rfl, hD3⟩
      rw [prs_len, List.take_length] at hD3
      walk_at "sx"
      exact q q0 G3 H3 ((n1.trans n2).pure.trans n3 |>.drop hq0) hq0 hD3
theorem lk_form {d : PyData} (h : linkOk d = true) : ∃ s t x y z, d = .tuple [.str s, .str t, .int x, .int y, .int z] ∧ nameOk s = true ∧ nameOk t = true ∧ s ≠ t ∧ (-99 ≤ x ∧ x ≤ 99) ∧ (-99 ≤ y ∧ y ≤ 99) ∧ -999 ≤ z ∧ z ≤ 999 := by
  obtain ⟨s, t, x, y, z, rfl, hs, ht⟩ := link_inv h
  simp only [linkOk, Bool.and_eq_true] at h
  have wi : ∀ {d : PyData} {lo hi : Int}, within d lo hi = true → ∃ i, d = .int i ∧ lo ≤ i ∧ i ≤ hi := fun {d lo hi} h => by
    cases d with
    | int i => exact ⟨i, rfl, of_decide_eq_true h⟩
    | _ => cases h
  obtain ⟨x, rfl, hx⟩ := wi h.1.1.2
  obtain ⟨y, rfl, hy⟩ := wi h.1.2
  obtain ⟨z, rfl, hz⟩ := wi h.2
  refine ⟨s, t, x, y, z, rfl, hs, ht, fun e => ?_, hx, hy, hz⟩
  subst e
  have e : PyData.eqv (.str s) (.str s) = true := SeqAt.eqv_refl _ (shaped_lay (shaped_fit (fit_name hs) (by simp [PyData.depth])))
  have := h.1.1.1.2
  rw [e] at this
  cases this
theorem nlOk_of {nm : List Str} {ls : List PyData} (hl : ls.length ≤ 60) (h : ∀ v ∈ ls, linkOk v = true) : nlOk nm (lkB nm ls) ∧ nlNd (lkB nm ls) := by
  refine ⟨⟨Nat.le_trans (lkB_len nm ls) (by omega), fun p hp => ?_⟩, ?_⟩
  · obtain ⟨h1, h2, h3, _⟩ := lkB_mem hp
    obtain ⟨s, t, x, y, z, e, _, _, hne, _⟩ := lk_form (h _ h1)
    rw [e] at h2 h3
    exact ⟨s, t, x, y, z, e, h2, h3, hne⟩
  · unfold nlNd lkB
    exact (num_nodup 0 ls).sublist ((List.filter_sublist).map _)
def sp_groups (K : PySem.W.Frag) : Sp := fun vs H Q _ => ∃ G a d l ws ls, vs = [.ref a] ∧ Y.Ex G H ∧ AlbAt K a d l G H ws ls ∧ ∀ o G' H', Nx [] G H G' H' → H o = none → LstAt K o G' H' (gsD (groupsOf (ws.map nmOf) (lkB (ws.map nmOf) ls))) → Q (.ref o) H'
theorem ok_groups (T : Tx fa fn bx K mg) : FnOk P w K mg base CX0 3 (He.ga K "groups") (fdOf K (He.ga K "groups")) ["album"] (sp_groups K) := by
  refine FunD.ok (F_groups T) sc_groups (fun vs H Q E h => ?_) (fun cdv A outer s H vs Q E hr h => ?_)
  · obtain ⟨_, _, _, _, _, _, rfl, _⟩ := h
    rfl
  · obtain ⟨G, a, d, l, ws, ls, rfl, e, hA, q⟩ := h
    refine ⟨_, PSs.nox ((pss_cons (ps_set (i := 1) sc_groups.nd rfl (Or.inl rfl) (Y.pe_meth0C (pv 0) (T.cls 6) (T.meth 10) (ok_Album_names T) (hr.mono (by decide)) (cal_Album_names T) pass0))
      (pss_cons (ps_set (i := 2) sc_groups.nd rfl (Or.inl rfl) (Y.pe_callC (ok__links_between T) (cal__links_between T) (hr.mono (by decide)) (by rfl) pass0 (pa_cons (pv 0) (pa_cons (pv 1) pa_nil))))
      (pss_cons (ps_set (i := 3) sc_groups.nd rfl (Or.inl rfl) (Y.pe_callC (ok__steps_at T) (cal__steps_at T) (hr.mono (by decide)) (by rfl) pass0 (pa_cons (pv 1) (pa_cons (pv 2) pa_nil))))
      (pss_cons (ps_set (i := 4) sc_groups.nd rfl (Or.inl rfl) (pe_lst pa_nil))
      (pss_cons (ps_set (i := 5) sc_groups.nd rfl (Or.inl rfl) pe_dnewK)
      (pss_cons (ps_for PassesOwn.never rfl (Y.pi_listK (K := K) rfl (pv 1)) (pg_name (i := 6) sc_groups.nd rfl (Or.inl rfl))
      (pss_one (ps_if (pt_cmp (pc_dnotin (hu_of hr) (pv 6) (pv 5)))
      (pss_cons (ps_set (i := 7) sc_groups.nd rfl (Or.inr rfl) (Y.pe_callC (ok__walks_from T) (cal__walks_from T) (hr.mono (by decide)) (by rfl) pass0 (pa_cons (pv 6) (pa_cons (pv 2) (pa_cons (pv 3) pa_nil)))))
      (pss_cons (ps_expr (Y.pe_bmK (K := K) rfl PySem.F.plainAttrs_dict PySem.F.slot_dict_update PySem.F.type_dict_update Y.mt_update (pv 5) (pa_cons (pv 7) pa_nil)))
      (pss_one (ps_expr (Y.pe_bmK (K := K) rfl PySem.F.plainAttrs_list PySem.F.slot_list_append PySem.F.type_list_append mt_append (pv 4) (pa_cons (pe_lc (own := [("other", 8)]) rfl sc_groups.nd (Y.pi_listK (K := K) rfl (pv 1)) (blkOk_by (own := [("other", 8)]) (by kernel_rfl)) (fun _ _ _ _ _ => (pg_name (i := 8) sc_groups.nd rfl (Or.inl rfl))) (fun _ _ _ _ _ => (pts_one (pt_cmp (pc_din (hu_of hr) (pv 8) (pv 7))))) (fun _ _ _ _ _ => (pv 8))) pa_nil))))))
      pss_nil)))
      (pss_one (ps_ret (pv 4)))))))))), ?_⟩
    obtain ⟨_, _, _, ok, ⟨dx, h1⟩, _⟩ := id hA
    walk_at "sx"
    refine g_mth h1 rfl ?_
    walk_at "sx"
    refine ⟨G, a, d, l, ws, ls, rfl, e, hA, fun p H1 n1 hp hL => ?_⟩
    walk_at "sx"
    have hnd := ok.nd
    have hvl := ok.vl
    have ev : namesOf ws = (ws.map nmOf).map .str := by unfold namesOf; rw [List.map_map]; rfl
    rw [ev] at hL
    obtain ⟨nok, nnd⟩ := nlOk_of (nm := ws.map nmOf) ok.ll fun v hv => (ok.lo v hv).1
    have hlen : (ws.map nmOf).length ≤ 30 := by rw [List.length_map]; exact hvl
    refine ⟨G, a, d, l, ws, ls, p, ws.map nmOf, rfl, n1.gh, hA.go n1 (by simp) (by simp) (by simp), hL, fun lk G2 H2 n2 hlk hDl => ?_⟩
    generalize hnm : ws.map nmOf = nm at *
    generalize lkB nm ls = nl at *
    walk_at "sx"
    have hL2 := hL.go n2 (by simp)
    refine ⟨G2, p, nm, lk, nl, rfl, n2.gh, hL2, hDl, hnd, by omega, nok, fun st G3 H3 n3 hst hDs => ?_⟩
    walk_at "sx"
    refine g_lstLs (K := K) (L := []) n3.gh .nil (Nat.zero_le _) fun fo H4 n4 hfo hLf => ?_
    walk_at "sx"
    refine g_keNew n4.gh fun pd H5 n5 hpd hPd => ?_
    walk_at "sx"
    have n35 := n4.trans n5
    have hL5 := ((hL2.go n3 (by simp)).go n35 (by simp))
    have hDl5 := ((hDl.go n3 (by simp)).go n35 (by simp))
    have hDs5 := hDs.go n35 (by simp)
    have hLf5 := hLf.go n5 (by simp)
    have fop : fo ≠ p := fun z => (hL2.go n3 (by simp)).live (z ▸ hfo)
    have folk : fo ≠ lk := fun z => (hDl.go n3 (by simp)).live (z ▸ hfo)
    have fost : fo ≠ st := fun z => hDs.live (z ▸ hfo)
    have pdp : pd ≠ p := fun z => ((hL2.go n3 (by simp)).go n4 (by simp)).live (z ▸ hpd)
    have pdlk : pd ≠ lk := fun z => ((hDl.go n3 (by simp)).go n4 (by simp)).live (z ▸ hpd)
    have pdst : pd ≠ st := fun z => (hDs.go n4 (by simp)).live (z ▸ hpd)
    have pdfo : pd ≠ fo := fun z => hLf.live (z ▸ hpd)
    have n15 : Nx [] G H1 G3 H5 := (n2.trans n3).trans n35
    refine g_walkLs hL5 fun S => ?_
    refine g_forS (K := K) (M := [fo, pd]) (S [fo, pd] (by simp [fop.symm, pdp.symm])) n5.gh (fun i σ G' H' => ∃ y6 y7 gs pl n, σ = [some (.ref a), some (.ref p), some (.ref lk), some (.ref st), some (.ref fo), some (.ref pd), y6, y7, none] ∧ LstAt K fo G' H' (gsD gs) ∧ KeysAt pd G' H' n (fun k => ∃ x, k = Sum.inr x ∧ x ∈ pl) ∧ n ≤ 30 * i ∧ gs.length ≤ i ∧ groupsOf nm nl = gs ++ groupsFrom nm nl (nm.drop i) pl) ⟨_, _, [], [], 0, rfl, hLf5, by
      obtain ⟨kvs, h1, h2, h3, h4⟩ := hPd
      exact ⟨kvs, h1, h2, h3, fun k => (h4 k).trans ⟨fun z => z.elim, fun ⟨_, _, z⟩ => by cases z⟩⟩, Nat.zero_le _, Nat.zero_le _, rfl⟩ ?_ ?_
    · rintro i w v σ' G6 H6 G7 H7 hi n6 ⟨y6, y7, gs, pl, n, rfl, hf6, hk6, hn6, hg6, heq⟩ n7 dv
      rw [List.getElem?_map] at hi
      obtain ⟨x, hx, rfl⟩ := Option.map_eq_some_iff.mp hi
      cases dp_str dv
      have hxi : i < nm.length := (List.getElem?_eq_some_iff.mp hx).1
      have hxnm := List.mem_of_getElem? hx
      have hdr : nm.drop i = x :: nm.drop (i + 1) := by
        rw [List.drop_eq_getElem_cons hxi]
        rw [(List.getElem?_eq_some_iff.mp hx).2]
      rw [hdr] at heq
      have n67 : Nx [fo, pd] G3 H5 G7 H7 := n6.trans n7.pure
      have hk7 := hk6.go n7 (by simp)
      have hf7 := hf6.go n7 (by simp)
      have hL7 := hL5.go n67 (by simp [fop.symm, pdp.symm])
      have hDl7 := hDl5.go n67 (by simp [folk.symm, pdlk.symm])
      have hDs7 := hDs5.go n67 (by simp [fost.symm, pdst.symm])
      walk_at "sx"
      refine g_keNi (b := decide (x ∈ pl)) hk7 (k := Sum.inr x) rfl (by rw [decide_eq_true_eq]; exact ⟨fun z => ⟨x, rfl, z⟩, fun ⟨y, e, z⟩ => by cases e; exact z⟩) ?_
      walk_at "sx"
      refine g_ndec (fun hno => ?_) (fun hyes => ?_) <;> walk_at "sx"
      rotate_left
      · refine ⟨G7, n67, _, _, gs, pl, n, rfl, hf7, hk7, by omega, by omega, ?_⟩
        rw [heq]
        show gs ++ (if x ∈ pl then _ else _) = _
        rw [if_pos hyes]
      refine ⟨G7, lk, st, nm, nl, x, rfl, n7.gh, hDl7, hDs7, hnd, by omega, nok, nnd, hxnm, fun wk G8 H8 n8 hwk hDw => ?_⟩
      walk_at "sx"
      have tl : (walksOf nm nl x).length ≤ 30 := Nat.le_trans (walkP_ok nok hxnm nm.length).len hlen
      have hk8 := hk7.go n8 (by simp)
      have pdwk : pd ≠ wk := fun z => hk7.live (z ▸ hwk)
      have fowk : fo ≠ wk := fun z => hf7.live (z ▸ hwk)
      refine g_tyKe hk8 ?_
      walk_at "sx"
      have kk := hDw.keys
      refine g_upd n8.gh hk8 kk pdwk (by unfold tabM; rw [List.length_map]; omega) fun H9 n9 hk9 => ?_
      walk_at "sx"
      have hDw9 := hDw.go n9 (by simp [pdwk.symm])
      have hf9 := (hf7.go n8 (by simp)).go n9 (by simp [pdfo.symm])
      have hL9 := (hL7.go n8 (by simp)).go n9 (by simp [pdp.symm])
      refine g_tyLs hf9 ?_
      walk_at "sx"
      refine g_walkLs hL9 fun S2 => ?_
      intro A hA
      refine g_lcS (K := K) (M := []) (S2 [] (by simp)) n9.gh hA (by simp) (by rw [List.length_map]; exact szl (by omega)) (fun j acc => acc = ((nm.take j).filter fun o => decide (o ∈ keysOf nm nl x)).map .str) rfl (fun j d2 w2 acc G10 H10 hj dw2 n10 _ hjj QE QN k1 k2 => ?_) (fun G10 H10 ys acc hjj n10 g10 h10 da => ?_)
      · rw [List.getElem?_map] at hj
        obtain ⟨z, hz, rfl⟩ := Option.map_eq_some_iff.mp hj
        cases dp_str dw2
        have tk : nm.take (j + 1) = nm.take j ++ [z] := by rw [List.take_add_one, hz]; rfl
        walk_at "sx"
        refine g_dcIn (hDw9.go n10 (by simp)) (k := Sum.inr z) rfl ?_
        rw [tab_keys]
        walk_at "sx"
        refine g_dec (fun hin => ?_) (fun hout => ?_) <;> walk_at "sx"
        · refine k1 _ G10 H10 _ (Nx.refl n10.gh) (.str z) ?_
          rw [hjj, tk, List.filter_append, List.filter_cons_of_pos (by exact decide_eq_true hin)]
          simp
        · refine k2 G10 H10 (Nx.refl n10.gh) ?_
          rw [hjj, tk, List.filter_append, List.filter_cons_of_neg (by rw [decide_eq_true_eq]; exact hout)]
          simp
      · rw [List.length_map, List.take_length] at hjj
        have hLA : LstAt K A G10 H10 acc := ⟨ys, h10, g10, da⟩
        obtain ⟨G11, n11, e11, d11⟩ := hLA.know n10 hA
        have hf11 : LstAt K fo G11 H10 (gsD gs) := hf9.go n11 (by simp)
        walk_at "sx"
        refine g_appLs n11.gh hf11 d11 (by unfold gsD; rw [List.length_map]; omega) fun H12 n12 hf12 => ?_
        have nn : Nx [fo, pd] G7 H7 G11 H12 := ((n8.pure.trans (n9.mono fun w hw => by simp at hw; simp [hw])).trans n11.pure).trans (n12.mono fun w hw => by simp at hw; simp [hw])
        refine ⟨G11, n67.trans nn, _, _, gs ++ [grp nm nl x], pl ++ keysOf nm nl x, n + (tabM (walksOf nm nl x)).length, rfl, ?_, ?_, by unfold tabM; rw [List.length_map]; omega, by simp; omega, ?_⟩
        · have h9 : acc = (grp nm nl x).map .str := hjj
          have e9 : gsD (gs ++ [grp nm nl x]) = gsD gs ++ [.list acc] := by rw [h9]; simp [gsD]
          rw [e9]
          exact hf12
        · have hk12 := (hk9.go n11 (by simp)).go n12 (by simp [pdfo])
          obtain ⟨kvs, h1, h2, h3, h4⟩ := hk12
          refine ⟨kvs, h1, h2, h3, fun k => (h4 k).trans ⟨fun z => ?_, fun z => ?_⟩⟩
          · rcases z with ⟨y, e, z⟩ | z
            · exact ⟨y, e, List.mem_append_left _ z⟩
            · unfold tabM at z
              rw [List.map_map] at z
              obtain ⟨y, hy, e⟩ := List.mem_map.mp z
              exact ⟨y.1, e.symm, List.mem_append_right _ (List.mem_map_of_mem hy)⟩
          · obtain ⟨y, e, z⟩ := z
            rcases List.mem_append.mp z with z | z
            · exact .inl ⟨y, e, z⟩
            · refine .inr ?_
              unfold tabM
              rw [List.map_map]
              obtain ⟨y0, hy0, e0⟩ := List.mem_map.mp z
              exact List.mem_map.mpr ⟨y0, hy0, by rw [e, ← e0]; rfl⟩
        · rw [heq, List.append_assoc]
          show gs ++ (if x ∈ pl then _ else _) = _
          rw [if_neg hno]
          rfl
    · rintro σ' G6 H6 n6 ⟨y6, y7, gs, pl, n, rfl, hf6, hk6, hn6, hg6, heq⟩
      rw [List.length_map, List.drop_length] at heq
      have heq : groupsOf nm nl = gs := by rw [heq]; simp [groupsFrom]
      walk_at "sx"
      have hfoH : H fo = none := (n1.trans (n2.trans n3)).fresh hfo
      have hpdH : H pd = none := ((n1.trans (n2.trans n3)).trans n4).fresh hpd
      refine q fo G6 H6 ?_ hfoH (by rw [heq]; exact hf6)
      exact ((n1.trans n15).pure.trans n6).sub fun x hx => by
        simp only [List.mem_cons, List.not_mem_nil, or_false] at hx
        rcases hx with h | h
        · exact .inr (h ▸ hfoH)
        · exact .inr (h ▸ hpdH)
section
variable {nm : List Str} {ls : List PyData} {nl : List (Nat × PyData)} {s n u v : Str}
theorem grp_mem (ok : nlOk nm nl) (hs : s ∈ nm) : n ∈ grp nm nl s ↔ n ∈ nm ∧ Rch nl s n := by
  unfold grp
  rw [List.mem_filter, decide_eq_true_eq]
  constructor
  · exact fun h => ⟨h.1, (keys_rch ok hs).mp h.2⟩
  · exact fun h => ⟨h.1, (keys_rch ok hs).mpr h.2⟩
theorem grp_own (ok : nlOk nm nl) (hs : s ∈ nm) : s ∈ grp nm nl s := (grp_mem ok hs).mpr ⟨hs, .refl s⟩
theorem grp_same (ok : nlOk nm nl) (hs : s ∈ nm) (h : n ∈ grp nm nl s) : grp nm nl n = grp nm nl s := by
  obtain ⟨hn, hr⟩ := (grp_mem ok hs).mp h
  unfold grp
  refine List.filter_congr fun x hx => ?_
  rw [decide_eq_decide, keys_rch ok hn, keys_rch ok hs]
  exact ⟨fun z => hr.trans z, fun z => hr.symm.trans z⟩
theorem grp_filter : nm.filter (fun x => decide (x ∈ grp nm nl s)) = grp nm nl s := by
  unfold grp
  refine List.filter_congr fun x hx => ?_
  rw [decide_eq_decide, List.mem_filter, decide_eq_true_eq]
  exact ⟨fun z => z.2, fun z => ⟨hx, z⟩⟩
theorem groups_from (ok : nlOk nm nl) : ∀ {r pl : List Str}, (∀ x ∈ r, x ∈ nm) → ∀ g ∈ groupsFrom nm nl r pl, ∃ s ∈ nm, g = grp nm nl s
  | [], _, _, _, h => by cases h
  | x :: r, pl, hr, g, h => by
    unfold groupsFrom at h
    split at h
    · exact groups_from ok (fun y hy => hr y (by simp [hy])) g h
    · rcases List.mem_cons.mp h with rfl | h
      · exact ⟨x, hr x (by simp), rfl⟩
      · exact groups_from ok (fun y hy => hr y (by simp [hy])) g h
theorem groups_cover (ok : nlOk nm nl) : ∀ {r pl : List Str}, (∀ x ∈ r, x ∈ nm) → ∀ x ∈ r, x ∈ pl ∨ ∃ g ∈ groupsFrom nm nl r pl, x ∈ g
  | y :: r, pl, hr, x, hx => by
    have hr' : ∀ z ∈ r, z ∈ nm := fun z hz => hr z (by simp [hz])
    unfold groupsFrom
    by_cases hy : y ∈ pl
    · rw [if_pos hy]
      rcases List.mem_cons.mp hx with rfl | hx
      · exact .inl hy
      · exact groups_cover ok hr' x hx
    · rw [if_neg hy]
      rcases List.mem_cons.mp hx with rfl | hx
      · exact .inr ⟨_, by simp, grp_own ok (hr x (by simp))⟩
      · rcases groups_cover ok (pl := pl ++ keysOf nm nl y) hr' x hx with h | ⟨g, h1, h2⟩
        · rcases List.mem_append.mp h with h | h
          · exact .inl h
          · exact .inr ⟨grp nm nl y, by simp, List.mem_filter.mpr ⟨hr' x hx, decide_eq_true h⟩⟩
        · exact .inr ⟨g, by simp [h1], h2⟩
theorem groups_len : ∀ {r pl : List Str}, (groupsFrom nm nl r pl).length ≤ r.length
  | [], _ => Nat.le_refl _
  | x :: r, pl => by
    unfold groupsFrom
    split
    · exact Nat.le_trans groups_len (by simp)
    · rw [List.length_cons, List.length_cons]
      exact Nat.succ_le_succ groups_len
theorem lkB_sub {g : List Str} (hg : ∀ x ∈ g, x ∈ nm) {q : Nat × PyData} (h : q ∈ lkB nm ls) (h1 : lnA q.2 ∈ g) (h2 : lnB q.2 ∈ g) : q ∈ lkB g ls := by
  unfold lkB at h ⊢
  exact List.mem_filter.mpr ⟨(List.mem_filter.mp h).1, by simp [h1, h2]⟩
/-- within its group a path needs no other links -/
theorem grp_pth (ok : nlOk nm (lkB nm ls)) (hs : s ∈ nm) {k : Nat} (hu : u ∈ grp nm (lkB nm ls) s) (h : Pth (lkB nm ls) k u v) : v ∈ grp nm (lkB nm ls) s ∧ Pth (lkB (grp nm (lkB nm ls) s) ls) k u v := by
  have hg : ∀ x ∈ grp nm (lkB nm ls) s, x ∈ nm := fun x hx => (List.mem_filter.mp hx).1
  induction h with
  | zero => exact ⟨hu, .zero _⟩
  | @succ k u w x h hx ih =>
    obtain ⟨hw, p⟩ := ih hu
    obtain ⟨hwn, hwr⟩ := (grp_mem ok hs).mp hw
    have hin := (steps_in ok hx).1
    have hx2 : x.2.2 ∈ grp nm (lkB nm ls) s := (grp_mem ok hs).mpr ⟨hin, hwr.trans ⟨1, Pth.one hx⟩⟩
    obtain ⟨q, hq, e1, hc⟩ := steps_mem hx
    refine ⟨hx2, ?_⟩
    rcases hc with ⟨h1, h2, h3⟩ | ⟨h1, h2, h3⟩
    · have hq2 := lkB_sub hg hq (h1 ▸ hw) (h3 ▸ hx2)
      have := Pth.succ p (h1 ▸ step_fwd hq2)
      simpa [h3] using this
    · have hq2 := lkB_sub hg hq (h3 ▸ hx2) (h1 ▸ hw)
      have := Pth.succ p (h1 ▸ step_bwd hq2)
      simpa [h3] using this
theorem grp_con (ok : nlOk nm (lkB nm ls)) (hs : s ∈ nm) : ∀ u ∈ grp nm (lkB nm ls) s, ∀ v ∈ grp nm (lkB nm ls) s, Rch (lkB (grp nm (lkB nm ls) s) ls) u v := fun u hu v hv => by
  obtain ⟨_, h1⟩ := (grp_mem ok hs).mp hu
  obtain ⟨_, h2⟩ := (grp_mem ok hs).mp hv
  obtain ⟨k, p⟩ := h1.symm.trans h2
  exact ⟨k, (grp_pth ok hs hu p).2⟩
end
/-- the answer of a group, of an album -/
def grpAns (ws ls : List PyData) (g : List Str) : Ans := ansOf g (lkB g ls) (placeOf (g.headD "") ws : Int)
def plOf (ws ls : List PyData) (n : Str) : Int × Plc :=
  let g := grp (ws.map nmOf) (lkB (ws.map nmOf) ls) n
  ((placeOf (g.headD "") ws : Int), (wyAt (walksOf g (lkB g ls) (g.headD "")) n).2)
def layAns (ws ls : List PyData) : Ans := joinAns (ws.map nmOf) ((groupsOf (ws.map nmOf) (lkB (ws.map nmOf) ls)).map (grpAns ws ls)) (plOf ws ls)
theorem laid_snoc {as : List Ans} {a : Ans} : laidIn (as ++ [a]) = match a with
  | .ring _ => laidIn as
  | .laid md => mergeM (laidIn as) (layM md) := by unfold laidIn; rw [List.foldl_append]; rfl
theorem laid_get {f : Str → Int × Plc} {n : Str} : ∀ (k : Nat) (as : List Ans), as.length = k → (∀ md, Ans.laid md ∈ as → ∀ e ∈ md, e.2 = f e.1) → (∀ x, gtM (laidIn as) (Sum.inr n : Key) = some x → x = plcD (f n)) ∧ ((∃ md, Ans.laid md ∈ as ∧ n ∈ md.map (·.1)) → (gtM (laidIn as) (Sum.inr n : Key)).isSome = true)
  | 0, as, h, _ => by
    rw [List.length_eq_zero_iff.mp h]
    exact ⟨fun x hx => (by cases hx), fun ⟨md, hm, _⟩ => (by cases hm)⟩
  | k + 1, as, h, hv => by
    obtain ⟨m, w, rfl⟩ : ∃ m w, as = m ++ [w] := by
      cases hl : as.reverse with
      | nil => rw [List.reverse_eq_nil_iff.mp hl] at h; cases h
      | cons w r => exact ⟨r.reverse, w, by have := congrArg List.reverse hl; simpa using this⟩
    obtain ⟨i1, i2⟩ := laid_get (f := f) (n := n) k m (by simpa using h) fun md hm => hv md (by simp [hm])
    rw [laid_snoc]
    cases w with
    | ring w =>
      refine ⟨i1, fun ⟨md, hm, hn⟩ => i2 ⟨md, ?_, hn⟩⟩
      rcases List.mem_append.mp hm with hm | hm
      · exact hm
      · simp at hm
    | laid md =>
      show (∀ x, gtM (mergeM (laidIn m) (layM md)) _ = some x → _) ∧ (_ → (gtM (mergeM (laidIn m) (layM md)) _).isSome = true)
      rw [gtM_merge]
      have hl : ∀ x, gtM (layM md).reverse (Sum.inr n : Key) = some x → x = plcD (f n) := fun x hx => by
        unfold gtM at hx
        obtain ⟨p, hp, rfl⟩ := Option.map_eq_some_iff.mp hx
        have h1 := List.find?_some hp
        have h2 := List.mem_reverse.mp (List.mem_of_find?_eq_some hp)
        rw [decide_eq_true_eq] at h1
        obtain ⟨e, he, rfl⟩ := List.mem_map.mp h2
        have : e.1 = n := Sum.inr.inj h1
        show plcD e.2 = _
        rw [hv md (by simp) e he, this]
      constructor
      · intro x hx
        cases hg : gtM (layM md).reverse (Sum.inr n : Key) with
        | some y => rw [hg] at hx; cases hx; exact hl _ hg
        | none => rw [hg] at hx; exact i1 x hx
      · rintro ⟨md2, hm, hn⟩
        rcases List.mem_append.mp hm with hm | hm
        · have := i2 ⟨md2, hm, hn⟩
          cases hg : gtM (layM md).reverse (Sum.inr n : Key) with
          | some y => rfl
          | none => exact this
        · simp only [List.mem_cons, Ans.laid.injEq, List.not_mem_nil, or_false] at hm
          subst hm
          cases hg : gtM (layM md2).reverse (Sum.inr n : Key) with
          | some y => rfl
          | none =>
            have hno := gtM_none.mp hg
            refine absurd ?_ hno
            obtain ⟨e, he, rfl⟩ := List.mem_map.mp hn
            exact List.mem_map.mpr ⟨((Sum.inr e.1 : Key), plcD e.2), List.mem_reverse.mpr (List.mem_map.mpr ⟨e, he, rfl⟩), rfl⟩
theorem ans_laid {nm : List Str} {nl : List (Nat × PyData)} {num : Int} {md : List (Str × (Int × Plc))} (h : ansOf nm nl num = .laid md) : md = nm.map fun n => (n, (num, (wyAt (walksOf nm nl (nm.headD "")) n).2)) := by
  unfold ansOf at h
  split at h
  · cases h
  · injection h with h; exact h.symm
theorem lay_laid {ws ls : List PyData} {md : List (Str × (Int × Plc))} (nok : nlOk (ws.map nmOf) (lkB (ws.map nmOf) ls)) (h : Ans.laid md ∈ (groupsOf (ws.map nmOf) (lkB (ws.map nmOf) ls)).map (grpAns ws ls)) : md.length ≤ ws.length ∧ ∀ e ∈ md, e.2 = plOf ws ls e.1 := by
  obtain ⟨g, hg, e⟩ := List.mem_map.mp h
  obtain ⟨s, hs, rfl⟩ := groups_from nok (fun _ h => h) g hg
  have := ans_laid e
  subst this
  refine ⟨?_, fun e he => ?_⟩
  · rw [List.length_map]
    refine Nat.le_trans (List.length_filter_le _ _) ?_
    rw [List.length_map]
    exact Nat.le_refl _
  · obtain ⟨x, hx, rfl⟩ := List.mem_map.mp he
    unfold plOf
    rw [grp_same nok hs hx]
theorem lay_places {ws ls : List PyData} (nok : nlOk (ws.map nmOf) (lkB (ws.map nmOf) ls)) (hr : ringsIn ((groupsOf (ws.map nmOf) (lkB (ws.map nmOf) ls)).map (grpAns ws ls)) = []) {n : Str} (hn : n ∈ ws.map nmOf) :
    gtM (laidIn ((groupsOf (ws.map nmOf) (lkB (ws.map nmOf) ls)).map (grpAns ws ls))) (Sum.inr n : Key) = some (plcD (plOf ws ls n)) := by
  obtain ⟨h1, h2⟩ := laid_get (f := plOf ws ls) (n := n) _ _ rfl fun md hm => (lay_laid nok hm).2
  have : (gtM (laidIn ((groupsOf (ws.map nmOf) (lkB (ws.map nmOf) ls)).map (grpAns ws ls))) (Sum.inr n : Key)).isSome = true := by
    refine h2 ?_
    rcases groups_cover nok (pl := []) (fun _ h => h) n hn with h | ⟨g, hg, hng⟩
    · cases h
    · have hm : grpAns ws ls g ∈ (groupsOf (ws.map nmOf) (lkB (ws.map nmOf) ls)).map (grpAns ws ls) := List.mem_map_of_mem hg
      cases ha : grpAns ws ls g with
      | ring w =>
        have : w ∈ ringsIn ((groupsOf (ws.map nmOf) (lkB (ws.map nmOf) ls)).map (grpAns ws ls)) := List.mem_filterMap.mpr ⟨_, hm, by rw [ha]⟩
        rw [hr] at this
        cases this
      | laid md =>
        refine ⟨md, ha ▸ hm, ?_⟩
        rw [ans_laid ha, List.map_map]
        exact List.mem_map.mpr ⟨n, hng, rfl⟩
  cases hg : gtM (laidIn ((groupsOf (ws.map nmOf) (lkB (ws.map nmOf) ls)).map (grpAns ws ls))) (Sum.inr n : Key) with
  | some x => rw [h1 x hg]
  | none => rw [hg] at this; cases this
def fourOf : Option PyData → Four
  | some (.tuple [.int a, .int b, .int c, .int d]) => (a, b, c, d)
  | _ => (0, 0, 0, 0)
def keepL (P : Str → Four) (d : PyData) : Bool := match d with
  | .tuple [.str s, .str t, .int a, .int b, .int c] => keepB (P s) (P t) a b c
  | _ => false
def hdOf : List Str → Str
  | s :: _ => s
  | [] => ""
def layB (ws ls : List PyData) (md : List (Key × PyData)) : Bool := allB md (ws.map nmOf) && ((groupsOf (ws.map nmOf) (lkB (ws.map nmOf) ls)).all (fun g => grpF (fun s => fourOf (gtM md (Sum.inr s))) g (placeOf (hdOf g) ws)) && ls.all (keepL fun s => fourOf (gtM md (Sum.inr s))))
theorem place_four {d : PyData} (h : placeB d = true) : ∃ p : Four, d = frD p := by
  cases d with
  | tuple xs =>
    simp only [placeB, Bool.and_eq_true, decide_eq_true_eq] at h
    match xs, h with
    | [a, b, c, d], ⟨_, h⟩ =>
      simp only [List.all_cons, List.all_nil, Bool.and_true, Bool.and_eq_true] at h
      have wi : ∀ {x : PyData}, isWhole x = true → ∃ i, x = .int i := fun {x} h => by
        cases x with
        | int i => exact ⟨i, rfl⟩
        | _ => cases h
      obtain ⟨a, rfl⟩ := wi h.1
      obtain ⟨b, rfl⟩ := wi h.2.1
      obtain ⟨c, rfl⟩ := wi h.2.2.1
      obtain ⟨d, rfl⟩ := wi h.2.2.2
      exact ⟨(a, b, c, d), rfl⟩
    | [], ⟨h, _⟩ | [_], ⟨h, _⟩ | [_, _], ⟨h, _⟩ | [_, _, _], ⟨h, _⟩ => simp at h
    | _ :: _ :: _ :: _ :: _ :: _, ⟨h, _⟩ => simp at h
  | _ => cases h
theorem all_four {md : List (Key × PyData)} {nm : List Str} (h : allB md nm = true) {s : Str} (hs : s ∈ nm) : frOf md s (fourOf (gtM md (Sum.inr s))) := by
  unfold allB at h
  rw [Bool.and_eq_true, List.all_eq_true] at h
  have h2 := h.2 s hs
  unfold frOf
  cases hg : gtM md (Sum.inr s) with
  | none => rw [hg] at h2; cases h2
  | some d =>
    rw [hg] at h2
    obtain ⟨p, rfl⟩ := place_four h2
    rfl
def sp__is_laying (K : PySem.W.Frag) : Sp := fun vs H Q _ => ∃ G a d l ws ls v, vs = [.ref a, v] ∧ Y.Ex G H ∧ AlbAt K a d l G H ws ls ∧ nlOk (ws.map nmOf) (lkB (ws.map nmOf) ls) ∧ num 0 ls = lkB (ws.map nmOf) ls ∧
  ((∃ p md, v = .ref p ∧ DctAt K p G H md ∧ ∀ G' H', Nx [] G H G' H' → Q (.bl (layB ws ls md)) H') ∨ (∃ p xs, v = .ref p ∧ H p = some (.lst xs) ∧ ∀ G' H', Nx [] G H G' H' → Q (.bl false) H') ∨ ∃ x, Dp K G v x ∧ ∀ G' H', Nx [] G H G' H' → Q (.bl false) H')
theorem ok__is_laying (T : Tx fa fn bx K mg) : FnOk P w K mg base CX0 5 (He.ga K "_is_laying") (fdOf K (He.ga K "_is_laying")) ["album", "laying"] (sp__is_laying K) := by
  refine FunD.ok (F__is_laying T) sc__is_laying (fun vs H Q E h => ?_) (fun cdv A outer s H vs Q E hr h => ?_)
  · obtain ⟨_, _, _, _, _, _, _, rfl, _⟩ := h
    rfl
  · obtain ⟨G, a, d, l, ws, ls, v, rfl, e, hA, nok, hnum, hv⟩ := h
    refine ⟨_, PSs.nox ((pss_cons (ps_if (pt_not (pt_val (Y.pe_callC (ok__places_all T) (cal__places_all T) (hr.mono (by decide)) (by rfl) pass0 (pa_cons (pv 0) (pa_cons (pv 1) pa_nil)))))
      (pss_one (ps_ret pe_bl))
      pss_nil)
      (pss_cons (ps_if (pt_not (pt_val (pe_callB (Y.cr_allK (K := K) rfl rfl) (by rfl) (T.free 14) (by decide +kernel) (pa_cons (pe_lc (own := [("names", 3)]) (tt := tYes) rfl sc__is_laying.nd (Y.pi_listK (K := K) rfl (Y.pe_callC (ok_groups T) (cal_groups T) (hr.mono (by decide)) (by rfl) pass0 (pa_cons (pv 0) pa_nil))) (blkOk_by (own := [("names", 3)]) (by kernel_rfl)) (fun _ _ _ _ _ => (pg_name (i := 3) sc__is_laying.nd rfl (Or.inl rfl))) (fun _ _ _ _ _ => pts_nil) (fun _ _ _ _ _ => (Y.pe_callC (ok__places_group T) (cal__places_group T) (hr.mono (by decide)) (by rfl) pass0 (pa_cons (pv 1) (pa_cons (pv 3) (pa_cons (Y.pe_methCS (pv 0) (T.cls 6) (T.meth 12) (ok_Album_index T) (hr.mono (by decide)) (cal_Album_index T) (fun σ => passAt takes0 σ) (pa_cons (pe_ix (Y.ix_listK (K := K) rfl) (pv 3) pe_int (fun _ _ => rfl)) pa_nil)) pa_nil)))))) pa_nil))))
      (pss_one (ps_ret pe_bl))
      pss_nil)
      (pss_one (ps_ret (pe_callB (Y.cr_allK (K := K) rfl rfl) (by rfl) (T.free 14) (by decide +kernel) (pa_cons (pe_lc (own := [("link", 2)]) (tt := tYes) rfl sc__is_laying.nd (Y.pi_listK (K := K) rfl (Y.pe_meth0C (pv 0) (T.cls 6) (T.meth 7) (ok_Album_links T) (hr.mono (by decide)) (cal_Album_links T) pass0)) (blkOk_by (own := [("link", 2)]) (by kernel_rfl)) (fun _ _ _ _ _ => (pg_name (i := 2) sc__is_laying.nd rfl (Or.inl rfl))) (fun _ _ _ _ _ => pts_nil) (fun _ _ _ _ _ => (Y.pe_callC (ok_keeps T) (cal_keeps T) (hr.mono (by decide)) (by rfl) pass0 (pa_cons (pv 1) (pa_cons (pv 2) pa_nil))))) pa_nil))))))), ?_⟩
    obtain ⟨g1, g2, g3, ok, ⟨dx, h1⟩, _⟩ := id hA
    have wl := ok.vl
    have ll := ok.ll
    walk_at "sx"
    rcases hv with ⟨p, md, rfl, hD, q⟩ | ⟨p, xs, rfl, hx, q⟩ | ⟨x, dx2, q⟩
    rotate_left
    · refine ⟨G, a, d, l, ws, ls, .ref p, rfl, e, hA, .inr (.inl ⟨p, xs, rfl, hx, fun G1 H1 n1 => ?_⟩)⟩
      refine ⟨false, rfl, ?_⟩
      refine g_nbool (fun _ => ?_) (fun h => nomatch h)
      walk_at "sx"
      exact q G1 H1 n1
    · refine ⟨G, a, d, l, ws, ls, v, rfl, e, hA, .inr (.inr ⟨x, dx2, fun G1 H1 n1 => ?_⟩)⟩
      refine ⟨false, rfl, ?_⟩
      refine g_nbool (fun _ => ?_) (fun h => nomatch h)
      walk_at "sx"
      exact q G1 H1 n1
    refine ⟨G, a, d, l, ws, ls, .ref p, rfl, e, hA, .inl ⟨p, md, rfl, hD, fun G1 H1 n1 => ?_⟩⟩
    unfold layB at q
    refine ⟨_, rfl, ?_⟩
    refine g_nbool (fun h2 => ?_) (fun h2 => ?_)
    · walk_at "sx"
      exact q_bl (q G1 H1 n1) (by rw [h2]; rfl)
    rw [h2, Bool.true_and] at q
    have hP := fun {s : Str} (hs : s ∈ ws.map nmOf) => all_four h2 hs
    obtain ⟨P, hPe⟩ : ∃ P : Str → Four, P = fun s => fourOf (gtM md (Sum.inr s)) := ⟨_, rfl⟩
    rw [← hPe] at q
    replace hP : ∀ s ∈ ws.map nmOf, frOf md s (P s) := fun s hs => by rw [hPe]; exact hP hs
    have hA1 := hA.go n1 (by simp) (by simp) (by simp)
    have hD1 := hD.go n1 (by simp)
    walk_at "sx"
    refine ⟨G1, a, d, l, ws, ls, rfl, n1.gh, hA1, fun o G2 H2 n2 ho hO => ?_⟩
    have hA2 := hA1.go n2 (by simp) (by simp) (by simp)
    have hD2 := hD1.go n2 (by simp)
    have gfacts : ∀ g ∈ groupsOf (ws.map nmOf) (lkB (ws.map nmOf) ls), g ≠ [] ∧ g.length ≤ 1000 ∧ ∀ s ∈ g, s ∈ ws.map nmOf := fun g hg => by
      obtain ⟨s, hs, rfl⟩ := groups_from nok (fun _ h => h) g hg
      refine ⟨fun z => (by have := grp_own nok hs; rw [z] at this; cases this), ?_, fun x hx => ((grp_mem nok hs).mp hx).1⟩
      have h1 := grp_filter (nm := ws.map nmOf) (nl := lkB (ws.map nmOf) ls) (s := s)
      have h2 := List.length_filter_le (fun x => decide (x ∈ grp (ws.map nmOf) (lkB (ws.map nmOf) ls) s)) (ws.map nmOf)
      rw [h1, List.length_map] at h2
      omega
    have gl : (groupsOf (ws.map nmOf) (lkB (ws.map nmOf) ls)).length ≤ 30 := by
      have := groups_len (nm := ws.map nmOf) (nl := lkB (ws.map nmOf) ls) (r := ws.map nmOf) (pl := [])
      rw [List.length_map] at this
      exact Nat.le_trans this wl
    obtain ⟨gs, hgs⟩ : ∃ gs, gs = groupsOf (ws.map nmOf) (lkB (ws.map nmOf) ls) := ⟨_, rfl⟩
    rw [← hgs] at q hO gfacts gl
    walk_at "sx"
    refine g_walkLs hO fun S => ?_
    intro A hA0
    refine g_lcPS (K := K) (M := []) (es := fun i => ((gs.take i).map fun g => grpF P g (placeOf (hdOf g) ws)).map .bool) (S [] (by simp)) n2.gh hA0 (by simp) (by unfold gsD; rw [List.length_map]; exact szl (by omega)) (by simp) (fun i dd v4 acc G3 H3 hi d4 n3 _ QE QN k1 k2 => ?_) fun G3 H3 n3 hLb => ?_
    · unfold gsD at hi
      rw [List.getElem?_map] at hi
      obtain ⟨g, hg, rfl⟩ := Option.map_eq_some_iff.mp hi
      obtain ⟨f1, f2, f3⟩ := gfacts g (List.mem_of_getElem? hg)
      obtain ⟨s0, r0, rfl⟩ : ∃ s r, g = s :: r := by
        cases g with
        | nil => exact absurd rfl f1
        | cons s r => exact ⟨s, r, rfl⟩
      refine ⟨by first | rfl | exact wipe1, ?_⟩
      walk_at "sx"
      have hA3 := hA2.go n3 (by simp) (by simp) (by simp)
      obtain ⟨_, _, _, _, ⟨dx3, h13⟩, _⟩ := id hA3
      refine g_mth h13 rfl ?_
      walk_at "sx"
      refine g_ixL (k := 0) n3.gh d4 rfl rfl fun v5 d5 => ?_
      cases dp_str d5
      walk_at "sx"
      refine ⟨G3, a, d, l, ws, ls, s0, rfl, n3.gh, hA3, fun hn => ?_, fun _ G4 H4 n4 => ?_⟩
      · have := look_mem' (s := s0) (ws := ws)
        rw [hn, decide_eq_true (f3 s0 (by simp))] at this
        cases this
      walk_at "sx"
      refine ⟨G4, p, v4, md, s0 :: r0, placeOf s0 ws, P, rfl, n4.gh, (hD2.go n3 (by simp)).go n4 (by simp), dp_mono n4.gg d4, by simp, f2, fun s hs => hP s (f3 s hs), fun G5 H5 n5 => ?_⟩
      refine k1 _ G5 H5 _ (n4.trans n5) (.bl _) ?_
      rw [List.take_add_one, hg, List.map_append, List.map_append]
      rfl
    · obtain ⟨ys, hy, _, dy⟩ := hLb
      have gsl : (gsD gs).length = gs.length := by simp [gsD]
      rw [gsl, List.take_length] at dy
      walk_at "sx"
      refine g_allM hy dy ?_
      have al : ∀ (f : List Str → Bool), (gs.map f).all id = gs.all f := fun f => by rw [List.all_map]; rfl
      rw [al]
      refine ⟨_, rfl, ?_⟩
      have n13 := (n1.trans n2).trans n3
      refine g_nbool (fun h3 => ?_) (fun h3 => ?_)
      · walk_at "sx"
        exact q_bl (q G3 H3 n13) (by rw [h3]; rfl)
      rw [h3, Bool.true_and] at q
      have hA3 := hA2.go n3 (by simp) (by simp) (by simp)
      have hD3 := hD2.go n3 (by simp)
      obtain ⟨_, _, _, _, ⟨dx3, h13⟩, _⟩ := id hA3
      walk_at "sx"
      refine g_mth h13 rfl ?_
      walk_at "sx"
      refine ⟨G3, a, d, l, ws, ls, rfl, n3.gh, hA3, fun pl H4 n4 hpl hL4 => ?_⟩
      refine g_walkLs hL4 fun S4 => ?_
      intro B hB
      refine g_lcPS (K := K) (M := []) (es := fun i => ((ls.take i).map (keepL P)).map .bool) (S4 [] (by simp)) n4.gh hB (by simp) (szl (by omega)) (by simp) (fun i dd v4 acc G5 H5 hi d4 n5 _ QE QN k1 k2 => ?_) fun G5 H5 n5 hLb => ?_
      · refine ⟨by first | rfl | exact wipe1, ?_⟩
        walk_at "sx"
        obtain ⟨s, t, x, y, z, rfl, _⟩ := lk_form (ok.lo dd (List.mem_of_getElem? hi)).1
        have hst : s ∈ ws.map nmOf ∧ t ∈ ws.map nmOf := by
          have hm : (0 + i, PyData.tuple [.str s, .str t, .int x, .int y, .int z]) ∈ lkB (ws.map nmOf) ls := by
            rw [← hnum]
            exact List.mem_of_getElem? (i := i) (by rw [num_get, hi]; rfl)
          obtain ⟨s', t', x', y', z', he, h1, h2, _⟩ := nok.2 _ hm
          cases he
          exact ⟨h1, h2⟩
        refine ⟨G5, p, v4, md, s, t, x, y, z, P s, P t, rfl, n5.gh, (hD3.go n4 (by simp)).go n5 (by simp), d4, hP s hst.1, hP t hst.2, fun G6 H6 n6 => ?_⟩
        refine k1 _ G6 H6 _ n6 (.bl _) ?_
        rw [List.take_add_one, hi, List.map_append, List.map_append]
        rfl
      · obtain ⟨ys2, hy2, _, dy2⟩ := hLb
        rw [List.take_length] at dy2
        walk_at "sx"
        refine g_allM hy2 dy2 ?_
        refine q_bl (q G5 H5 ((n13.trans n4).trans n5)) ?_
        rw [List.all_map]
        rfl
/-- what the first item of a tuple of two is -/
def sp__is_paper (K : PySem.W.Frag) : Sp := fun vs H Q _ => ∃ G v k, vs = [v, .str k, .int 2] ∧ Y.Ex G H ∧ SeqAt.shaped (.str k) = true ∧
  ((∃ d, TupIs K G H v d ∧ tupleOf d 2 = false ∧ Q (.bl false) H) ∨ (∃ t a b s, v = .ref t ∧ SqT K G t [a, b] ∧ a = .str s ∧ SeqAt.shaped (.str s) = true ∧ Q (.bl (decide (s = k))) H) ∨ ∃ t a b d, v = .ref t ∧ SqT K G t [a, b] ∧ Dp K G a d ∧ (∀ s, d ≠ .str s) ∧ Q (.bl false) H)
theorem ok__is_paper (T : Tx fa fn bx K mg) : FnOk P w K mg base CX0 2 (He.ga K "_is_paper") (fdOf K (He.ga K "_is_paper")) ["value", "kind", "length"] (sp__is_paper K) := by
  refine FunD.ok (F__is_paper T) sc__is_paper (fun vs H Q E h => ?_) (fun cdv A outer s H vs Q E hr h => ?_)
  · obtain ⟨_, _, _, rfl, _⟩ := h
    rfl
  · obtain ⟨G, v, k, rfl, e, hk, hv⟩ := h
    refine ⟨_, PSs.nox ((pss_one (ps_ret (pe_and (Y.pe_callC (ok_is_tuple_of T) (cal_is_tuple_of T) (hr.mono (by decide)) (by rfl) pass0 (pa_cons (pv 0) (pa_cons (pv 2) pa_nil))) (pe_and (pe_callB (Y.call_isiK (K := K) rfl) (by rfl) (T.free 0) (by decide +kernel) (pa_cons (pe_ix (Y.ix_tupK (K := K) rfl) (pv 0) pe_int (fun _ _ => rfl)) (pa_cons (pe_bltn (v := .ty "str") (by rfl) (T.free 13) (by decide +kernel) rfl) pa_nil))) (pe_one (pe_cmpR (Y.op_eqDK (K := K) rfl hr.units) (pe_ix (Y.ix_tupK (K := K) rfl) (pv 0) pe_int (fun _ _ => rfl)) (pv 1) (nomark _)))))))), ?_⟩
    walk_at "sx"
    rcases hv with ⟨d, hd, h2, q⟩ | ⟨t, a, b, s, rfl, hs, rfl, hsh, q⟩ | ⟨t, a, b, d, rfl, hs, da, hn, q⟩
    · refine ⟨G, v, d, 2, rfl, e, hd, ?_⟩
      rw [h2]
      refine ⟨_, rfl, ?_⟩
      refine g_bool (fun h => nomatch h) (fun _ => ?_)
      exact q
    · refine ⟨G, .ref t, .tuple [.none, .none], 2, rfl, e, .inr (.inl ⟨t, _, _, rfl, hs, rfl, rfl⟩), ?_⟩
      refine ⟨true, rfl, ?_⟩
      refine g_bool (fun _ => ?_) (fun h => nomatch h)
      walk_at "sx"
      refine g_ixTR (k := 0) e hs rfl rfl ?_
      walk_at "sx"
      refine g_isi (K := K) (b := true) (d := .str s) e (.str _) (by rfl) ?_
      refine ⟨true, rfl, ?_⟩
      refine g_bool (fun _ => ?_) (fun h => nomatch h)
      walk_at "sx"
      refine g_ixTR (k := 0) e hs rfl rfl ?_
      walk_at "sx"
      refine g_eqD (K := K) (d := .str s) (d' := .str k) e (.str _) (.str _) hsh hk ?_
      have ee : PyData.eqv (.str s) (.str k) = decide (s = k) := by
        show (s == k) = _
        by_cases h : s = k
        · rw [decide_eq_true h, h]; simp
        · rw [decide_eq_false h]; exact beq_eq_false_iff_ne.mpr h
      rw [ee]
      exact q
    · refine ⟨G, .ref t, .tuple [.none, .none], 2, rfl, e, .inr (.inl ⟨t, _, _, rfl, hs, rfl, rfl⟩), ?_⟩
      refine ⟨true, rfl, ?_⟩
      refine g_bool (fun _ => ?_) (fun h => nomatch h)
      walk_at "sx"
      refine g_ixTR (k := 0) e hs rfl rfl ?_
      walk_at "sx"
      have hb : kitB (tyN d) "str" = some false := by
        cases d with
        | str s => exact absurd rfl (hn s)
        | dict _ => exact (dp_nodict da).elim
        | _ => rfl
      refine g_isi (K := K) (b := false) e da hb ?_
      refine ⟨false, rfl, ?_⟩
      refine g_bool (fun h => nomatch h) (fun _ => ?_)
      exact q
def endsOf (s t : Str) (f : Bool) : PyData := if f = true then .tuple [.str s, .str t] else .tuple [.str t, .str s]
def sp__ends (K : PySem.W.Frag) : Sp := fun vs H Q _ => ∃ G v s t x y z f, vs = [v, .bl f] ∧ Y.Ex G H ∧ Dp K G v (.tuple [.str s, .str t, x, y, z]) ∧ ∀ u G' H', Nx [] G H G' H' → Dp K G' u (endsOf s t f) → Q u H'
theorem ok__ends (T : Tx fa fn bx K mg) : FnOk P w K mg base CX0 1 (He.ga K "_ends") (fdOf K (He.ga K "_ends")) ["link", "forward"] (sp__ends K) := by
  refine FunD.ok (F__ends T) sc__ends (fun vs H Q E h => ?_) (fun cdv A outer s H vs Q E hr h => ?_)
  · obtain ⟨_, _, _, _, _, _, _, _, rfl, _⟩ := h
    rfl
  · obtain ⟨G, v, s, t, x, y, z, f, rfl, e, hd, q⟩ := h
    refine ⟨_, PSs.nox ((pss_cons (ps_asg (pe_slice (Y.sl_tupAK (K := K) rfl) (pv 0) po_none (po_some pe_int)) (Y.pg_tupK (K := K) (n := 2) rfl rfl (pgs_cons (pg_name (i := 2) sc__ends.nd rfl (Or.inl rfl)) (pgs_cons (pg_name (i := 3) sc__ends.nd rfl (Or.inl rfl)) pgs_nil))))
      (pss_one (ps_ret (pe_ifExp (pt_val (pv 1)) (pe_tup (pa_cons (pv 2) (pa_cons (pv 3) pa_nil))) (pe_tup (pa_cons (pv 3) (pa_cons (pv 2) pa_nil)))))))), ?_⟩
    walk_at "sx"
    refine g_slHi (k := 2) e hd rfl fun u G1 H1 n1 du => ?_
    refine g_un2 n1.gh du fun v1 v2 d1 d2 => ?_
    cases dp_str d1
    cases dp_str d2
    walk_at "sx"
    refine g_bool (fun hf => ?_) (fun hf => ?_) <;> walk_at "sx"
    · refine g_tupD (K := K) n1.gh (.cons (.str _) (.cons (.str _) .nil)) (by show 2 ≤ sizeLine; decide) fun p G2 H2 n2 dp => ?_
      exact q _ G2 H2 (n1.trans n2) (by unfold endsOf; rw [if_pos hf]; exact dp)
    · refine g_tupD (K := K) n1.gh (.cons (.str _) (.cons (.str _) .nil)) (by show 2 ≤ sizeLine; decide) fun p G2 H2 n2 dp => ?_
      exact q _ G2 H2 (n1.trans n2) (by unfold endsOf; rw [hf, if_neg (by simp)]; exact dp)
def stepB (d : PyData) (m : Int) : Bool := match d with
  | .tuple [a, .bool _] => within a 0 (m - 1)
  | _ => false
def isBlD (d : PyData) (c : Bool) : Bool := match d with
  | .bool x => decide (x = c)
  | _ => false
theorem bl_of {K : PySem.W.Frag} {G : Hp} {v : V} {d : PyData} (h : Dp K G v d) (c : Bool) : decide (v = .bl c) = isBlD d c := by
  cases d with
  | bool x =>
    cases dp_bl h
    cases x <;> cases c <;> rfl
  | dict _ => exact (dp_nodict h).elim
  | _ =>
    show _ = false
    exact decide_eq_false fun z => by rw [z] at h; cases h
theorem step_bl {a b : PyData} {m : Int} (h : within a 0 (m - 1) = true) : stepB (.tuple [a, b]) m = (isBlD b true || isBlD b false) := by
  cases b with
  | bool c =>
    show within a 0 (m - 1) = _
    rw [h]
    cases c <;> rfl
  | _ => rfl
def sp__is_step (K : PySem.W.Frag) : Sp := fun vs H Q _ => ∃ G v d m, vs = [v, .int m] ∧ Y.Ex G H ∧ Dp K G v d ∧ Q (.bl (stepB d m)) H
theorem ok__is_step (T : Tx fa fn bx K mg) : FnOk P w K mg base CX0 3 (He.ga K "_is_step") (fdOf K (He.ga K "_is_step")) ["value", "many"] (sp__is_step K) := by
  refine FunD.ok (F__is_step T) sc__is_step (fun vs H Q E h => ?_) (fun cdv A outer s H vs Q E hr h => ?_)
  · obtain ⟨_, _, _, _, rfl, _⟩ := h
    rfl
  · obtain ⟨G, v, d, m, rfl, e, hd, q⟩ := h
    refine ⟨_, PSs.nox ((pss_cons (ps_if (PW.pt (pw_or (pt_not (pt_val (Y.pe_callC (ok_is_tuple_of T) (cal_is_tuple_of T) (hr.mono (by decide)) (by rfl) pass0 (pa_cons (pv 0) (pa_cons pe_int pa_nil))))) (pw_or1 (pt_not (pt_val (Y.pe_callC (ok_is_within T) (cal_is_within T) (hr.mono (by decide)) (by rfl) pass0 (pa_cons (pe_ix (Y.ix_tupK (K := K) rfl) (pv 0) pe_int (fun _ _ => rfl)) (pa_cons pe_int (pa_cons (pe_op op_sub (pv 1) pe_int) pa_nil)))))))))
      (pss_one (ps_ret pe_bl))
      pss_nil)
      (pss_one (ps_ret (pe_or (pe_cmpR Y.op_isA (pe_ix (Y.ix_tupK (K := K) rfl) (pv 0) pe_int (fun _ _ => rfl)) pe_bl (nomark _)) (pe_one (pe_cmpR Y.op_isA (pe_ix (Y.ix_tupK (K := K) rfl) (pv 0) pe_int (fun _ _ => rfl)) pe_bl (nomark _)))))))), ?_⟩
    walk_at "sx"
    refine ⟨G, v, d, 2, rfl, e, .inl hd, ?_⟩
    refine ⟨_, rfl, ?_⟩
    refine g_nbool (fun h1 => ?_) (fun h1 => ?_)
    · walk_at "sx"
      refine q_bl q ?_
      unfold stepB
      split
      · cases h1
      · rfl
    obtain ⟨a, b, rfl⟩ : ∃ a b, d = .tuple [a, b] := by
      cases d with
      | tuple xs =>
        simp only [tupleOf, decide_eq_true_eq] at h1
        match xs, h1 with
        | [a, b], _ => exact ⟨a, b, rfl⟩
        | [], h | [_], h => simp at h
        | _ :: _ :: _ :: _, h => simp at h; omega
      | _ => cases h1
    walk_at "sx"
    refine g_ixT (k := 0) e hd rfl rfl fun v1 d1 => ?_
    walk_at "sx"
    refine ⟨G, v1, a, 0, m - 1, rfl, e, d1, ?_⟩
    refine ⟨_, rfl, ?_⟩
    refine g_nbool (fun h2 => ?_) (fun h2 => ?_)
    · walk_at "sx"
      refine q_bl q ?_
      unfold stepB
      split
      · rename_i heq
        cases heq
        exact h2
      · rfl
    walk_at "sx"
    refine g_ixT (k := 1) e hd rfl rfl fun v2 d2 => ?_
    rw [step_bl h2] at q
    walk_at "sx"
    refine g_isA ?_
    rw [bl_of d2]
    refine ⟨_, rfl, ?_⟩
    refine g_bool (fun h3 => ?_) (fun h3 => ?_)
    · rw [h3] at q
      exact q
    walk_at "sx"
    refine g_ixT (k := 1) e hd rfl rfl fun v3 d3 => ?_
    walk_at "sx"
    refine g_isA ?_
    rw [bl_of d3]
    rw [h3, Bool.false_or] at q
    exact q
def endP (d : PyData) (f : Bool) : Str × Str := match d with
  | .tuple (.str s :: .str t :: _) => if f = true then (s, t) else (t, s)
  | _ => ("", "")
def edP (e : Str × Str) : PyData := .tuple [.str e.1, .str e.2]
def cycB (E : List (Str × Str)) : Bool := (List.range E.length).all fun k => decide (((E[if k = 0 then E.length - 1 else k - 1]?).getD ("", "")).2 = ((E[k]?).getD ("", "")).1)
def stOf (d : PyData) : Nat × Bool := match d with
  | .tuple [.int i, .bool f] => (i.toNat, f)
  | _ => (0, false)
def wayEnds (ls : List PyData) (w : Way) : List (Str × Str) := w.map fun x => endP ((ls[x.1]?).getD .none) x.2
def ringB (ls : List PyData) (d : PyData) : Bool := match d with
  | .tuple xs => !xs.isEmpty && (xs.all (fun x => stepB x ls.length) && cycB (wayEnds ls (xs.map stOf)))
  | _ => false
theorem atI_last {α : Type} {xs : List α} {v : α} (h : xs[xs.length - 1]? = some v) : atI xs (-1) = some v := by
  have hl := (List.getElem?_eq_some_iff.mp h).1
  unfold atI ixN
  rw [if_neg (by decide), if_pos (by omega)]
  show xs[((-1 : Int) + (xs.length : Int)).toNat]? = some v
  rw [show ((-1 : Int) + (xs.length : Int)).toNat = xs.length - 1 by omega]
  exact h
theorem g_ixLast {K : PySem.W.Frag} {G H : Hp} {p : Addr} {L : List PyData} {d : PyData} {i : Int} {Q : VK} (r : LstAt K p G H L) (hi : L[L.length - 1]? = some d) (hj : i = -1) (q : ∀ v, Dp K G v d → Q v H) : rIxL K (.ref p) (.int i) H Q := by
  obtain ⟨xs, h, g, da⟩ := r
  obtain ⟨v, hv, dv⟩ := dpAll_get da hi
  subst hj
  exact ⟨p, xs, -1, v, rfl, rfl, .of h, atI_last (by rw [dpAll_len da]; exact hv), q v dv⟩
theorem cyc_at {E : List (Str × Str)} {k : Nat} (h : k < E.length) : ∃ a b, E[if k = 0 then E.length - 1 else k - 1]? = some a ∧ E[k]? = some b := by
  have h2 : (if k = 0 then E.length - 1 else k - 1) < E.length := by split <;> omega
  exact ⟨E[if k = 0 then E.length - 1 else k - 1], E[k], List.getElem?_eq_getElem h2, List.getElem?_eq_getElem h⟩
theorem step_form {d : PyData} {m : Nat} (h : stepB d m = true) : ∃ i : Nat, ∃ f, d = .tuple [.int (i : Int), .bool f] ∧ i < m := by
  unfold stepB at h
  split at h
  · rename_i a f
    cases a with
    | int i =>
      have := of_decide_eq_true h
      obtain ⟨i, rfl⟩ := Int.eq_ofNat_of_zero_le this.1
      exact ⟨i, f, rfl, by omega⟩
    | _ => cases h
  · cases h
def sp__is_ring (K : PySem.W.Frag) : Sp := fun vs H Q _ => ∃ G a d l ws ls v x, vs = [.ref a, v] ∧ Y.Ex G H ∧ AlbAt K a d l G H ws ls ∧ Dp K G v x ∧ fit x = true ∧ ∀ G' H', Nx [] G H G' H' → Q (.bl (ringB ls x)) H'
theorem ok__is_ring (T : Tx fa fn bx K mg) : FnOk P w K mg base CX0 4 (He.ga K "_is_ring") (fdOf K (He.ga K "_is_ring")) ["album", "ring"] (sp__is_ring K) := by
  refine FunD.ok (F__is_ring T) sc__is_ring (fun vs H Q E h => ?_) (fun cdv A outer s H vs Q E hr h => ?_)
  · obtain ⟨_, _, _, _, _, _, _, _, rfl, _⟩ := h
    rfl
  · obtain ⟨G, a, d, l, ws, ls, v, x, rfl, e, hA, hv, hf, q⟩ := h
    refine ⟨_, PSs.nox ((pss_cons (ps_set (i := 2) sc__is_ring.nd rfl (Or.inr rfl) (Y.pe_meth0C (pv 0) (T.cls 6) (T.meth 7) (ok_Album_links T) (hr.mono (by decide)) (cal_Album_links T) pass0))
      (pss_cons (ps_if (PW.pt (pw_or (pt_not (pt_val (pe_callB (Y.call_isiK (K := K) rfl) (by rfl) (T.free 0) (by decide +kernel) (pa_cons (pv 1) (pa_cons (pe_bltn (v := .ty "tuple") (by rfl) (T.free 4) (by decide +kernel) rfl) pa_nil))))) (pw_or1 (pt_not (Y.pt_truthK (K := K) rfl (pv 1) (by intro _; rfl))))))
      (pss_one (ps_ret pe_bl))
      pss_nil)
      (pss_cons (ps_if (pt_not (pt_val (pe_callB (Y.cr_allK (K := K) rfl rfl) (by rfl) (T.free 14) (by decide +kernel) (pa_cons (pe_lc (own := [("step", 7)]) (tt := tYes) rfl sc__is_ring.nd (Y.pi_tupK (K := K) rfl (pv 1)) (blkOk_by (own := [("step", 7)]) (by kernel_rfl)) (fun _ _ _ _ _ => (pg_name (i := 7) sc__is_ring.nd rfl (Or.inl rfl))) (fun _ _ _ _ _ => pts_nil) (fun _ _ _ _ _ => (Y.pe_callC (ok__is_step T) (cal__is_step T) (hr.mono (by decide)) (by rfl) pass0 (pa_cons (pv 7) (pa_cons (pe_callB (Y.call_lenK (K := K) rfl) (by rfl) (T.free 3) (by decide +kernel) (pa_cons (pv 2) pa_nil)) pa_nil))))) pa_nil))))
      (pss_one (ps_ret pe_bl))
      pss_nil)
      (pss_cons (ps_set (i := 3) sc__is_ring.nd rfl (Or.inr rfl) (pe_lc (own := [("number", 4), ("forward", 5)]) (tt := tYes) rfl sc__is_ring.nd (Y.pi_tupK (K := K) rfl (pv 1)) (blkOk_by (own := [("number", 4), ("forward", 5)]) (by kernel_rfl)) (fun _ _ _ _ _ => (Y.pg_tupK (K := K) (n := 2) rfl rfl (pgs_cons (pg_name (i := 4) sc__is_ring.nd rfl (Or.inl rfl)) (pgs_cons (pg_name (i := 5) sc__is_ring.nd rfl (Or.inl rfl)) pgs_nil)))) (fun _ _ _ _ _ => pts_nil) (fun _ _ _ _ _ => (Y.pe_callC (ok__ends T) (cal__ends T) (hr.mono (by decide)) (by rfl) pass0 (pa_cons (pe_ix (Y.ix_listK (K := K) rfl) (pv 2) (pv 4) (fun _ _ => rfl)) (pa_cons (pv 5) pa_nil))))))
      (pss_one (ps_ret (pe_callB (Y.cr_allK (K := K) rfl rfl) (by rfl) (T.free 14) (by decide +kernel) (pa_cons (pe_lc (own := [("at", 6)]) (tt := tYes) rfl sc__is_ring.nd (pi_range1 (by rfl) (T.free 16) (pa_cons (pe_callB (Y.call_lenK (K := K) rfl) (by rfl) (T.free 3) (by decide +kernel) (pa_cons (pv 3) pa_nil)) pa_nil)) (blkOk_by (own := [("at", 6)]) (by kernel_rfl)) (fun _ _ _ _ _ => (pg_name (i := 6) sc__is_ring.nd rfl (Or.inl rfl))) (fun _ _ _ _ _ => pts_nil) (fun _ _ _ _ _ => (pe_cmpR op_eq (pe_ix (Y.ix_tupK (K := K) rfl) (pe_ix (Y.ix_listK (K := K) rfl) (pv 3) (pe_op op_sub (pv 6) pe_int) (fun _ _ => rfl)) pe_int (fun _ _ => rfl)) (pe_ix (Y.ix_tupK (K := K) rfl) (pe_ix (Y.ix_listK (K := K) rfl) (pv 3) (pv 6) (fun _ _ => rfl)) pe_int (fun _ _ => rfl)) (nomark _)))) pa_nil))))))))), ?_⟩
    obtain ⟨g1, g2, g3, ok, ⟨dx, h1⟩, _⟩ := id hA
    have ll := ok.ll
    walk_at "sx"
    refine g_mth h1 rfl ?_
    walk_at "sx"
    refine ⟨G, a, d, l, ws, ls, rfl, e, hA, fun p H1 n1 hp hL => ?_⟩
    walk_at "sx"
    by_cases hx : ∃ xs, x = .tuple xs
    rotate_left
    · have hb : kitB (tyN x) "tuple" = some false := by
        cases x with
        | dict _ => exact (dp_nodict hv).elim
        | tuple xs => exact absurd ⟨xs, rfl⟩ hx
        | _ => rfl
      refine g_isi n1.gh (dp_mono n1.gg hv) hb ?_
      refine ⟨false, rfl, ?_⟩
      refine g_nbool (fun _ => ?_) (fun h => nomatch h)
      walk_at "sx"
      refine q_bl (q G H1 n1) ?_
      cases x with
      | tuple xs => exact absurd ⟨xs, rfl⟩ hx
      | _ => rfl
    obtain ⟨xs, rfl⟩ := hx
    refine g_isi (b := true) n1.gh (dp_mono n1.gg hv) (by rfl) ?_
    refine ⟨true, rfl, ?_⟩
    refine g_nbool (fun h => nomatch h) (fun _ => ?_)
    walk_at "sx"
    have hv1 := dp_mono n1.gg hv
    have hxl := (fit_tup hf).1
    obtain ⟨t0, us, et, hus, dus⟩ := dp_tup hv1
    have ul := dpAll_len dus
    subst et
    refine ⟨!us.isEmpty, .inr (.inl ⟨us, n1.gh.seqT hus, rfl⟩), ?_⟩
    have eemp : us.isEmpty = xs.isEmpty := by cases us <;> cases xs <;> simp at ul ⊢
    rw [eemp]
    unfold ringB at q
    refine g_nbool (fun h2 => ?_) (fun h2 => ?_)
    · walk_at "sx"
      exact q_bl (q G H1 n1) (by simp only [h2]; rfl)
    simp only [h2, Bool.true_and] at q
    walk_at "sx"
    refine g_walkT n1.gh hv1 fun t1 et1 S => ?_
    intro A hA0
    refine g_lcPS (K := K) (M := []) (es := fun i => ((xs.take i).map fun x => stepB x ls.length).map .bool) (S []) n1.gh hA0 (by simp) (szl (by omega)) (by simp) (fun i dd v4 acc G2 H2 hi d4 n2 _ QE QN k1 k2 => ?_) fun G2 H2 n2 hLb => ?_
    · refine ⟨by first | rfl | exact wipe1, ?_⟩
      walk_at "sx"
      refine g_lenLs (hL.go n2 (by simp)) ?_
      refine ⟨G2, v4, dd, _, rfl, n2.gh, d4, ?_⟩
      refine k1 _ G2 H2 _ (Nx.refl n2.gh) (.bl _) ?_
      rw [List.take_add_one, hi, List.map_append, List.map_append]
      rfl
    obtain ⟨ys, hy, _, dy⟩ := hLb
    rw [List.take_length] at dy
    walk_at "sx"
    refine g_allM hy dy ?_
    have al : ∀ (f : PyData → Bool), (xs.map f).all id = xs.all f := fun f => by rw [List.all_map]; rfl
    rw [al]
    refine ⟨_, rfl, ?_⟩
    refine g_nbool (fun h3 => ?_) (fun h3 => ?_)
    · walk_at "sx"
      exact q_bl (q G2 H2 (n1.trans n2)) (by rw [h3]; rfl)
    rw [h3, Bool.true_and] at q
    have hst : ∀ x ∈ xs, ∃ i : Nat, ∃ f, x = .tuple [.int (i : Int), .bool f] ∧ i < ls.length := fun x hx => step_form (List.all_eq_true.mp h3 x hx)
    have n12 := n1.trans n2
    have hL2 := hL.go n2 (by simp)
    walk_at "sx"
    refine g_walkT n2.gh (dp_mono n2.gg hv1) fun t2 et2 S2 => ?_
    intro B hB0
    refine g_lcPS (K := K) (M := []) (es := fun i => ((wayEnds ls ((xs.map stOf).take i))).map edP) (S2 []) n2.gh hB0 (by simp) (szl (by omega)) (by simp [wayEnds]) (fun i dd v4 acc G3 H3 hi d4 n3 _ QE QN k1 k2 => ?_) fun G3 H3 n3 hE => ?_
    · obtain ⟨j, f, rfl, hj⟩ := hst dd (List.mem_of_getElem? hi)
      refine g_un2 n3.gh d4 fun u1 u2 e1 e2 => ?_
      cases dp_int e1
      cases dp_bl e2
      refine ⟨by first | rfl | exact wipe2, ?_⟩
      walk_at "sx"
      obtain ⟨s, t, x1, x2, x3, hl, _⟩ := lk_form (ok.lo ls[j] (List.getElem_mem hj)).1
      have hg : ls[j]? = some (.tuple [.str s, .str t, .int x1, .int x2, .int x3]) := by rw [← hl]; simp [hj]
      refine g_ixLs (hL2.go n3 (by simp)) (k := j) hg rfl fun v5 d5 => ?_
      walk_at "sx"
      refine ⟨G3, v5, s, t, _, _, _, f, rfl, n3.gh, d5, fun u G4 H4 n4 du => ?_⟩
      refine k1 _ G4 H4 _ n4 du ?_
      unfold wayEnds
      have hm : (xs.map stOf)[i]? = some (j, f) := by
        rw [List.getElem?_map, hi]
        show some (stOf (.tuple [.int (j : Int), .bool f])) = _
        simp [stOf]
      rw [List.take_add_one, hm, List.map_append, List.map_append]
      congr 1
      show [edP (endP ((ls[j]?).getD .none) f)] = [endsOf s t f]
      rw [hg]
      show [edP (if f = true then (s, t) else (t, s))] = _
      unfold endsOf edP
      cases f <;> rfl
    rw [show (wayEnds ls ((xs.map stOf).take xs.length)) = wayEnds ls (xs.map stOf) by rw [List.take_of_length_le (by simp)]] at hE
    have El : (wayEnds ls (xs.map stOf)).length = xs.length := by simp [wayEnds]
    have hE0 : ∀ e ∈ wayEnds ls (xs.map stOf), True := fun _ _ => trivial
    generalize wayEnds ls (xs.map stOf) = E at hE El q hE0
    walk_at "sx"
    refine g_lenLs hE ?_
    rw [List.length_map]
    refine g_walkR (by omega) (by omega) ?_
    intro C hC0
    rw [show ((E.length : Int)).toNat = E.length by omega]
    refine g_lcPS (K := K) (M := []) (es := fun i => (((List.range E.length).take i).map fun k => decide (((E[if k = 0 then E.length - 1 else k - 1]?).getD ("", "")).2 = ((E[k]?).getD ("", "")).1)).map .bool) (src_rng 0 _) n3.gh hC0 (by simp) (by rw [rng_len]; exact szl (by omega)) (by simp) (fun i dd v4 acc G4 H4 hi d4 n4 _ QE QN k1 k2 => ?_) fun G4 H4 n4 hLb => ?_
    · obtain ⟨hir, rfl⟩ := rng_get hi
      cases dp_int d4
      have hj : (List.range E.length)[i]? = some i := List.getElem?_range hir
      obtain ⟨ea, eb, ha, hb⟩ := cyc_at hir
      have hE4 := hE.go n4 (by simp)
      refine ⟨by first | rfl | exact wipe1, ?_⟩
      walk_at "sx"
      have get1 : ∀ {Q' : VK}, (∀ v, Dp K G4 v (edP ea) → Q' v H4) → rIxL K (.ref B) (.int ((i : Int) - 1)) H4 Q' := fun qq => by
        by_cases h0 : i = 0
        · subst h0
          rw [if_pos rfl] at ha
          exact g_ixLast hE4 (by rw [List.length_map, List.getElem?_map, ha]; rfl) (by omega) qq
        · rw [if_neg h0] at ha
          exact g_ixLs hE4 (k := i - 1) (by rw [List.getElem?_map, ha]; rfl) (by omega) qq
      refine get1 fun v5 d5 => ?_
      walk_at "sx"
      refine g_ixT (k := 1) n4.gh d5 rfl rfl fun v6 d6 => ?_
      cases dp_str d6
      walk_at "sx"
      refine g_ixLs hE4 (k := i) (d := edP eb) (by rw [List.getElem?_map, hb]; rfl) rfl fun v7 d7 => ?_
      walk_at "sx"
      refine g_ixT (k := 0) n4.gh d7 rfl rfl fun v8 d8 => ?_
      cases dp_str d8
      walk_at "sx"
      refine k1 _ G4 H4 _ (Nx.refl n4.gh) (.bl _) ?_
      rw [List.take_add_one, hj, List.map_append, List.map_append]
      congr 1
      simp [ha, hb]
    · obtain ⟨ys2, hy2, _, dy2⟩ := hLb
      rw [rng_len, List.take_of_length_le (by simp)] at dy2
      walk_at "sx"
      refine g_allM hy2 dy2 ?_
      refine q_bl (q G4 H4 ((n12.trans n3).trans n4)) ?_
      unfold cycB
      rw [List.all_map]
      rfl
def sumW (ls : List PyData) (w : Way) : Plc := w.foldl (fun p x => behind p ((ls[x.1]?).getD .none) x.2) (0, 0, 0)
theorem sumW_snoc {ls : List PyData} {w : Way} {x : Nat × Bool} : sumW ls (w ++ [x]) = behind (sumW ls w) ((ls[x.1]?).getD .none) x.2 := by
  unfold sumW
  rw [List.foldl_append]
  rfl
def sp_ring_sum (K : PySem.W.Frag) : Sp := fun vs H Q _ => ∃ G a d l ws ls v w, vs = [.ref a, v] ∧ Y.Ex G H ∧ AlbAt K a d l G H ws ls ∧ Dp K G v (wayD w) ∧ (∀ x ∈ w, x.1 < ls.length) ∧
  ∀ u G' H', Nx [] G H G' H' → Dp K G' u (plD (sumW ls w)) → Q u H'
theorem ok_ring_sum (T : Tx fa fn bx K mg) : FnOk P w K mg base CX0 2 (He.ga K "ring_sum") (fdOf K (He.ga K "ring_sum")) ["album", "ring"] (sp_ring_sum K) := by
  refine FunD.ok (F_ring_sum T) sc_ring_sum (fun vs H Q E h => ?_) (fun cdv A outer s H vs Q E hr h => ?_)
  · obtain ⟨_, _, _, _, _, _, _, _, rfl, _⟩ := h
    rfl
  · obtain ⟨G, a, d, l, ws, ls, v, w, rfl, e, hA, hv, hw, q⟩ := h
    refine ⟨_, PSs.nox ((pss_cons (ps_set (i := 2) sc_ring_sum.nd rfl (Or.inl rfl) (Y.pe_meth0C (pv 0) (T.cls 6) (T.meth 7) (ok_Album_links T) (hr.mono (by decide)) (cal_Album_links T) pass0))
      (pss_cons (ps_set (i := 3) sc_ring_sum.nd rfl (Or.inl rfl) (pe_glob (v := .ref (He.ga K "ORIGIN")) rfl (T.glo 8) rfl))
      (pss_cons (ps_for PassesOwn.never rfl (Y.pi_tupK (K := K) rfl (pv 1)) (Y.pg_tupK (K := K) (n := 2) rfl rfl (pgs_cons (pg_name (i := 4) sc_ring_sum.nd rfl (Or.inl rfl)) (pgs_cons (pg_name (i := 5) sc_ring_sum.nd rfl (Or.inl rfl)) pgs_nil)))
      (pss_one (ps_set (i := 3) sc_ring_sum.nd rfl (Or.inl rfl) (Y.pe_callC (ok__place_behind T) (cal__place_behind T) (hr.mono (by decide)) (by rfl) pass0 (pa_cons (pv 3) (pa_cons (pe_ix (Y.ix_listK (K := K) rfl) (pv 2) (pv 4) (fun _ _ => rfl)) (pa_cons (pv 5) pa_nil)))))))
      (pss_one (ps_ret (pv 3))))))), ?_⟩
    obtain ⟨g1, g2, g3, ok, ⟨dx, h1⟩, _⟩ := id hA
    walk_at "sx"
    refine g_mth h1 rfl ?_
    walk_at "sx"
    refine ⟨G, a, d, l, ws, ls, rfl, e, hA, fun p H1 n1 hp hL => ?_⟩
    walk_at "sx"
    have dO : Dp K G (.ref (He.ga K "ORIGIN")) (plD (0, 0, 0)) := tupB_ok (ns := [0, 0, 0]) (tup_ORIGIN T) (by decide)
    refine g_walkT n1.gh (dp_mono n1.gg hv) fun t et S => ?_
    refine g_forS (K := K) (M := []) (S []) n1.gh (fun i σ G' H' => ∃ u y4 y5, σ = [some (.ref a), some v, some (.ref p), some u, y4, y5] ∧ Dp K G' u (plD (sumW ls (w.take i))) ∧ LstAt K p G' H' ls) ⟨_, _, _, rfl, dO, hL⟩ ?_ ?_
    · rintro i z x σ' G2 H2 G3 H3 hi n2 ⟨u, y4, y5, rfl, du, hL2⟩ n3 dx
      rw [List.getElem?_map] at hi
      obtain ⟨y, hy, rfl⟩ := Option.map_eq_some_iff.mp hi
      have hL3 := hL2.go n3 (by simp)
      have hyl := hw y (List.mem_of_getElem? hy)
      refine g_un2 n3.gh dx fun u1 u2 e1 e2 => ?_
      cases dp_int e1
      cases dp_bl e2
      obtain ⟨s, t', x1, x2, x3, hl, _⟩ := lk_form (ok.lo ls[y.1] (List.getElem_mem hyl)).1
      have hg : ls[y.1]? = some (.tuple [.str s, .str t', .int x1, .int x2, .int x3]) := by rw [← hl]; simp [hyl]
      walk_at "sx"
      refine g_ixLs hL3 (k := y.1) hg rfl fun v3 d3 => ?_
      walk_at "sx"
      refine ⟨G3, u, v3, _, s, t', x1, x2, x3, y.2, rfl, n3.gh, dp_mono n3.gg du, d3, fun v4 G4 H4 n4 d4 => ?_⟩
      walk_at "sx"
      refine ⟨G4, (n2.trans n3).trans n4, v4, _, _, rfl, ?_, hL3.go n4 (by simp)⟩
      rw [List.take_add_one, hy]
      show Dp K G4 v4 (plD (sumW ls (w.take i ++ [y])))
      rw [sumW_snoc, hg]
      exact d4
    · rintro σ' G2 H2 n2 ⟨u, y4, y5, rfl, du, hL2⟩
      rw [List.length_map, List.take_length] at du
      walk_at "sx"
      exact q u G2 H2 (n1.trans n2) du
def sumOf (ls : List PyData) (d : PyData) : Plc := match d with
  | .tuple xs => sumW ls (xs.map stOf)
  | _ => (0, 0, 0)
def judR (ls : List PyData) (y : PyData) : Bool := ringB ls y && !decide (sumOf ls y = (0, 0, 0))
def judB (ls : List PyData) (x : PyData) : Bool := match x with
  | .tuple [.str s, y] => decide (s = "ring") && judR ls y
  | _ => false
theorem ring_way {ls : List PyData} {y : PyData} (h : ringB ls y = true) : ∃ w : Way, y = wayD w ∧ (∀ x ∈ w, x.1 < ls.length) ∧ sumOf ls y = sumW ls w := by
  cases y with
  | tuple xs =>
    simp only [ringB, Bool.and_eq_true, List.all_eq_true] at h
    have hst : ∀ x ∈ xs, waD (stOf x) = x ∧ (stOf x).1 < ls.length := fun x hx => by
      obtain ⟨i, f, rfl, hi⟩ := step_form (h.2.1 x hx)
      refine ⟨?_, by simpa [stOf] using hi⟩
      simp [stOf, waD]
    refine ⟨xs.map stOf, ?_, fun x hx => ?_, rfl⟩
    · unfold wayD
      rw [List.map_map]
      congr 1
      have : xs.map (waD ∘ stOf) = xs.map id := List.map_congr_left fun x hx => (hst x hx).1
      rw [this, List.map_id]
    · obtain ⟨z, hz, rfl⟩ := List.mem_map.mp hx
      exact (hst z hz).2
  | _ => cases h
/-- what judges is asked: a laid paper over a dict, over a list; data; another tuple of two; a list -/
def sp_judges (K : PySem.W.Frag) : Sp := fun vs H Q _ => ∃ G a d l ws ls v, vs = [.ref a, v] ∧ Y.Ex G H ∧ AlbAt K a d l G H ws ls ∧ nlOk (ws.map nmOf) (lkB (ws.map nmOf) ls) ∧ num 0 ls = lkB (ws.map nmOf) ls ∧
  ((∃ t p md, v = .ref t ∧ SqT K G t [.str "laid", .ref p] ∧ DctAt K p G H md ∧ ∀ G' H', Nx [] G H G' H' → Q (.bl (layB ws ls md)) H') ∨
   (∃ t p xs, v = .ref t ∧ SqT K G t [.str "laid", .ref p] ∧ H p = some (.lst xs) ∧ ∀ G' H', Nx [] G H G' H' → Q (.bl false) H') ∨
   (∃ x, Dp K G v x ∧ fit x = true ∧ (∀ y, x ≠ .tuple [.str "laid", y]) ∧ ∀ G' H', Nx [] G H G' H' → Q (.bl (judB ls x)) H') ∨
   (∃ t s b, v = .ref t ∧ SqT K G t [.str s, b] ∧ SeqAt.shaped (.str s) = true ∧ s ≠ "laid" ∧ s ≠ "ring" ∧ ∀ G' H', Nx [] G H G' H' → Q (.bl false) H') ∨
   (∃ t c x b, v = .ref t ∧ SqT K G t [c, b] ∧ Dp K G c x ∧ (∀ s, x ≠ .str s) ∧ ∀ G' H', Nx [] G H G' H' → Q (.bl false) H') ∨
   ∃ p xs, v = .ref p ∧ H p = some (.lst xs) ∧ ∀ G' H', Nx [] G H G' H' → Q (.bl false) H')
theorem ok_judges (T : Tx fa fn bx K mg) : FnOk P w K mg base CX0 6 (He.ga K "judges") (fdOf K (He.ga K "judges")) ["album", "value"] (sp_judges K) := by
  refine FunD.ok (F_judges T) sc_judges (fun vs H Q E h => ?_) (fun cdv A outer s H vs Q E hr h => ?_)
  · obtain ⟨_, _, _, _, _, _, _, rfl, _⟩ := h
    rfl
  · obtain ⟨G, a, d, l, ws, ls, v, rfl, e, hA, nok, hnum, hv⟩ := h
    refine ⟨_, PSs.nox ((pss_cons (ps_if (pt_val (Y.pe_callC (ok__is_paper T) (cal__is_paper T) (hr.mono (by decide)) (by rfl) pass0 (pa_cons (pv 1) (pa_cons pe_str (pa_cons pe_int pa_nil)))))
      (pss_one (ps_ret (Y.pe_callC (ok__is_laying T) (cal__is_laying T) (hr.mono (by decide)) (by rfl) pass0 (pa_cons (pv 0) (pa_cons (pe_ix (Y.ix_tupK (K := K) rfl) (pv 1) pe_int (fun _ _ => rfl)) pa_nil)))))
      pss_nil)
      (pss_cons (ps_if (pt_val (Y.pe_callC (ok__is_paper T) (cal__is_paper T) (hr.mono (by decide)) (by rfl) pass0 (pa_cons (pv 1) (pa_cons pe_str (pa_cons pe_int pa_nil)))))
      (pss_one (ps_ret (pe_and (Y.pe_callC (ok__is_ring T) (cal__is_ring T) (hr.mono (by decide)) (by rfl) pass0 (pa_cons (pv 0) (pa_cons (pe_ix (Y.ix_tupK (K := K) rfl) (pv 1) pe_int (fun _ _ => rfl)) pa_nil))) (pe_one (pe_cmpR (Y.op_neDK (K := K) rfl hr.units) (Y.pe_callC (ok_ring_sum T) (cal_ring_sum T) (hr.mono (by decide)) (by rfl) pass0 (pa_cons (pv 0) (pa_cons (pe_ix (Y.ix_tupK (K := K) rfl) (pv 1) pe_int (fun _ _ => rfl)) pa_nil))) (pe_glob (v := .ref (He.ga K "ORIGIN")) rfl (T.glo 8) rfl) (nomark _))))))
      pss_nil)
      (pss_one (ps_ret pe_bl))))), ?_⟩
    have shl : SeqAt.shaped (.str "laid") = true := by decide +kernel
    have shr : SeqAt.shaped (.str "ring") = true := by decide +kernel
    have nlr : ¬ ((("ring" : Str)) = ("laid" : Str)) := by decide +kernel
    walk_at "sx"
    rcases hv with ⟨t, p, md, rfl, hs, hD, q⟩ | ⟨t, p, xs, rfl, hs, hx, q⟩ | ⟨x, dx, hf, hnl, q⟩ | ⟨t, s, b, rfl, hs, hsh, hn1, hn2, q⟩ | ⟨t, c, x, b, rfl, hs, dc, hn, q⟩ | ⟨p, xs, rfl, hx, q⟩
    · refine ⟨G, .ref t, "laid", rfl, e, shl, .inr (.inl ⟨t, _, _, "laid", rfl, hs, rfl, shl, ?_⟩)⟩
      rw [decide_eq_true rfl]
      refine ⟨true, rfl, ?_⟩
      refine g_bool (fun _ => ?_) (fun h => nomatch h)
      walk_at "sx"
      refine g_ixTR (k := 1) e hs rfl rfl ?_
      walk_at "sx"
      exact ⟨G, a, d, l, ws, ls, .ref p, rfl, e, hA, nok, hnum, .inl ⟨p, md, rfl, hD, q⟩⟩
    · refine ⟨G, .ref t, "laid", rfl, e, shl, .inr (.inl ⟨t, _, _, "laid", rfl, hs, rfl, shl, ?_⟩)⟩
      rw [decide_eq_true rfl]
      refine ⟨true, rfl, ?_⟩
      refine g_bool (fun _ => ?_) (fun h => nomatch h)
      walk_at "sx"
      refine g_ixTR (k := 1) e hs rfl rfl ?_
      walk_at "sx"
      exact ⟨G, a, d, l, ws, ls, .ref p, rfl, e, hA, nok, hnum, .inr (.inl ⟨p, xs, rfl, hx, q⟩)⟩
    · by_cases h2 : tupleOf x 2 = true
      rotate_left
      · have h2' : tupleOf x 2 = false := by simpa using h2
        refine ⟨G, v, "laid", rfl, e, shl, .inl ⟨x, .inl dx, h2', ?_⟩⟩
        refine ⟨false, rfl, ?_⟩
        refine g_bool (fun h => nomatch h) (fun _ => ?_)
        walk_at "sx"
        refine ⟨G, v, "ring", rfl, e, shr, .inl ⟨x, .inl dx, h2', ?_⟩⟩
        refine ⟨false, rfl, ?_⟩
        refine g_bool (fun h => nomatch h) (fun _ => ?_)
        walk_at "sx"
        refine q_bl (q _ _ (Nx.refl e)) ?_
        unfold judB
        split
        · cases h2'
        · rfl
      obtain ⟨c, y, rfl⟩ : ∃ c y, x = .tuple [c, y] := by
        cases x with
        | tuple xs =>
          simp only [tupleOf, decide_eq_true_eq] at h2
          match xs, h2 with
          | [a, b], _ => exact ⟨a, b, rfl⟩
          | [], h | [_], h => simp at h
          | _ :: _ :: _ :: _, h => simp at h; omega
        | _ => cases h2
      obtain ⟨t, vs, rfl, hs, dvs⟩ := dp_tup dx
      have hff := fitAll_iff.mp (fit_tup hf).2
      cases dvs with
      | cons d1 r1 =>
      rename_i v1 vs1
      cases r1 with
      | cons d2 r2 =>
      rename_i v2 vs2
      cases r2
      by_cases hc : ∃ s, c = .str s
      rotate_left
      · have hn : ∀ s, c ≠ .str s := fun s z => hc ⟨s, z⟩
        refine ⟨G, .ref t, "laid", rfl, e, shl, .inr (.inr ⟨t, _, _, c, rfl, hs, d1, hn, ?_⟩)⟩
        refine ⟨false, rfl, ?_⟩
        refine g_bool (fun h => nomatch h) (fun _ => ?_)
        walk_at "sx"
        refine ⟨G, .ref t, "ring", rfl, e, shr, .inr (.inr ⟨t, _, _, c, rfl, hs, d1, hn, ?_⟩)⟩
        refine ⟨false, rfl, ?_⟩
        refine g_bool (fun h => nomatch h) (fun _ => ?_)
        walk_at "sx"
        refine q_bl (q _ _ (Nx.refl e)) ?_
        unfold judB
        split
        · rename_i heq
          cases heq
          exact absurd rfl (hn _)
        · rfl
      obtain ⟨s, rfl⟩ := hc
      cases dp_str d1
      have hsh : SeqAt.shaped (.str s) = true := shaped_fit (hff _ (by simp)) (by simp [PyData.depth])
      have hn1 : s ≠ "laid" := fun z => hnl y (by rw [z])
      refine ⟨G, .ref t, "laid", rfl, e, shl, .inr (.inl ⟨t, _, _, s, rfl, hs, rfl, hsh, ?_⟩)⟩
      rw [decide_eq_false hn1]
      refine ⟨false, rfl, ?_⟩
      refine g_bool (fun h => nomatch h) (fun _ => ?_)
      walk_at "sx"
      refine ⟨G, .ref t, "ring", rfl, e, shr, .inr (.inl ⟨t, _, _, s, rfl, hs, rfl, hsh, ?_⟩)⟩
      have q' : ∀ G' H', Nx [] G H G' H' → Q (.bl (decide (s = "ring") && judR ls y)) H' := q
      refine ⟨_, rfl, ?_⟩
      refine g_dec (fun hs2 => ?_) (fun hs2 => ?_)
      rotate_left
      · walk_at "sx"
        exact q_bl (q' _ _ (Nx.refl e)) (by rw [decide_eq_false hs2]; rfl)
      rw [decide_eq_true hs2, Bool.true_and] at q'
      walk_at "sx"
      refine g_ixTR (k := 1) e hs rfl rfl ?_
      walk_at "sx"
      refine ⟨G, a, d, l, ws, ls, v2, y, rfl, e, hA, d2, hff _ (by simp), fun G1 H1 n1 => ?_⟩
      unfold judR at q'
      refine ⟨_, rfl, ?_⟩
      refine g_bool (fun h3 => ?_) (fun h3 => ?_)
      rotate_left
      · exact q_bl (q' _ _ n1) (by rw [h3]; rfl)
      obtain ⟨w, rfl, hw, hsum⟩ := ring_way h3
      rw [h3, Bool.true_and, hsum] at q'
      walk_at "sx"
      refine g_ixTR (k := 1) n1.gh (n1.gg.seqT hs) rfl rfl ?_
      walk_at "sx"
      refine ⟨G1, a, d, l, ws, ls, v2, w, rfl, n1.gh, hA.go n1 (by simp) (by simp) (by simp), dp_mono n1.gg d2, hw, fun u G2 H2 n2 du => ?_⟩
      walk_at "sx"
      have dO : Dp K G2 (.ref (He.ga K "ORIGIN")) (plD (0, 0, 0)) := tupB_ok (ns := [0, 0, 0]) (tup_ORIGIN T) (by decide)
      refine g_neD (K := K) (d := plD _) (d' := plD (0, 0, 0)) n2.gh du dO shaped_pl shaped_pl ?_
      rw [eqv_pl]
      exact q' _ _ (n1.trans n2)
    · refine ⟨G, .ref t, "laid", rfl, e, shl, .inr (.inl ⟨t, _, _, s, rfl, hs, rfl, hsh, ?_⟩)⟩
      rw [decide_eq_false hn1]
      refine ⟨false, rfl, ?_⟩
      refine g_bool (fun h => nomatch h) (fun _ => ?_)
      walk_at "sx"
      refine ⟨G, .ref t, "ring", rfl, e, shr, .inr (.inl ⟨t, _, _, s, rfl, hs, rfl, hsh, ?_⟩)⟩
      rw [decide_eq_false hn2]
      refine ⟨false, rfl, ?_⟩
      refine g_bool (fun h => nomatch h) (fun _ => ?_)
      walk_at "sx"
      exact q _ _ (Nx.refl e)
    · refine ⟨G, .ref t, "laid", rfl, e, shl, .inr (.inr ⟨t, _, _, x, rfl, hs, dc, hn, ?_⟩)⟩
      refine ⟨false, rfl, ?_⟩
      refine g_bool (fun h => nomatch h) (fun _ => ?_)
      walk_at "sx"
      refine ⟨G, .ref t, "ring", rfl, e, shr, .inr (.inr ⟨t, _, _, x, rfl, hs, dc, hn, ?_⟩)⟩
      refine ⟨false, rfl, ?_⟩
      refine g_bool (fun h => nomatch h) (fun _ => ?_)
      walk_at "sx"
      exact q _ _ (Nx.refl e)
    · refine ⟨G, .ref p, "laid", rfl, e, shl, .inl ⟨.list [], .inr (.inr ⟨p, xs, [], rfl, hx, rfl⟩), rfl, ?_⟩⟩
      refine ⟨false, rfl, ?_⟩
      refine g_bool (fun h => nomatch h) (fun _ => ?_)
      walk_at "sx"
      refine ⟨G, .ref p, "ring", rfl, e, shr, .inl ⟨.list [], .inr (.inr ⟨p, xs, [], rfl, hx, rfl⟩), rfl, ?_⟩⟩
      refine ⟨false, rfl, ?_⟩
      refine g_bool (fun h => nomatch h) (fun _ => ?_)
      walk_at "sx"
      exact q _ _ (Nx.refl e)
def frM (nm : List Str) (P : Str → Four) : List (Key × PyData) := nm.map fun s => ((Sum.inr s : Key), frD (P s))
theorem gt_fr {P : Str → Four} {s : Str} : ∀ {nm : List Str}, s ∈ nm → gtM (frM nm P) (Sum.inr s : Key) = some (frD (P s))
  | [], h => absurd h (by simp)
  | x :: nm, h => by
    show gtM (((Sum.inr x : Key), frD (P x)) :: frM nm P) _ = _
    rw [gtM_cons]
    by_cases hx : x = s
    · rw [if_pos (by rw [hx]), hx]
    · rw [if_neg (fun z => hx (Sum.inr.inj z))]
      rcases List.mem_cons.mp h with z | z
      · exact absurd z.symm hx
      · exact gt_fr z
def tstL (ws ls : List PyData) (P : Str → Four) (n : Str) : Bool := decide ((P n).1 = (placeOf (hdOf (grp (ws.map nmOf) (num 0 ls) n)) ws : Int)) && (!decide (hdOf (grp (ws.map nmOf) (num 0 ls) n) = n) || decide ((P n).2 = ((0, 0, 0) : Plc)))
def lnkL (P : Str → Four) (d : PyData) : Bool := match d with
  | .tuple [.str s, .str t, .int a, .int b, .int c] => decide (behind (P s).2 (.tuple [.str s, .str t, .int a, .int b, .int c]) true = (P t).2)
  | _ => false
def lawL (ws ls : List PyData) (P : Str → Four) : Bool := (ws.map nmOf).all (tstL ws ls P) && ls.all (lnkL P)
def sp__law_is_laying (K : PySem.W.Frag) : Sp := fun vs H Q _ => ∃ G p r d nm ls ws, ∃ P : Str → Four, vs = [.ref p, .ref r, .ref d] ∧ Y.Ex G H ∧ LstAt K p G H (nm.map .str) ∧ LstAt K r G H ls ∧ DctAt K d G H (frM nm P) ∧ nm = ws.map nmOf ∧ nm.Nodup ∧ nm.length ≤ 30 ∧ ls.length ≤ 60 ∧ nlOk nm (num 0 ls) ∧ (∀ d ∈ ls, linkOk d = true) ∧ (∀ s ∈ nm, nameOk s = true) ∧
  ∀ G' H', Nx [] G H G' H' → Q (.bl (lawL ws ls P)) H'
theorem ok__law_is_laying (T : Tx fa fn bx K mg) : FnOk P w K mg base CX0 3 (He.ga K "_law_is_laying") (fdOf K (He.ga K "_law_is_laying")) ["names", "links", "laying"] (sp__law_is_laying K) := by
  refine FunD.ok (F__law_is_laying T) sc__law_is_laying (fun vs H Q E h => ?_) (fun cdv A outer s H vs Q E hr h => ?_)
  · obtain ⟨_, _, _, _, _, _, _, _, rfl, _⟩ := h
    rfl
  · obtain ⟨G, p, r, d, nm, ls, ws, P, rfl, e, hN, hL, hD, hnm, hnd, hnl, hll, nok, hlk, hok, q⟩ := h
    refine ⟨_, PSs.nox ((pss_cons (ps_if (PW.pt (pw_or (pt_not (pt_val (pe_callB (Y.call_isiK (K := K) rfl) (by rfl) (T.free 0) (by decide +kernel) (pa_cons (pv 2) (pa_cons (pe_bltn (v := .ty "dict") (by rfl) (T.free 15) (by decide +kernel) rfl) pa_nil))))) (pw_or1 (pt_cmpR (Y.op_neDK (K := K) rfl hr.units) (pe_callB (Y.call_srtDS rfl) (by rfl) (T.free 38) (by decide +kernel) (pa_cons (pv 2) pa_nil)) (pe_callB (Y.cr_sortedSK (K := K) rfl) (by rfl) (T.free 38) (by decide +kernel) (pa_cons (pv 0) pa_nil)) (nomark _)))))
      (pss_one (ps_ret pe_bl))
      pss_nil)
      (pss_cons (ps_for PassesOwn.never rfl (Y.pi_listK (K := K) rfl (pv 0)) (pg_name (i := 3) sc__law_is_laying.nd rfl (Or.inr rfl))
      (pss_cons (ps_set (i := 5) sc__law_is_laying.nd rfl (Or.inl rfl) (pe_dget (hu_of hr) (pv 2) (pv 3) (fun _ _ => rfl)))
      (pss_cons (ps_set (i := 6) sc__law_is_laying.nd rfl (Or.inl rfl) (pe_ix (Y.ix_listK (K := K) rfl) (pe_lc (own := [("other", 7)]) rfl sc__law_is_laying.nd (Y.pi_listK (K := K) rfl (pv 0)) (blkOk_by (own := [("other", 7)]) (by kernel_rfl)) (fun _ _ _ _ _ => (pg_name (i := 7) sc__law_is_laying.nd rfl (Or.inl rfl))) (fun _ _ _ _ _ => (pts_one (pt_cmpR (Y.op_inK (K := K) rfl) (pv 7) (Y.pe_callC (ok__law_group T) (cal__law_group T) (hr.mono (by decide)) (by rfl) pass0 (pa_cons (pv 1) (pa_cons (pv 3) pa_nil))) (by rfl)))) (fun _ _ _ _ _ => (pv 7))) pe_int (fun _ _ => rfl)))
      (pss_cons (ps_if (PW.pt (pw_or (pt_not (pt_val (pe_callB (Y.call_isiK (K := K) rfl) (by rfl) (T.free 0) (by decide +kernel) (pa_cons (pv 5) (pa_cons (pe_bltn (v := .ty "tuple") (by rfl) (T.free 4) (by decide +kernel) rfl) pa_nil))))) (pw_or (pt_cmpR op_ne (pe_callB (Y.call_lenK (K := K) rfl) (by rfl) (T.free 3) (by decide +kernel) (pa_cons (pv 5) pa_nil)) pe_int (nomark _)) (pw_or1 (pt_cmpR op_ne (pe_ix (Y.ix_tupK (K := K) rfl) (pv 5) pe_int (fun _ _ => rfl)) (Y.pe_bmK (K := K) rfl PySem.F.plainAttrs_list PySem.F.slot_list_index PySem.F.type_list_index mt_index (pv 0) (pa_cons (pv 6) pa_nil)) (nomark _))))))
      (pss_one (ps_ret pe_bl))
      pss_nil)
      (pss_one (ps_if (PW.pt (pw_and (pt_cmpR op_eq (pv 6) (pv 3) (nomark _)) (pw_and1 (pt_cmpR (Y.op_neDK (K := K) rfl hr.units) (pe_slice (Y.sl_tupAK (K := K) rfl) (pv 5) (po_some pe_int) po_none) (pe_tup (pa_cons pe_int (pa_cons pe_int (pa_cons pe_int pa_nil)))) (nomark _)))))
      (pss_one (ps_ret pe_bl))
      pss_nil))))))
      (pss_cons (ps_for PassesOwn.never rfl (Y.pi_listK (K := K) rfl (pv 1)) (pg_name (i := 4) sc__law_is_laying.nd rfl (Or.inl rfl))
      (pss_one (ps_if (pt_cmpR (Y.op_neDK (K := K) rfl hr.units) (Y.pe_callC (ok__law_moved T) (cal__law_moved T) (hr.mono (by decide)) (by rfl) pass0 (pa_cons (pe_slice (Y.sl_tupAK (K := K) rfl) (pe_dget (hu_of hr) (pv 2) (pe_ix (Y.ix_tupK (K := K) rfl) (pv 4) pe_int (fun _ _ => rfl)) (fun _ _ => rfl)) (po_some pe_int) po_none) (pa_cons (pv 4) (pa_cons pe_bl pa_nil)))) (pe_slice (Y.sl_tupAK (K := K) rfl) (pe_dget (hu_of hr) (pv 2) (pe_ix (Y.ix_tupK (K := K) rfl) (pv 4) pe_int (fun _ _ => rfl)) (fun _ _ => rfl)) (po_some pe_int) po_none) (nomark _))
      (pss_one (ps_ret pe_bl))
      pss_nil)))
      (pss_one (ps_ret pe_bl)))))), ?_⟩
    walk_at "sx"
    obtain ⟨kvs, hk, gk, hkm, _⟩ := id hD
    refine ⟨.ref d, .ty "dict", _, _, true, rfl, .ty "dict", .base (.dK hk), kit_ty (by rfl), ?_⟩
    refine ⟨true, rfl, ?_⟩
    refine g_nbool (fun h => nomatch h) (fun _ => ?_)
    walk_at "sx"
    have hkn : kvs.map (·.1) = nm.map Sum.inr := by rw [hkm]; simp [frM]
    refine ⟨d, kvs, nm, rfl, hk, hkn, by omega, fun ys s1 hp1 hs1 hs0 => ?_⟩
    have n1 : Nx [] G H G (upd H s1 (.lst (ys.map V.str))) := Nx.own e hs0
    have hY : LstAt K s1 G (upd H s1 (.lst (ys.map V.str))) (ys.map .str) := ⟨_, upd_same, e.free hs0, dpAll_str ys⟩
    generalize upd H s1 (.lst (ys.map V.str)) = H1 at n1 hY ⊢
    walk_at "sx"
    have hN1 := hN.go n1 (by simp)
    obtain ⟨vs1, hvs1, _, dvs1⟩ := id hN1
    rw [dpAll_str_inv dvs1] at hvs1
    refine ⟨p, nm, rfl, .of hvs1, by omega, fun zs s2 hp2 hs2 hs20 => ?_⟩
    have n2 : Nx [] G H1 G (upd H1 s2 (.lst (zs.map V.str))) := Nx.own n1.gh hs20
    have hZ : LstAt K s2 G (upd H1 s2 (.lst (zs.map V.str))) (zs.map .str) := ⟨_, upd_same, n1.gh.free hs20, dpAll_str zs⟩
    generalize upd H1 s2 (.lst (zs.map V.str)) = H2 at n2 hZ ⊢
    have eyz := sorted_one (hp1.trans hp2.symm) hs1 hs2
    subst eyz
    have shn : SeqAt.shaped (.list (ys.map PyData.str)) = true := by
      refine shaped_fit (fit_list (by rw [List.length_map, hp1.length_eq]; omega) fun x hx => ?_) (Nat.le_trans (depth_lst (n := 0) fun x hx => ?_) (by decide))
      · obtain ⟨z, hz, rfl⟩ := List.mem_map.mp hx
        exact fit_name (hok z (hp1.mem_iff.mp hz))
      · obtain ⟨z, _, rfl⟩ := List.mem_map.mp hx
        simp [PyData.depth]
    refine g_neL n2.gh (hY.go n2 (by simp)) hZ shn ?_
    refine ⟨_, rfl, ?_⟩
    refine g_bool (fun h => nomatch h) (fun _ => ?_)
    walk_at "sx"
    have n12 := n1.trans n2
    have hN2 := hN.go n12 (by simp)
    have hL2 := hL.go n12 (by simp)
    have hD2 := hD.go n12 (by simp)
    unfold lawL at q
    rw [← hnm] at q
    have badN : ∀ n ∈ nm, tstL ws ls P n = false → ∀ G' H', Nx [] G H G' H' → Q (.bl false) H' := fun n hn hb G' H' nx => by
      refine q_bl (q G' H' nx) ?_
      have : nm.all (tstL ws ls P) = false := by
        cases hc : nm.all (tstL ws ls P) with
        | false => rfl
        | true => rw [List.all_eq_true.mp hc n hn] at hb; cases hb
      rw [this]
      rfl
    refine g_walkLs hN2 fun S => ?_
    refine g_forS (K := K) (M := []) (S [] (by simp)) n2.gh (fun i σ G' H' => ∃ y3 y5 y6, σ = [some (.ref p), some (.ref r), some (.ref d), y3, none, y5, y6, none] ∧ ∀ n ∈ nm.take i, tstL ws ls P n = true) ⟨_, _, _, rfl, by simp⟩ ?_ ?_
    · rintro i z w σ' G3 H3 G4 H4 hi n3 ⟨y3, y5, y6, rfl, hall⟩ n4 dv
      rw [List.getElem?_map] at hi
      obtain ⟨x, hx, rfl⟩ := Option.map_eq_some_iff.mp hi
      cases dp_str dv
      have hxm := List.mem_of_getElem? hx
      have n34 := n3.trans n4
      have n04 := n12.trans n34
      have hD4 := hD2.go n34 (by simp)
      have hL4 := hL2.go n34 (by simp)
      have hN4 := hN2.go n34 (by simp)
      walk_at "sx"
      refine g_dcGet hD4 (k := Sum.inr x) rfl (gt_fr hxm) fun v1 d1 => ?_
      walk_at "sx"
      refine g_walkLs hN4 fun S3 => ?_
      intro A hA
      refine g_lcS (K := K) (M := []) (S3 [] (by simp)) n4.gh hA (by simp) (by rw [List.length_map]; exact szl (by omega)) (fun j acc => acc = ((nm.take j).filter fun o => decide (o ∈ keysOf nm (num 0 ls) x)).map .str) rfl (fun j d2 w2 acc G5 H5 hj dw2 n5 _ hjj QE QN k1 k2 => ?_) (fun G5 H5 ys2 acc hjj n5 g5 h5 da => ?_)
      · rw [List.getElem?_map] at hj
        obtain ⟨z, hz, rfl⟩ := Option.map_eq_some_iff.mp hj
        cases dp_str dw2
        have tk2 : nm.take (j + 1) = nm.take j ++ [z] := by rw [List.take_add_one, hz]; rfl
        walk_at "sx"
        refine ⟨G5, r, ls, nm, x, rfl, n5.gh, hL4.go n5 (by simp), by omega, hnd, by omega, nok, hxm, fun o gl G6 H6 n6 ho hO hgl => ?_⟩
        refine g_inSsF hO ?_
        have hiff : decide (z ∈ gl) = decide (z ∈ keysOf nm (num 0 ls) x) := by rw [decide_eq_decide, hgl, keys_rch nok hxm]
        rw [hiff]
        walk_at "sx"
        refine g_dec (fun hin => ?_) (fun hout => ?_) <;> walk_at "sx"
        · refine k1 _ G6 H6 _ n6 (.str z) ?_
          rw [hjj, tk2, List.filter_append, List.filter_cons_of_pos (by exact decide_eq_true hin)]
          simp
        · refine k2 G6 H6 n6 ?_
          rw [hjj, tk2, List.filter_append, List.filter_cons_of_neg (by rw [decide_eq_true_eq]; exact hout)]
          simp
      rw [List.length_map, List.take_length] at hjj
      have hG5 : LstAt K A G5 H5 ((grp nm (num 0 ls) x).map .str) := ⟨ys2, h5, g5, by rw [hjj] at da; exact da⟩
      obtain ⟨x0, gr, hgr⟩ : ∃ x0 gr, grp nm (num 0 ls) x = x0 :: gr := by
        have := grp_own nok hxm
        cases hg : grp nm (num 0 ls) x with
        | nil => rw [hg] at this; cases this
        | cons y t => exact ⟨y, t, rfl⟩
      have hx0m : x0 ∈ nm := ((grp_mem nok hxm).mp (by rw [hgr]; simp)).1
      have htst : tstL ws ls P x = (decide ((P x).1 = (placeOf x0 ws : Int)) && (!decide (x0 = x) || decide ((P x).2 = ((0, 0, 0) : Plc)))) := by
        unfold tstL
        rw [← hnm, hgr]
        rfl
      walk_at "sx"
      refine g_ixLs (k := 0) (d := .str x0) hG5 (by rw [hgr]; rfl) rfl fun v2 d2 => ?_
      cases dp_str d2
      have d1' := dp_mono n5.gg d1
      have n05 := n04.trans n5
      walk_at "sx"
      refine g_isi (b := true) n5.gh d1' (by rfl) ?_
      refine ⟨true, rfl, ?_⟩
      refine g_nbool (fun h => nomatch h) (fun _ => ?_)
      walk_at "sx"
      refine g_lenT n5.gh d1' ?_
      walk_at "sx"
      refine g_ndec (fun h => absurd rfl h) (fun _ => ?_)
      walk_at "sx"
      refine g_ixT (k := 0) n5.gh d1' rfl rfl fun v3 d3 => ?_
      cases dp_int d3
      walk_at "sx"
      obtain ⟨vs, hvs, _, dvs⟩ := id (hN4.go n5 (by simp))
      rw [dpAll_str_inv dvs] at hvs
      refine g_tyL hvs ?_
      walk_at "sx"
      have hlp := look_place (s := x0) (ws := ws) (by rw [look_mem', ← hnm]; exact decide_eq_true hx0m)
      rw [← hnm] at hlp
      refine g_index hvs hlp.1 hlp.2 ?_
      walk_at "sx"
      refine g_ndec (fun hbad => ?_) (fun hgd => ?_)
      · walk_at "sx"
        exact badN x hxm (by rw [htst, decide_eq_false (by simpa using hbad)]; rfl) _ _ n05
      walk_at "sx"
      refine g_dec (fun hxe => ?_) (fun hxe => ?_)
      rotate_left
      · walk_at "sx"
        refine ⟨G5, n34.trans n5, _, _, _, rfl, fun n hn => ?_⟩
        rw [List.take_add_one, hx] at hn
        rcases List.mem_append.mp hn with hn | hn
        · exact hall n hn
        · simp only [Option.toList_some, List.mem_cons, List.not_mem_nil, or_false] at hn
          subst hn
          rw [htst, decide_eq_true (by simpa using hgd), decide_eq_false hxe]
          rfl
      walk_at "sx"
      refine g_slLo (k := 1) n5.gh d1' rfl fun v4 G6 H6 n6 d4 => ?_
      walk_at "sx"
      refine g_tupD (K := K) (ds := [.int 0, .int 0, .int 0]) n6.gh (.cons (.int _) (.cons (.int _) (.cons (.int _) .nil))) (by simp [sizeLine]) fun u1 G7 H7 n7 d7 => ?_
      walk_at "sx"
      refine g_neD (K := K) (d := plD (P x).2) (d' := plD (0, 0, 0)) n7.gh (dp_mono n7.gg d4) d7 shaped_pl shaped_pl ?_
      rw [eqv_pl]
      refine ⟨_, rfl, ?_⟩
      have n57 := n6.trans n7
      refine g_ndec (fun hbad => ?_) (fun hz => ?_)
      · walk_at "sx"
        exact badN x hxm (by rw [htst, decide_eq_true hxe, decide_eq_false hbad]; simp) _ _ (n05.trans n57)
      walk_at "sx"
      refine ⟨G7, (n34.trans n5).trans n57, _, _, _, rfl, fun n hn => ?_⟩
      rw [List.take_add_one, hx] at hn
      rcases List.mem_append.mp hn with hn | hn
      · exact hall n hn
      · simp only [Option.toList_some, List.mem_cons, List.not_mem_nil, or_false] at hn
        subst hn
        rw [htst, decide_eq_true (by simpa using hgd), decide_eq_true hz]
        simp
    · rintro σ' G3 H3 n3 ⟨y3, y5, y6, rfl, hall⟩
      rw [List.length_map, List.take_length] at hall
      have hat : nm.all (tstL ws ls P) = true := List.all_eq_true.mpr hall
      rw [hat, Bool.true_and] at q
      have n03 := n12.trans n3
      have hL3 := hL2.go n3 (by simp)
      have hD3 := hD2.go n3 (by simp)
      walk_at "sx"
      refine g_walkLs hL3 fun S3 => ?_
      refine g_forS (K := K) (M := []) (S3 [] (by simp)) n3.gh (fun i σ G' H' => ∃ y4, σ = [some (.ref p), some (.ref r), some (.ref d), y3, y4, y5, y6, none] ∧ ∀ x ∈ ls.take i, lnkL P x = true) ⟨_, rfl, by simp⟩ ?_ ?_
      · rintro i z w σ' G4 H4 G5 H5 hi n4 ⟨y4, rfl, hls⟩ n5 dv
        have hzm := List.mem_of_getElem? hi
        obtain ⟨s, t, a, b, c, rfl, _⟩ := lk_form (hlk z hzm)
        have n45 := n4.trans n5
        have hD5 := hD3.go n45 (by simp)
        have hst : s ∈ nm ∧ t ∈ nm := by
          have hm : (0 + i, PyData.tuple [.str s, .str t, .int a, .int b, .int c]) ∈ num 0 ls := List.mem_of_getElem? (i := i) (by rw [num_get, hi]; rfl)
          obtain ⟨s', t', x', y', z', he, h1, h2, _⟩ := nok.2 _ hm
          cases he
          exact ⟨h1, h2⟩
        walk_at "sx"
        refine g_ixT (k := 0) n5.gh dv rfl rfl fun v1 d1 => ?_
        cases dp_str d1
        refine g_dcGet hD5 (k := Sum.inr s) rfl (gt_fr hst.1) fun v2 d2 => ?_
        walk_at "sx"
        refine g_slLo (k := 1) n5.gh d2 rfl fun v3 G6 H6 n6 d3 => ?_
        walk_at "sx"
        refine ⟨G6, v3, w, (P s).2, s, t, a, b, c, true, rfl, n6.gh, d3, dp_mono n6.gg dv, fun v4 G7 H7 n7 d4 => ?_⟩
        walk_at "sx"
        have n67 := n6.trans n7
        refine g_ixT (k := 1) n7.gh (dp_mono n67.gg dv) rfl rfl fun v5 d5 => ?_
        cases dp_str d5
        refine g_dcGet (hD5.go n67 (by simp)) (k := Sum.inr t) rfl (gt_fr hst.2) fun v6 d6 => ?_
        walk_at "sx"
        refine g_slLo (k := 1) n7.gh d6 rfl fun v7 G8 H8 n8 d7 => ?_
        refine g_neD (K := K) (d := plD _) (d' := plD (P t).2) n8.gh (dp_mono n8.gg d4) d7 shaped_pl shaped_pl ?_
        rw [eqv_pl]
        refine ⟨_, rfl, ?_⟩
        have n58 := n67.trans n8
        refine g_ndec (fun hbad => ?_) (fun hgd => ?_)
        · walk_at "sx"
          refine q_bl (q _ _ ((n03.trans n45).trans n58)) ?_
          cases hc : ls.all (lnkL P) with
          | false => rfl
          | true =>
            have := List.all_eq_true.mp hc _ hzm
            exact absurd (of_decide_eq_true this) hbad
        walk_at "sx"
        refine ⟨G8, n45.trans n58, _, rfl, fun x hx => ?_⟩
        rw [List.take_add_one, hi] at hx
        rcases List.mem_append.mp hx with hx | hx
        · exact hls x hx
        · simp only [Option.toList_some, List.mem_cons, List.not_mem_nil, or_false] at hx
          subst hx
          exact decide_eq_true hgd
      · rintro σ' G4 H4 n4 ⟨y4, rfl, hls⟩
        rw [List.take_length] at hls
        walk_at "sx"
        exact q_bl (q _ _ (n03.trans n4)) (List.all_eq_true.mpr hls)
theorem pt_fr {P : Str → Four} {x : Str} {r : Four} {nm : List Str} (h : x ∈ nm) : ptM (frM nm P) (Sum.inr x : Key) (frD r) = frM nm fun s => if s = x then r else P s := by
  unfold ptM
  rw [gtM_any, gt_fr h, if_pos (show (some (frD (P x))).isSome = true from rfl)]
  unfold frM
  rw [List.map_map]
  refine List.map_congr_left fun s _ => ?_
  show (if (Sum.inr s : Key) = Sum.inr x then ((Sum.inr s : Key), frD r) else ((Sum.inr s : Key), frD (P s))) = ((Sum.inr s : Key), frD (if s = x then r else P s))
  by_cases e : s = x
  · rw [if_pos (by rw [e]), if_pos e]
  · rw [if_neg (fun z => e (Sum.inr.inj z)), if_neg e]
theorem four_set {r : Four} {v : Int} {j : Nat} (hj : j < 4) : ∃ r2 : Four, ([PyData.int r.1, .int r.2.1, .int r.2.2.1, .int r.2.2.2]).set j (.int v) = [.int r2.1, .int r2.2.1, .int r2.2.2.1, .int r2.2.2.2] := by
  match j, hj with
  | 0, _ => exact ⟨(v, r.2.1, r.2.2.1, r.2.2.2), rfl⟩
  | 1, _ => exact ⟨(r.1, v, r.2.2.1, r.2.2.2), rfl⟩
  | 2, _ => exact ⟨(r.1, r.2.1, v, r.2.2.2), rfl⟩
  | 3, _ => exact ⟨(r.1, r.2.1, r.2.2.1, v), rfl⟩
theorem g_listTM {K : PySem.W.Frag} {G H : Hp} {x : V} {L : List PyData} {Q : VK} (e : Y.Ex G H) (h : Dp K G x (.tuple L)) (q : ∀ p H', Nx [] G H G H' → H p = none → LstAt K p G H' L → Q (.ref p) H') : rListOf K [x] H Q := by
  obtain ⟨a, vs, rfl, hs, hd⟩ := dp_tup h
  exact ⟨a, vs, rfl, .inr (e.seqT hs), fun l hl => q l _ (Nx.own e hl) hl ⟨vs, upd_same, e.free hl, hd⟩⟩
def sp__law_changed (K : PySem.W.Frag) : Sp := fun vs H Q _ => ∃ G a p d nm, ∃ P : Str → Four, vs = [.ref a, .ref p, .ref d] ∧ Y.Ex G H ∧ PoolAt K a G H ∧ LstAt K p G H (nm.map .str) ∧ DctAt K d G H (frM nm P) ∧ p ≠ a ∧ d ≠ a ∧ nm.Nodup ∧ 1 ≤ nm.length ∧ nm.length ≤ 30 ∧
  ∀ o G' H', ∀ P' : Str → Four, Nx [a] G H G' H' → H o = none → PoolAt K a G' H' → DctAt K o G' H' (frM nm P') → Q (.ref o) H'
theorem ok__law_changed (T : Tx fa fn bx K mg) : FnOk P w K mg base CX0 3 (He.ga K "_law_changed") (fdOf K (He.ga K "_law_changed")) ["pool", "names", "laying"] (sp__law_changed K) := by
  refine FunD.ok (F__law_changed T) sc__law_changed (fun vs H Q E h => ?_) (fun cdv A outer s H vs Q E hr h => ?_)
  · obtain ⟨_, _, _, _, _, _, rfl, _⟩ := h
    rfl
  · obtain ⟨G, a, p, d, nm, P, rfl, e, hp, hN, hD, hpa, hda, hnd, hn1, hnl, q⟩ := h
    refine ⟨_, PSs.nox ((pss_cons (ps_set (i := 3) sc__law_changed.nd rfl (Or.inl rfl) (pe_callTy Y.call_dictC (by rfl) (T.free 15) (by decide +kernel) (pa_cons (pv 2) pa_nil)))
      (pss_cons (ps_for PassesOwn.never rfl (pi_range1 (by rfl) (T.free 16) (pa_cons (Y.pe_callC (ok__law_take T) (cal__law_take T) (hr.mono (by decide)) (by rfl) pass0 (pa_cons (pv 0) (pa_cons pe_int pa_nil))) pa_nil)) (pg_name (i := 4) sc__law_changed.nd rfl (Or.inl rfl))
      (pss_cons (ps_set (i := 5) sc__law_changed.nd rfl (Or.inl rfl) (pe_ix (Y.ix_listK (K := K) rfl) (pv 1) (Y.pe_callC (ok__law_take T) (cal__law_take T) (hr.mono (by decide)) (by rfl) pass0 (pa_cons (pv 0) (pa_cons (pe_callB (Y.call_lenK (K := K) rfl) (by rfl) (T.free 3) (by decide +kernel) (pa_cons (pv 1) pa_nil)) pa_nil))) (fun _ _ => rfl)))
      (pss_cons (ps_set (i := 6) sc__law_changed.nd rfl (Or.inl rfl) (pe_callTy (Y.call_listK (K := K) rfl) (by rfl) (T.free 31) (by decide +kernel) (pa_cons (pe_dget (hu_of hr) (pv 3) (pv 5) (fun _ _ => rfl)) pa_nil)))
      (pss_cons (ps_asg (pe_op op_sub (Y.pe_callC (ok__law_take T) (cal__law_take T) (hr.mono (by decide)) (by rfl) pass0 (pa_cons (pv 0) (pa_cons pe_int pa_nil))) pe_int) (pg_sub (pv 6) (Y.pe_callC (ok__law_take T) (cal__law_take T) (hr.mono (by decide)) (by rfl) pass0 (pa_cons (pv 0) (pa_cons pe_int pa_nil))) set_list))
      (pss_one (ps_dput (hu_of hr) (pv 3) (pv 5) (pe_callTy (Y.call_tupleK (K := K) rfl) (by rfl) (T.free 4) (by decide +kernel) (pa_cons (pv 6) pa_nil)) rfl))))))
      (pss_one (ps_ret (pv 3)))))), ?_⟩
    walk_at "sx"
    obtain ⟨kvs, hk, gk, hkm, hdd⟩ := id hD
    refine g_dictC hk fun c hc0 => ?_
    have n1 : Nx [] G H G (upd H c (.dK kvs)) := Nx.own e hc0
    have hC : DctAt K c G (upd H c (.dK kvs)) (frM nm P) := ⟨kvs, upd_same, e.free hc0, hkm, hdd⟩
    generalize upd H c (.dK kvs) = H1 at n1 hC ⊢
    have hp1 := hp.go n1 (by simp)
    have hN1 := hN.go n1 (by simp)
    have ca : c ≠ a := fun z => hp.live (z ▸ hc0)
    have cp : c ≠ p := fun z => hN.live (z ▸ hc0)
    walk_at "sx"
    refine ⟨G, a, 3, rfl, n1.gh, hp1, by decide, by decide, fun i0 H2 i00 i01 n2 hp2 => ?_⟩
    walk_at "sx"
    refine g_walkR (by omega) (by omega) ?_
    have n02 : Nx [a] G H G H2 := n1.pure.trans n2
    refine g_forS (K := K) (M := [a, c]) (src_rng 0 _) n02.gh (fun i σ G' H' => ∃ y4 y5 y6, ∃ P' : Str → Four, σ = [some (.ref a), some (.ref p), some (.ref d), some (.ref c), y4, y5, y6] ∧ PoolAt K a G' H' ∧ LstAt K p G' H' (nm.map .str) ∧ DctAt K c G' H' (frM nm P')) ⟨_, _, _, P, rfl, hp2, hN1.go n2 (by simp [hpa]), hC.go n2 (by simp [ca])⟩ ?_ ?_
    · rintro i z w σ' G3 H3 G4 H4 hi n3 ⟨y4, y5, y6, P', rfl, hp3, hN3, hC3⟩ n4 dv
      obtain ⟨_, rfl⟩ := rng_get hi
      cases dp_int dv
      have hp4 := hp3.go n4 (by simp)
      have hN4 := hN3.go n4 (by simp)
      have hC4 := hC3.go n4 (by simp)
      walk_at "sx"
      refine g_lenLs hN4 ?_
      rw [List.length_map]
      refine ⟨G4, a, _, rfl, n4.gh, hp4, by omega, by omega, fun j H5 j0 j1 n5 hp5 => ?_⟩
      have hN5 := hN4.go n5 (by simp [hpa])
      have hC5 := hC4.go n5 (by simp [ca])
      walk_at "sx"
      refine g_ixLsN hN5 j0 j1 fun x hx _ => ?_
      walk_at "sx"
      refine g_dcGet hC5 (k := Sum.inr x) rfl (gt_fr hx) fun v1 d1 => ?_
      walk_at "sx"
      refine g_listTM n5.gh d1 fun pl H6 n6 hpl hL6 => ?_
      walk_at "sx"
      have hp6 := hp5.go n6 (by simp)
      have pla : pl ≠ a := fun z => hp5.live (z ▸ hpl)
      have plc : pl ≠ c := fun z => by obtain ⟨_, h, _⟩ := hC5; rw [← z, hpl] at h; cases h
      have plp : pl ≠ p := fun z => hN5.live (z ▸ hpl)
      refine ⟨G4, a, 5, rfl, n6.gh, hp6, by decide, by decide, fun v2 H7 v0 v1' n7 hp7 => ?_⟩
      walk_at "sx"
      refine ⟨G4, a, 4, rfl, n7.gh, hp7, by decide, by decide, fun jj H8 jj0 jj1 n8 hp8 => ?_⟩
      obtain ⟨jj, rfl⟩ := Int.eq_ofNat_of_zero_le jj0
      walk_at "sx"
      have n78 := n7.trans n8
      have hL8 := hL6.go n78 (by simp [pla])
      refine g_setLs n8.gh hL8 (d := .int (v2 - 2)) (.int _) (k := jj) rfl (by show jj < 4; omega) fun H9 n9 hL9 => ?_
      obtain ⟨r2, hr2⟩ := four_set (r := P' x) (v := v2 - 2) (j := jj) (by omega)
      rw [hr2] at hL9
      walk_at "sx"
      obtain ⟨us, hus, gus, dus⟩ := id hL9
      refine g_tupOfM n9.gh hus dus fun tt G10 H10 n10 dtt => ?_
      walk_at "sx"
      have n510 : Nx [a, pl] G4 H5 G10 H10 := (((n6.mono (by simp)).trans (n78.mono (by simp))).trans (n9.mono (by simp))).trans n10.pure
      have hC10 := hC5.go n510 (by simp [ca, plc.symm])
      have hN10 := hN5.go n510 (by simp [hpa, plp.symm])
      have hp10 := (hp8.go n9 (by simp [pla.symm])).go n10 (by simp)
      refine g_dcPut n10.gh hC10 (k := Sum.inr x) rfl dtt (by simp [frM]; omega) fun H11 n11 hC11 => ?_
      have ept := pt_fr (P := P') (r := r2) hx
      have n411 : Nx [a, c] G4 H4 G10 H11 := ((n5.mono (by simp)).trans (n510.sub (M := [a, c]) (by
        intro z hz
        simp only [List.mem_cons, List.not_mem_nil, or_false] at hz
        rcases hz with rfl | rfl
        · exact .inl (by simp)
        · exact .inr hpl))).trans (n11.mono (by simp))
      refine ⟨G10, (n3.trans n4.pure).trans n411, _, _, _, _, rfl, hp10.go n11 (by simp [ca.symm]), hN10.go n11 (by simp [cp.symm]), by rw [← ept]; exact hC11⟩
    · rintro σ' G3 H3 n3 ⟨y4, y5, y6, P', rfl, hp3, hN3, hC3⟩
      walk_at "sx"
      exact q c G3 H3 P' (((n02.mono (by simp)).trans n3).sub (M' := [a, c]) (by simp [hc0])) hc0 hp3 hC3
theorem g_ixTLast {K : PySem.W.Frag} {G H : Hp} {x : V} {ds : List PyData} {d : PyData} {i : Int} {Q : VK} (e : Y.Ex G H) (h : Dp K G x (.tuple ds)) (hi : ds[ds.length - 1]? = some d) (hj : i = -1) (q : ∀ v, Dp K G v d → Q v H) : rIxT K x (.int i) H Q := by
  obtain ⟨a, xs, rfl, hs, da⟩ := dp_tup h
  obtain ⟨v, hv, dv⟩ := dpAll_get da hi
  subst hj
  exact ⟨a, xs, -1, v, rfl, rfl, e.seqT hs, atI_last (by rw [dpAll_len da]; exact hv), q v dv⟩
theorem g_ixEnd {K : PySem.W.Frag} {G H : Hp} {x : V} {s t : Str} {r : List PyData} {f : Bool} {Q : VK} (e : Y.Ex G H) (h : Dp K G x (.tuple (.str s :: .str t :: r))) (q : Q (.str (if f = true then t else s)) H) : rIxT K x (.int (if f = true then 1 else 0)) H Q := by
  cases f with
  | true =>
    refine g_ixT (k := 1) e h rfl rfl fun v d => ?_
    cases dp_str d
    exact q
  | false =>
    refine g_ixT (k := 0) e h rfl rfl fun v d => ?_
    cases dp_str d
    exact q
theorem ends_at {ls : List PyData} {w : Way} {k i : Nat} {f : Bool} {s t : Str} {r : List PyData} (h : w[k]? = some (i, f)) (hl : ls[i]? = some (.tuple (.str s :: .str t :: r))) : (wayEnds ls w)[k]? = some (if f = true then (s, t) else (t, s)) := by
  unfold wayEnds
  rw [List.getElem?_map, h]
  show some (endP ((ls[i]?).getD .none) f) = _
  rw [hl]
  rfl
theorem judR_way {ls : List PyData} {w : Way} (hw : ∀ x ∈ w, x.1 < ls.length) (hne : w ≠ []) : judR ls (wayD w) = (cycB (wayEnds ls w) && !decide (sumW ls w = ((0, 0, 0) : Plc))) := by
  have e1 : (w.map waD).map stOf = w := by
    rw [List.map_map]
    have : w.map (stOf ∘ waD) = w.map id := List.map_congr_left fun x _ => by simp [stOf, waD]
    rw [this, List.map_id]
  have e2 : (w.map waD).all (fun x => stepB x ls.length) = true := by
    rw [List.all_eq_true]
    intro d hd
    obtain ⟨x, hx, rfl⟩ := List.mem_map.mp hd
    show decide (0 ≤ (x.1 : Int) ∧ (x.1 : Int) ≤ (ls.length : Int) - 1) = true
    have := hw x hx
    exact decide_eq_true ⟨by omega, by omega⟩
  have e3 : (w.map waD).isEmpty = false := by cases w with
    | nil => exact absurd rfl hne
    | cons _ _ => rfl
  show ((!(w.map waD).isEmpty && ((w.map waD).all (fun x => stepB x ls.length) && cycB (wayEnds ls ((w.map waD).map stOf)))) && !decide (sumW ls ((w.map waD).map stOf) = ((0, 0, 0) : Plc))) = _
  rw [e1, e2, e3]
  rfl
def sp__law_is_ring (K : PySem.W.Frag) : Sp := fun vs H Q _ => ∃ G p v ls w, vs = [.ref p, v] ∧ Y.Ex G H ∧ LstAt K p G H ls ∧ (∀ d ∈ ls, linkOk d = true) ∧ Dp K G v (wayD w) ∧ (∀ x ∈ w, x.1 < ls.length) ∧ w.length ≤ 1000 ∧ ∀ G' H', Nx [] G H G' H' → Q (.bl (judR ls (wayD w))) H'
theorem ok__law_is_ring (T : Tx fa fn bx K mg) : FnOk P w K mg base CX0 2 (He.ga K "_law_is_ring") (fdOf K (He.ga K "_law_is_ring")) ["links", "ring"] (sp__law_is_ring K) := by
  refine FunD.ok (F__law_is_ring T) sc__law_is_ring (fun vs H Q E h => ?_) (fun cdv A outer s H vs Q E hr h => ?_)
  · obtain ⟨_, _, _, _, _, rfl, _⟩ := h
    rfl
  · obtain ⟨G, p, v, ls, w, rfl, e, hL, hlk, hv, hw, wl, q⟩ := h
    refine ⟨_, PSs.nox ((pss_cons (ps_if (PW.pt (pw_or (pt_not (pt_val (pe_callB (Y.call_isiK (K := K) rfl) (by rfl) (T.free 0) (by decide +kernel) (pa_cons (pv 1) (pa_cons (pe_bltn (v := .ty "tuple") (by rfl) (T.free 4) (by decide +kernel) rfl) pa_nil))))) (pw_or1 (pt_cmpR op_eq (pe_callB (Y.call_lenK (K := K) rfl) (by rfl) (T.free 3) (by decide +kernel) (pa_cons (pv 1) pa_nil)) pe_int (nomark _)))))
      (pss_one (ps_ret pe_bl))
      pss_nil)
      (pss_cons (ps_set (i := 2) sc__law_is_ring.nd rfl (Or.inl rfl) (pe_tup (pa_cons pe_int (pa_cons pe_int (pa_cons pe_int pa_nil)))))
      (pss_cons (ps_for PassesOwn.never rfl (pi_range1 (by rfl) (T.free 16) (pa_cons (pe_callB (Y.call_lenK (K := K) rfl) (by rfl) (T.free 3) (by decide +kernel) (pa_cons (pv 1) pa_nil)) pa_nil)) (pg_name (i := 3) sc__law_is_ring.nd rfl (Or.inl rfl))
      (pss_cons (ps_set (i := 4) sc__law_is_ring.nd rfl (Or.inl rfl) (pe_ix (Y.ix_tupK (K := K) rfl) (pe_ix (Y.ix_listK (K := K) rfl) (pv 0) (pe_ix (Y.ix_tupK (K := K) rfl) (pe_ix (Y.ix_tupK (K := K) rfl) (pv 1) (pe_op op_sub (pv 3) pe_int) (fun _ _ => rfl)) pe_int (fun _ _ => rfl)) (fun _ _ => rfl)) (pe_callTy Y.call_int1 (by rfl) (T.free 2) (by decide +kernel) (pa_cons (pe_ix (Y.ix_tupK (K := K) rfl) (pe_ix (Y.ix_tupK (K := K) rfl) (pv 1) (pe_op op_sub (pv 3) pe_int) (fun _ _ => rfl)) pe_int (fun _ _ => rfl)) pa_nil)) (fun _ _ => rfl)))
      (pss_cons (ps_if (pt_cmpR (Y.op_neDK (K := K) rfl hr.units) (pv 4) (pe_ix (Y.ix_tupK (K := K) rfl) (pe_ix (Y.ix_listK (K := K) rfl) (pv 0) (pe_ix (Y.ix_tupK (K := K) rfl) (pe_ix (Y.ix_tupK (K := K) rfl) (pv 1) (pv 3) (fun _ _ => rfl)) pe_int (fun _ _ => rfl)) (fun _ _ => rfl)) (pe_callTy Y.call_int1 (by rfl) (T.free 2) (by decide +kernel) (pa_cons (pe_not (pe_ix (Y.ix_tupK (K := K) rfl) (pe_ix (Y.ix_tupK (K := K) rfl) (pv 1) (pv 3) (fun _ _ => rfl)) pe_int (fun _ _ => rfl))) pa_nil)) (fun _ _ => rfl)) (nomark _))
      (pss_one (ps_ret pe_bl))
      pss_nil)
      (pss_one (ps_set (i := 2) sc__law_is_ring.nd rfl (Or.inl rfl) (Y.pe_callC (ok__law_moved T) (cal__law_moved T) (hr.mono (by decide)) (by rfl) pass0 (pa_cons (pv 2) (pa_cons (pe_ix (Y.ix_listK (K := K) rfl) (pv 0) (pe_ix (Y.ix_tupK (K := K) rfl) (pe_ix (Y.ix_tupK (K := K) rfl) (pv 1) (pv 3) (fun _ _ => rfl)) pe_int (fun _ _ => rfl)) (fun _ _ => rfl)) (pa_cons (pe_ix (Y.ix_tupK (K := K) rfl) (pe_ix (Y.ix_tupK (K := K) rfl) (pv 1) (pv 3) (fun _ _ => rfl)) pe_int (fun _ _ => rfl)) pa_nil)))))))))
      (pss_one (ps_ret (pe_cmpR (Y.op_neDK (K := K) rfl hr.units) (pv 2) (pe_tup (pa_cons pe_int (pa_cons pe_int (pa_cons pe_int pa_nil)))) (nomark _)))))))), ?_⟩
    walk_at "sx"
    refine g_isi (b := true) e hv (by rfl) ?_
    refine ⟨true, rfl, ?_⟩
    refine g_nbool (fun h => nomatch h) (fun _ => ?_)
    walk_at "sx"
    refine g_lenT e hv ?_
    rw [List.length_map]
    walk_at "sx"
    refine g_dec (fun h0 => ?_) (fun h0 => ?_)
    · walk_at "sx"
      have : w = [] := List.length_eq_zero_iff.mp (by omega)
      subst this
      exact q_bl (q _ _ (Nx.refl e)) rfl
    walk_at "sx"
    have hne : w ≠ [] := fun z => by rw [z] at h0; simp at h0
    have hj := judR_way hw hne
    rw [hj] at q
    refine g_tupD (K := K) (ds := [.int 0, .int 0, .int 0]) e (.cons (.int _) (.cons (.int _) (.cons (.int _) .nil))) (by simp [sizeLine]) fun u0 G1 H1 n1 d0 => ?_
    walk_at "sx"
    refine g_lenT n1.gh (dp_mono n1.gg hv) ?_
    rw [List.length_map]
    refine g_walkR (by omega) (by omega) ?_
    rw [show ((w.length : Int)).toNat = w.length by omega]
    have El : (wayEnds ls w).length = w.length := by simp [wayEnds]
    refine g_forS (K := K) (M := []) (src_rng 0 _) n1.gh (fun i σ G' H' => ∃ u y3 y4, σ = [some (.ref p), some v, some u, y3, y4] ∧ Dp K G' u (plD (sumW ls (w.take i))) ∧ ∀ k, k < i → ((((wayEnds ls w)[if k = 0 then (wayEnds ls w).length - 1 else k - 1]?).getD ("", "")).2 = (((wayEnds ls w)[k]?).getD ("", "")).1)) ⟨_, _, _, rfl, d0, fun k hk => absurd hk (Nat.not_lt_zero _)⟩ ?_ ?_
    · rintro i z x σ' G2 H2 G3 H3 hi n2 ⟨u, y3, y4, rfl, du, hcy⟩ n3 dx
      obtain ⟨hir, rfl⟩ := rng_get hi
      cases dp_int dx
      have n13 := (n1.trans n2).trans n3
      have n23 := n2.trans n3
      have hL3 := hL.go n13 (by simp)
      have hv3 := dp_mono n13.gg hv
      have hwl : ∀ x ∈ w, ∃ s t a b c, ls[x.1]? = some (.tuple [.str s, .str t, .int a, .int b, .int c]) ∧ nameOk s = true ∧ nameOk t = true := fun x hx => by
        have hxl := hw x hx
        obtain ⟨s, t, a, b, c, hl, h1, h2, _⟩ := lk_form (hlk ls[x.1] (List.getElem_mem hxl))
        exact ⟨s, t, a, b, c, by rw [← hl]; simp [hxl], h1, h2⟩
      obtain ⟨⟨i1, f1⟩, hp⟩ : ∃ x, w[if i = 0 then w.length - 1 else i - 1]? = some x := by
        have h2 : (if i = 0 then w.length - 1 else i - 1) < w.length := by split <;> omega
        exact ⟨_, List.getElem?_eq_getElem h2⟩
      obtain ⟨⟨i2, f2⟩, hc⟩ : ∃ x, w[i]? = some x := ⟨_, List.getElem?_eq_getElem hir⟩
      obtain ⟨s1, t1, a1, b1, c1, hl1, ok1, ok1'⟩ := hwl _ (List.mem_of_getElem? hp)
      obtain ⟨s2, t2, a2, b2, c2, hl2, ok2, ok2'⟩ := hwl _ (List.mem_of_getElem? hc)
      have getP : ∀ {Q' : VK}, (∀ v', Dp K G3 v' (waD (i1, f1)) → Q' v' H3) → rIxT K v (.int ((i : Int) - 1)) H3 Q' := fun qq => by
        by_cases hi0 : i = 0
        · subst hi0
          rw [if_pos rfl] at hp
          exact g_ixTLast n3.gh hv3 (by rw [List.length_map, List.getElem?_map, hp]; rfl) (by omega) qq
        · rw [if_neg hi0] at hp
          exact g_ixT (k := i - 1) n3.gh hv3 (by rw [List.getElem?_map, hp]; rfl) (by omega) qq
      have getC : ∀ {Q' : VK}, (∀ v', Dp K G3 v' (waD (i2, f2)) → Q' v' H3) → rIxT K v (.int (i : Int)) H3 Q' := fun qq => g_ixT (k := i) n3.gh hv3 (by rw [List.getElem?_map, hc]; rfl) rfl qq
      walk_at "sx"
      refine getP fun v1 d1 => ?_
      walk_at "sx"
      refine g_ixT (k := 0) n3.gh d1 rfl rfl fun v2 d2 => ?_
      cases dp_int d2
      refine g_ixLs hL3 (k := i1) hl1 rfl fun v3 d3 => ?_
      walk_at "sx"
      refine getP fun v4 d4 => ?_
      walk_at "sx"
      refine g_ixT (k := 1) n3.gh d4 rfl rfl fun v5 d5 => ?_
      cases dp_bl d5
      walk_at "sx"
      refine g_int1b ?_
      refine g_ixEnd n3.gh d3 ?_
      walk_at "sx"
      refine getC fun v6 d6 => ?_
      walk_at "sx"
      refine g_ixT (k := 0) n3.gh d6 rfl rfl fun v7 d7 => ?_
      cases dp_int d7
      refine g_ixLs hL3 (k := i2) hl2 rfl fun v8 d8 => ?_
      walk_at "sx"
      refine getC fun v9 d9 => ?_
      walk_at "sx"
      refine g_ixT (k := 1) n3.gh d9 rfl rfl fun v10 d10 => ?_
      cases dp_bl d10
      refine ⟨f2, rfl, ?_⟩
      walk_at "sx"
      refine g_int1b ?_
      refine g_ixEnd n3.gh d8 ?_
      have shs : ∀ {s : Str}, nameOk s = true → SeqAt.shaped (.str s) = true := fun h => shaped_fit (fit_name h) (by simp [PyData.depth])
      have sh1 : SeqAt.shaped (.str (if f1 = true then t1 else s1)) = true := by cases f1 <;> simp [shs ok1, shs ok1']
      have sh2 : SeqAt.shaped (.str (if (!f2) = true then t2 else s2)) = true := by cases f2 <;> simp [shs ok2, shs ok2']
      refine g_neD (K := K) (d := .str _) (d' := .str _) n3.gh (.str _) (.str _) sh1 sh2 ?_
      have ee : ∀ a b : Str, PyData.eqv (.str a) (.str b) = decide (a = b) := fun a b => by
        show (a == b) = _
        by_cases h : a = b
        · rw [decide_eq_true h, h]; simp
        · rw [decide_eq_false h]; exact beq_eq_false_iff_ne.mpr h
      rw [ee]
      have eP := ends_at hp hl1
      have eC := ends_at hc hl2
      rw [← El] at eP
      have hat : ((((wayEnds ls w)[if i = 0 then (wayEnds ls w).length - 1 else i - 1]?).getD ("", "")).2 = (((wayEnds ls w)[i]?).getD ("", "")).1) ↔ (if f1 = true then t1 else s1) = (if (!f2) = true then t2 else s2) := by
        rw [eP, eC]
        cases f1 <;> cases f2 <;> exact Iff.rfl
      refine ⟨_, rfl, ?_⟩
      refine g_ndec (fun hbad => ?_) (fun hgood => ?_)
      · walk_at "sx"
        refine q_bl (q _ _ n13) ?_
        have hcb : cycB (wayEnds ls w) = false := by
          cases hcb : cycB (wayEnds ls w) with
          | false => rfl
          | true =>
            unfold cycB at hcb
            have := of_decide_eq_true (List.all_eq_true.mp hcb i (List.mem_range.mpr (by omega)))
            exact absurd (hat.mp this) hbad
        rw [hcb]
        rfl
      walk_at "sx"
      refine getC fun v11 d11 => ?_
      walk_at "sx"
      refine g_ixT (k := 0) n3.gh d11 rfl rfl fun v12 d12 => ?_
      cases dp_int d12
      refine g_ixLs hL3 (k := i2) hl2 rfl fun v13 d13 => ?_
      walk_at "sx"
      refine getC fun v14 d14 => ?_
      walk_at "sx"
      refine g_ixT (k := 1) n3.gh d14 rfl rfl fun v15 d15 => ?_
      cases dp_bl d15
      walk_at "sx"
      refine ⟨G3, u, v13, _, s2, t2, a2, b2, c2, f2, rfl, n3.gh, dp_mono n3.gg du, d13, fun v16 G4 H4 n4 d16 => ?_⟩
      walk_at "sx"
      refine ⟨G4, n23.trans n4, v16, _, _, rfl, ?_, fun k hk => ?_⟩
      · rw [List.take_add_one, hc]
        show Dp K G4 v16 (plD (sumW ls (w.take i ++ [(i2, f2)])))
        rw [sumW_snoc]
        show Dp K G4 v16 (plD (behind (sumW ls (w.take i)) ((ls[i2]?).getD .none) f2))
        rw [hl2]
        exact d16
      · by_cases hki : k = i
        · subst hki
          exact hat.mpr hgood
        · exact hcy k (by omega)
    · rintro σ' G2 H2 n2 ⟨u, y3, y4, rfl, du, hcy⟩
      rw [rng_len] at hcy
      rw [rng_len, List.take_length] at du
      walk_at "sx"
      refine g_tupD (K := K) (ds := [.int 0, .int 0, .int 0]) n2.gh (.cons (.int _) (.cons (.int _) (.cons (.int _) .nil))) (by simp [sizeLine]) fun u1 G3 H3 n3 d1 => ?_
      walk_at "sx"
      refine g_neD (K := K) (d := plD _) (d' := plD (0, 0, 0)) n3.gh (dp_mono n3.gg du) d1 shaped_pl shaped_pl ?_
      rw [eqv_pl]
      refine q_bl (q _ _ ((n1.trans n2).trans n3)) ?_
      have hcb : cycB (wayEnds ls w) = true := by
        unfold cycB
        rw [List.all_eq_true]
        intro k hk
        rw [List.mem_range, El] at hk
        exact decide_eq_true (hcy k hk)
      rw [hcb, Bool.true_and]
theorem dig1 : ∀ i : Nat, i < 10 → partsq (toString (i : Int)) = true ∧ Str.length (toString (i : Int)) = 1 := by decide +kernel
theorem name_cut {s : Str} {i : Nat} (h : nameOk s = true) (hi : i < 10) : nameOk (cutS s none (some 6) ++ toString (i : Int)) = true := by
  have hc := cutS_hi s 6
  unfold nameOk at h
  simp only [Bool.and_eq_true, decide_eq_true_eq] at h
  obtain ⟨⟨⟨h1, h2⟩, h3⟩, h4⟩ := h
  have hl : s.cps.toList.length = s.length := Array.length_toList
  have hn : (cutS s none (some 6)).length ≤ 6 := by
    show (cutS s none (some 6)).cps.size ≤ 6
    rw [← Array.length_toList]
    show (cutS s none (some ((6 : Nat) : Int))).cps.toList.length ≤ 6
    rw [hc, List.length_take]
    omega
  have d1 := dig1 i hi
  refine nameOk_of ?_ ?_ (headq_app ?_) (partsq_app ?_ d1.1)
  · rw [app_len, d1.2]; omega
  · rw [app_len, d1.2]; omega
  · unfold headq
    show (match (cutS s none (some ((6 : Nat) : Int))).cps.toList with | [] => false | c :: _ => letq c) = true
    rw [hc]
    cases e : s.cps.toList with
    | nil => rw [e] at hl; simp at hl; omega
    | cons c r => rw [e] at h3; exact h3
  · unfold partsq
    show (cutS s none (some ((6 : Nat) : Int))).cps.toList.all _ = true
    rw [hc]
    exact List.all_eq_true.mpr fun c hc => List.all_eq_true.mp h4 c (List.mem_of_mem_take hc)
theorem name_zq {i : Nat} (hi : i < 10) : nameOk (("z" : Str) ++ toString (i : Int) ++ ("q" : Str)) = true := (by decide +kernel : ∀ i : Nat, i < 10 → nameOk (("z" : Str) ++ toString (i : Int) ++ ("q" : Str)) = true) i hi
theorem name_zq9 {i : Nat} (hi : i < 10) : ("z" : Str) ++ toString (i : Int) ++ ("q" : Str) ≠ "zz9" := (by decide +kernel : ∀ i : Nat, i < 10 → ("z" : Str) ++ toString (i : Int) ++ ("q" : Str) ≠ "zz9") i hi
theorem dig_cps : ∀ i : Nat, i < 9 → (toString (i : Int) : Str).cps.toList = [48 + i] := by decide +kernel
theorem name_cut9 {s : Str} {i : Nat} (hi : i < 9) : s ++ toString (i : Int) ≠ "zz9" := by
  intro z
  have h1 : (s ++ toString (i : Int)).cps.toList.getLast? = ("zz9" : Str).cps.toList.getLast? := by rw [z]
  rw [app_list, dig_cps i hi, List.getLast?_append] at h1
  have h2 : ("zz9" : Str).cps.toList.getLast? = some 57 := by decide +kernel
  rw [h2] at h1
  simp at h1
  omega
def zq (i : Nat) : Str := ("z" : Str) ++ toString (i : Int) ++ ("q" : Str)
/-- the names drawn ahead of turn i -/
def goodN (i : Nat) (s : Str) : Prop := (s.length ≠ 3 ∨ s = "end") ∨ (∃ c, s.cps.toList.getLast? = some c ∧ 48 ≤ c ∧ c ≤ 57) ∨ ∃ j, j < i ∧ s = zq j
theorem zq_facts : ∀ i : Nat, i < 10 → Str.length (zq i) = 3 ∧ zq i ≠ "end" ∧ (zq i).cps.toList.getLast? = some 113 ∧ ∀ j : Nat, j < i → zq j ≠ zq i := by decide +kernel
theorem zq_new {i : Nat} {s : Str} (hi : i < 10) (h : goodN i s) : s ≠ zq i := by
  obtain ⟨f1, f2, f3, f4⟩ := zq_facts i hi
  rintro rfl
  rcases h with (h | h) | ⟨c, h, h1, h2⟩ | ⟨j, hj, h⟩
  · exact h f1
  · exact f2 h
  · rw [f3] at h
    cases h
    omega
  · exact f4 j hj h.symm
theorem goodN.mono {i j : Nat} {s : Str} (h : goodN i s) (hij : i ≤ j) : goodN j s := by
  rcases h with h | h | ⟨k, hk, h⟩
  · exact .inl h
  · exact .inr (.inl h)
  · exact .inr (.inr ⟨k, by omega, h⟩)
theorem cut_good {s : Str} {i : Nat} (hi : i < 9) : goodN (i + 1) (s ++ toString (i : Int)) := by
  refine .inr (.inl ⟨48 + i, ?_, by omega, by omega⟩)
  rw [app_list, dig_cps i hi, List.getLast?_append]
  rfl
def sp__law_names (K : PySem.W.Frag) : Sp := fun vs H Q _ => ∃ G a c, vs = [.ref a, .int c] ∧ Y.Ex G H ∧ PoolAt K a G H ∧ 0 ≤ c ∧ c ≤ 9 ∧ ∀ (p : Addr) (ns : List Str) G' H', (∀ s ∈ ns, nameOk s = true ∧ s ≠ "zz9") → ((ns.length : Int) = c ∧ ns.Nodup) → H p = none → LstAt K p G' H' (ns.map .str) → Nx [a] G H G' H' → PoolAt K a G' H' → Q (.ref p) H'
theorem ok__law_names (T : Tx fa fn bx K mg) : FnOk P w K mg base CX0 4 (He.ga K "_law_names") (fdOf K (He.ga K "_law_names")) ["pool", "count"] (sp__law_names K) := by
  refine FunD.ok (F__law_names T) sc__law_names (fun vs H Q E h => ?_) (fun cdv A outer s H vs Q E hr h => ?_)
  · obtain ⟨_, _, _, rfl, _⟩ := h
    rfl
  · obtain ⟨G, a, c, rfl, e, hp, hc0, hc1, q⟩ := h
    refine ⟨_, PSs.nox ((pss_cons (ps_set (i := 2) sc__law_names.nd rfl (Or.inl rfl) (pe_lst pa_nil))
      (pss_cons (ps_for PassesOwn.never rfl (pi_range1 (by rfl) (T.free 16) (pa_cons (pv 1) pa_nil)) (pg_name (i := 3) sc__law_names.nd rfl (Or.inl rfl))
      (pss_cons (ps_set (i := 4) sc__law_names.nd rfl (Or.inl rfl) (Y.pe_callC (ok__law_name T) (cal__law_name T) (hr.mono (by decide)) (by rfl) pass0 (pa_cons (pv 0) pa_nil)))
      (pss_cons (ps_if (pt_cmpR (Y.op_inK (K := K) rfl) (pv 4) (pv 2) (by rfl))
      (pss_one (ps_set (i := 4) sc__law_names.nd rfl (Or.inl rfl) (pe_op Y.op_addS (pe_slice sl_str (pv 4) po_none (po_some pe_int)) (pe_callTy Y.call_strI (by rfl) (T.free 13) (by decide +kernel) (pa_cons (pv 3) pa_nil)))))
      pss_nil)
      (pss_cons (ps_if (pt_cmpR (Y.op_inK (K := K) rfl) (pv 4) (pv 2) (by rfl))
      (pss_one (ps_set (i := 4) sc__law_names.nd rfl (Or.inl rfl) (pe_op Y.op_addS (pe_op Y.op_addS pe_str (pe_callTy Y.call_strI (by rfl) (T.free 13) (by decide +kernel) (pa_cons (pv 3) pa_nil))) pe_str)))
      pss_nil)
      (pss_one (ps_expr (Y.pe_bmK (K := K) rfl PySem.F.plainAttrs_list PySem.F.slot_list_append PySem.F.type_list_append mt_append (pv 2) (pa_cons (pv 4) pa_nil))))))))
      (pss_one (ps_ret (pv 2)))))), ?_⟩
    walk_at "sx"
    refine g_lstM (xs := []) e (Nat.zero_le _) fun p H1 n1 np hp1 gp => ?_
    have hpa : p ≠ a := fun z => hp.live (z ▸ np)
    walk_at "sx"
    refine g_walkR (by omega) (by omega) ?_
    refine g_forS (K := K) (M := [a, p]) (src_rng 0 _) n1.gh (fun i σ G' H' => PoolAt K a G' H' ∧ ∃ ns y3 y4, σ = [some (.ref a), some (.int c), some (.ref p), y3, y4] ∧ ns.length = i ∧ (∀ s ∈ ns, nameOk s = true ∧ s ≠ "zz9") ∧ ((∀ s ∈ ns, goodN i s) ∧ ns.Nodup) ∧ LstAt K p G' H' (ns.map .str)) ⟨hp.go n1 (by simp), [], _, _, rfl, rfl, by simp, ⟨by simp, by simp⟩, [], hp1, gp, .nil⟩ ?_ ?_
    · rintro i d w σ' G2 H2 G3 H3 hi n2 ⟨hp2, ns, y3, y4, rfl, hl, hn, ⟨hg, hnd⟩, hL⟩ n3 dw
      obtain ⟨hic, rfl⟩ := rng_get hi
      cases dp_int dw
      have hi10 : i < 10 := by omega
      walk_at "sx"
      refine ⟨G3, a, rfl, n3.gh, hp2.go n3 (by simp), fun s G4 H4 ⟨⟨hs, hz⟩, h3⟩ n4 hp4 => ?_⟩
      have hs8 : s.length ≤ 8 := (nameOk_inv hs).2.1
      obtain ⟨vs, hvs, gvs, dvs⟩ := (hL.go n3 (by simp)).go n4 (by simp [hpa])
      rw [dpAll_str_inv dvs] at hvs
      have n24 : Nx [a, p] G H1 G4 H4 := (n2.trans n3.pure).trans (n4.mono fun x hx => by simp at hx; simp [hx])
      have fin : ∀ t, (nameOk t = true ∧ t ≠ "zz9") → goodN (i + 1) t → t ∉ ns → ∃ G5, Nx [a, p] G H1 G5 (upd H4 p (.lst (ns.map V.str ++ [.str t]))) ∧ (PoolAt K a G5 (upd H4 p (.lst (ns.map V.str ++ [.str t]))) ∧ ∃ (ns' : List Str) (y3 y4 : Option V), [some (V.ref a), some (.int c), some (.ref p), some (.int (i : Int)), some (.str t)] = [some (.ref a), some (.int c), some (.ref p), y3, y4] ∧ ns'.length = i + 1 ∧ (∀ s ∈ ns', nameOk s = true ∧ s ≠ "zz9") ∧ ((∀ s ∈ ns', goodN (i + 1) s) ∧ ns'.Nodup) ∧ LstAt K p G5 (upd H4 p (.lst (ns.map V.str ++ [.str t]))) (ns'.map .str)) := fun t ht tg tn =>
        ⟨G4, n24.trans (Nx.set n24.gh gvs (by simp)), hp4.upd hpa, ns ++ [t], _, _, rfl, by simp [hl], fun x hx => by
          rcases List.mem_append.mp hx with hx | hx
          · exact hn x hx
          · simp only [List.mem_cons, List.not_mem_nil, or_false] at hx
            exact hx ▸ ht, ⟨fun x hx => by
          rcases List.mem_append.mp hx with hx | hx
          · exact (hg x hx).mono (by omega)
          · simp only [List.mem_cons, List.not_mem_nil, or_false] at hx
            exact hx ▸ tg, List.nodup_append.mpr ⟨hnd, by simp, fun x hx y hy => by
          simp only [List.mem_cons, List.not_mem_nil, or_false] at hy
          rintro rfl
          exact tn (hy ▸ hx)⟩⟩, _, upd_same, gvs, by rw [List.map_append]; exact dpAll_snoc (dpAll_str ns) (.str t)⟩
      have hlz : (ns.map V.str).length < sizeLine := by rw [List.length_map, hl]; exact szl (by omega)
      have lg : (i : Int).natAbs.log2 < 1920 := by
        have : (i : Int).natAbs = i := by omega
        rw [this]
        exact Nat.lt_of_le_of_lt (Nat.log2_le_self i) (by omega)
      have d1 := dig1 i hi10
      walk_at "sx"
      refine g_inSF (.of hvs) ?_
      walk_at "sx"
      refine g_dec (fun z1 => ?_) (fun z1 => ?_) <;> walk_at "sx"
      · refine g_slS (szle (by omega)) ?_
        walk_at "sx"
        refine g_strI lg ?_
        walk_at "sx"
        have hc := name_cut hs hi10
        have hcl : (cutS s none (some 6)).length ≤ s.length := cutS_length s none (some 6)
        refine g_addS (by rw [d1.2]; exact szle (by omega)) ?_
        walk_at "sx"
        refine g_inSF (.of hvs) ?_
        walk_at "sx"
        refine g_dec (fun z2 => ?_) (fun z2 => ?_) <;> walk_at "sx"
        · refine g_strI lg ?_
          walk_at "sx"
          refine g_addS (by rw [d1.2]; decide) ?_
          walk_at "sx"
          refine g_addS (by rw [app_len, d1.2]; decide) ?_
          walk_at "sx"
          refine g_tyL hvs ?_
          walk_at "sx"
          refine g_app hvs hlz ?_
          exact fin _ ⟨name_zq hi10, name_zq9 hi10⟩ (.inr (.inr ⟨i, by omega, rfl⟩)) (fun z => zq_new hi10 (hg _ z) rfl)
        · refine g_tyL hvs ?_
          walk_at "sx"
          refine g_app hvs hlz ?_
          exact fin _ ⟨hc, name_cut9 (by omega)⟩ (cut_good (by omega)) z2
      · refine g_inSF (.of hvs) ?_
        walk_at "sx"
        refine g_dec (fun z2 => absurd z2 z1) (fun z2 => ?_)
        walk_at "sx"
        refine g_tyL hvs ?_
        walk_at "sx"
        refine g_app hvs hlz ?_
        exact fin _ ⟨hs, hz⟩ (.inl h3) z2
    · rintro σ' G2 H2 n2 ⟨hp2, ns, y3, y4, rfl, hl, hn, ⟨hg, hnd⟩, hL⟩
      rw [rng_len] at hl
      walk_at "sx"
      exact q p ns G2 H2 hn ⟨by omega, hnd⟩ np hL (((n1.pure (M := [a, p])).trans n2).sub fun x hx => by
        simp only [List.mem_cons, List.not_mem_nil, or_false] at hx
        rcases hx with rfl | rfl
        · exact .inl (by simp)
        · exact .inr np) hp2
def sp__law_pool (K : PySem.W.Frag) : Sp := fun vs H Q _ => ∃ (G : Hp) (a : Addr) (ns : List Int), vs = [.ref a] ∧ Y.Ex G H ∧ SqL K G a (ns.map V.int) ∧ ∀ p G' H', Nx [] G H G' H' → H p = none → PoolAt K p G' H' → Q (.ref p) H'
theorem ok__law_pool (T : Tx fa fn bx K mg) : FnOk P w K mg base CX0 1 (He.ga K "_law_pool") (fdOf K (He.ga K "_law_pool")) ["script"] (sp__law_pool K) := by
  refine FunD.ok (F__law_pool T) sc__law_pool (fun vs H Q E h => ?_) (fun cdv A outer s H vs Q E hr h => ?_)
  · obtain ⟨_, _, _, rfl, _⟩ := h
    rfl
  · obtain ⟨G, a, ns, rfl, e, hs, q⟩ := h
    refine ⟨_, PSs.nox ((pss_one (ps_ret (pe_lst (pa_cons pe_int (pa_cons (pe_callTy (Y.call_listK (K := K) rfl) (by rfl) (T.free 31) (by decide +kernel) (pa_cons (pv 0) pa_nil)) (pa_cons (pe_un un_neg pe_int) pa_nil))))))), ?_⟩
    walk_at "sx"
    refine g_listOf e (.inl (.lst hs (dpAll_ints ns))) fun l G1 H1 n1 dl => ?_
    walk_at "sx"
    refine g_lstM (xs := [.int 0, .ref l, .int (-1)]) n1.gh (by show 3 ≤ sizeLine; decide) fun p H2 n2 np hp gp => ?_
    obtain ⟨l', vs, el, sl, dl'⟩ := dp_lst dl
    cases el
    rw [dpAll_ints_inv dl'] at sl
    exact q p G1 H2 (n1.trans n2) (n1.fresh np) ⟨gp, 0, -1, l, ns, hp, sl, by decide, by decide⟩
def wayOk (ls : List PyData) (w : Way) : Prop := ∀ x ∈ w, x.1 < ls.length
theorem g_orS {c : Bool} {B E C : Prop} (hC : c = false → B → C) (hB : B) : if c = true then (if true = true then B else E) else C := by
  cases c with
  | false => exact hC rfl hB
  | true => exact hB
theorem way_app {a b : Way} : (a ++ b).map waD = a.map waD ++ b.map waD := List.map_append ..
def sp__law_ring_like (K : PySem.W.Frag) : Sp := fun vs H Q _ => ∃ G a r v ls w, vs = [.ref a, .ref r, v] ∧ Y.Ex G H ∧ PoolAt K a G H ∧ LstAt K r G H ls ∧ r ≠ a ∧ 1 ≤ ls.length ∧ ls.length ≤ 60 ∧ Dp K G v (wayD w) ∧ wayOk ls w ∧ w.length ≤ 200 ∧
  ∀ u G' H', ∀ w' : Way, Nx [a] G H G' H' → PoolAt K a G' H' → Dp K G' u (wayD w') → wayOk ls w' → w'.length ≤ 500 → Q u H'
theorem ok__law_ring_like (T : Tx fa fn bx K mg) : FnOk P w K mg base CX0 3 (He.ga K "_law_ring_like") (fdOf K (He.ga K "_law_ring_like")) ["pool", "links", "ring"] (sp__law_ring_like K) := by
  refine FunD.ok (F__law_ring_like T) sc__law_ring_like (fun vs H Q E h => ?_) (fun cdv A outer s H vs Q E hr h => ?_)
  · obtain ⟨_, _, _, _, _, _, rfl, _⟩ := h
    rfl
  · obtain ⟨G, a, r, v, ls, w, rfl, e, hp, hL, hra, hl1, hll, hv, hw, hwl, q⟩ := h
    refine ⟨_, PSs.nox ((pss_cons (ps_set (i := 3) sc__law_ring_like.nd rfl (Or.inl rfl) (Y.pe_callC (ok__law_take T) (cal__law_take T) (hr.mono (by decide)) (by rfl) pass0 (pa_cons (pv 0) (pa_cons pe_int pa_nil))))
      (pss_cons (ps_if (PW.pt (pw_or (pt_not (Y.pt_truthK (K := K) rfl (pv 2) (by intro _; rfl))) (pw_or1 (pt_cmpR op_eq (pv 3) pe_int (nomark _)))))
      (pss_one (ps_ret (pe_callTy (Y.call_tupleK (K := K) rfl) (by rfl) (T.free 4) (by decide +kernel) (pa_cons (pe_lc (own := [("k", 5)]) (tt := tYes) rfl sc__law_ring_like.nd (pi_range1 (by rfl) (T.free 16) (pa_cons (pe_op op_add pe_int (Y.pe_callC (ok__law_take T) (cal__law_take T) (hr.mono (by decide)) (by rfl) pass0 (pa_cons (pv 0) (pa_cons pe_int pa_nil)))) pa_nil)) (blkOk_by (own := [("k", 5)]) (by kernel_rfl)) (fun _ _ _ _ _ => (pg_name (i := 5) sc__law_ring_like.nd rfl (Or.inl rfl))) (fun _ _ _ _ _ => pts_nil) (fun _ _ _ _ _ => (pe_tup (pa_cons (Y.pe_callC (ok__law_take T) (cal__law_take T) (hr.mono (by decide)) (by rfl) pass0 (pa_cons (pv 0) (pa_cons (pe_callB (Y.call_lenK (K := K) rfl) (by rfl) (T.free 3) (by decide +kernel) (pa_cons (pv 1) pa_nil)) pa_nil))) (pa_cons (pe_cmpR op_eq (Y.pe_callC (ok__law_take T) (cal__law_take T) (hr.mono (by decide)) (by rfl) pass0 (pa_cons (pv 0) (pa_cons pe_int pa_nil))) pe_int (nomark _)) pa_nil))))) pa_nil))))
      pss_nil)
      (pss_cons (ps_if (pt_cmpR op_eq (pv 3) pe_int (nomark _))
      (pss_one (ps_ret (pe_callTy (Y.call_tupleK (K := K) rfl) (by rfl) (T.free 4) (by decide +kernel) (pa_cons (pe_lc (own := [("step", 6)]) (tt := tYes) rfl sc__law_ring_like.nd (Y.pi_listK (K := K) rfl (Y.pe_listRev (K := K) rfl rfl (by rfl) (T.free 31) (by rfl) (T.free 9) (pv 2))) (blkOk_by (own := [("step", 6)]) (by kernel_rfl)) (fun _ _ _ _ _ => (pg_name (i := 6) sc__law_ring_like.nd rfl (Or.inl rfl))) (fun _ _ _ _ _ => pts_nil) (fun _ _ _ _ _ => (pe_tup (pa_cons (pe_ix (Y.ix_tupK (K := K) rfl) (pv 6) pe_int (fun _ _ => rfl)) (pa_cons (pe_not (pe_ix (Y.ix_tupK (K := K) rfl) (pv 6) pe_int (fun _ _ => rfl))) pa_nil))))) pa_nil))))
      pss_nil)
      (pss_cons (ps_set (i := 4) sc__law_ring_like.nd rfl (Or.inl rfl) (Y.pe_callC (ok__law_take T) (cal__law_take T) (hr.mono (by decide)) (by rfl) pass0 (pa_cons (pv 0) (pa_cons (pe_callB (Y.call_lenK (K := K) rfl) (by rfl) (T.free 3) (by decide +kernel) (pa_cons (pv 2) pa_nil)) pa_nil))))
      (pss_cons (ps_if (pt_cmpR op_eq (pv 3) pe_int (nomark _))
      (pss_one (ps_ret (pe_op (Y.op_catAK (K := K) rfl) (pe_slice (Y.sl_tupAK (K := K) rfl) (pv 2) (po_some (pv 4)) po_none) (pe_slice (Y.sl_tupAK (K := K) rfl) (pv 2) po_none (po_some (pv 4))))))
      pss_nil)
      (pss_cons (ps_if (pt_cmpR op_eq (pv 3) pe_int (nomark _))
      (pss_one (ps_ret (pe_op (Y.op_catAK (K := K) rfl) (pv 2) (pv 2))))
      pss_nil)
      (pss_cons (ps_if (pt_cmpR op_eq (pv 3) pe_int (nomark _))
      (pss_one (ps_ret (pe_op (Y.op_catAK (K := K) rfl) (pe_slice (Y.sl_tupAK (K := K) rfl) (pv 2) po_none (po_some (pv 4))) (pe_slice (Y.sl_tupAK (K := K) rfl) (pv 2) (po_some (pe_op op_add (pv 4) pe_int)) po_none))))
      pss_nil)
      (pss_one (ps_ret (pe_op (Y.op_catAK (K := K) rfl) (pv 2) (pe_callTy (Y.call_tupleK (K := K) rfl) (by rfl) (T.free 4) (by decide +kernel) (pa_cons (pe_lc (own := [("step", 6)]) (tt := tYes) rfl sc__law_ring_like.nd (Y.pi_listK (K := K) rfl (Y.pe_listRev (K := K) rfl rfl (by rfl) (T.free 31) (by rfl) (T.free 9) (pv 2))) (blkOk_by (own := [("step", 6)]) (by kernel_rfl)) (fun _ _ _ _ _ => (pg_name (i := 6) sc__law_ring_like.nd rfl (Or.inl rfl))) (fun _ _ _ _ _ => pts_nil) (fun _ _ _ _ _ => (pe_tup (pa_cons (pe_ix (Y.ix_tupK (K := K) rfl) (pv 6) pe_int (fun _ _ => rfl)) (pa_cons (pe_not (pe_ix (Y.ix_tupK (K := K) rfl) (pv 6) pe_int (fun _ _ => rfl))) pa_nil))))) pa_nil))))))))))))), ?_⟩
    walk_at "sx"
    refine ⟨G, a, 6, rfl, e, hp, by decide, by decide, fun ch H1 c0 c1 n1 hp1 => ?_⟩
    walk_at "sx"
    have hL1 := hL.go n1 (by simp [hra])
    obtain ⟨t0, us, et, hus, dus⟩ := dp_tup hv
    have ul := dpAll_len dus
    rw [List.length_map] at ul
    subst et
    refine ⟨!us.isEmpty, .inr (.inl ⟨us, n1.gh.seqT hus, rfl⟩), ?_⟩
    refine g_orS (fun hne hb => ?_) ?_
    rotate_left
    · walk_at "sx"
      refine ⟨G, a, 4, rfl, n1.gh, hp1, by decide, by decide, fun i0 H2 i00 i01 n2 hp2 => ?_⟩
      walk_at "sx"
      refine g_walkR (by omega) (by omega) ?_
      have n12 := n1.trans n2
      have hL2 := hL1.go n2 (by simp [hra])
      intro A hA
      have Aa : A ≠ a := fun z => hp2.live (z ▸ hA)
      have Ar : A ≠ r := fun z => hL2.live (z ▸ hA)
      refine g_lcQ (K := K) (M := [a]) (Src.p (K := K) (src_rng 0 _)) n12.gh hA (by simp [hp2.live]) (by rw [rng_len]; exact szl (by omega)) (fun i acc G' H' => PoolAt K a G' H' ∧ LstAt K r G' H' ls ∧ ∃ ws : Way, ws.length ≤ i ∧ wayOk ls ws ∧ DpAll K G' acc (ws.map waD)) (fun i acc G' H' o hO h => ⟨h.1.upd Aa, h.2.1.upd Ar, h.2.2⟩) (fun _ _ _ _ _ _ n h => ⟨h.1.go n (by simp), h.2.1.go n (by simp), h.2.2.elim fun ws hh => ⟨ws, hh.1, hh.2.1, dpAll_mono n.gg hh.2.2⟩⟩) ⟨hp2, hL2, [], Nat.zero_le _, (fun x hx => by cases hx), .nil⟩ (fun i v' acc G5 H5 hi hpp n5 _ _ hj QE QN k1 k2 => ?_) fun G5 H5 ys hj n5 g5 h5 hyl => ?_
      · refine ⟨by first | rfl | exact wipe1, ?_⟩
        obtain ⟨hp5, hL5, ws, hws, hwo, dws⟩ := hj
        walk_at "sx"
        refine g_lenLs hL5 ?_
        refine ⟨G5, a, _, rfl, n5.gh, hp5, by omega, by omega, fun j H6 j0 j1 n6 hp6 => ?_⟩
        obtain ⟨j, rfl⟩ := Int.eq_ofNat_of_zero_le j0
        walk_at "sx"
        refine ⟨G5, a, 2, rfl, n6.gh, hp6, by decide, by decide, fun f H7 f0 f1 n7 hp7 => ?_⟩
        walk_at "sx"
        refine g_tupD (K := K) n7.gh (.cons (.int _) (.cons (.bl _) .nil)) (by show 2 ≤ sizeLine; decide) fun t6 G8 H8 n8 d8 => ?_
        have n58 := (n6.trans n7).trans n8.pure
        refine k1 _ G8 H8 n58 ⟨hp7.go n8 (by simp), hL5.go n58 (by simp [hra]), ws ++ [(j, decide (f = 1))], by simp; omega, fun x hx => ?_, ?_⟩
        · rcases List.mem_append.mp hx with hx | hx
          · exact hwo x hx
          · simp only [List.mem_cons, List.not_mem_nil, or_false] at hx
            subst hx
            show j < ls.length
            omega
        · rw [way_app]
          exact dpAll_snoc (dpAll_mono n58.gg dws) d8
      · obtain ⟨hp5, hL5, ws, hws, hwo, dws⟩ := hj
        rw [rng_len] at hws
        walk_at "sx"
        refine g_tupOfM n5.gh h5 dws fun t8 G8 H8 n8 d8 => ?_
        exact q _ G8 H8 ws ((n12.trans n5).trans n8.pure) (hp5.go n8 (by simp)) d8 hwo (by omega)
    walk_at "sx"
    refine g_dec (fun h0 => hb) (fun h0 => ?_)
    walk_at "sx"
    refine g_dec (fun h1 => ?_) (fun h1 => ?_)
    · walk_at "sx"
      refine g_lrevT n1.gh hv fun p1 H2 n2 hp10 hP1 => ?_
      have hP1 : LstAt K p1 G H2 (w.reverse.map waD) := by rw [List.map_reverse]; exact hP1
      walk_at "sx"
      refine g_walkLs hP1 fun S => ?_
      intro A hA
      refine g_lcPS (K := K) (M := []) (es := fun i => ((w.reverse.take i).map fun x => (x.1, !x.2)).map waD) (S [] (by simp)) n2.gh hA (by simp) (by rw [List.length_map, List.length_reverse]; exact szl (by omega)) (by simp) (fun i dd v4 acc G5 H5 hi d4 n5 _ QE QN k1 k2 => ?_) fun G5 H5 n5 hLb => ?_
      · rw [List.getElem?_map] at hi
        obtain ⟨x, hx, rfl⟩ := Option.map_eq_some_iff.mp hi
        refine ⟨by first | rfl | exact wipe1, ?_⟩
        walk_at "sx"
        refine g_ixT (k := 0) n5.gh d4 rfl rfl fun v5 d5 => ?_
        cases dp_int d5
        walk_at "sx"
        refine g_ixT (k := 1) n5.gh d4 rfl rfl fun v6 d6 => ?_
        cases dp_bl d6
        refine ⟨x.2, rfl, ?_⟩
        walk_at "sx"
        refine g_tupD (K := K) n5.gh (.cons (.int _) (.cons (.bl _) .nil)) (by show 2 ≤ sizeLine; decide) fun t6 G6 H6 n6 d7 => ?_
        refine k1 _ G6 H6 _ n6 d7 ?_
        rw [List.take_add_one, hx, List.map_append, List.map_append]
        rfl
      rw [List.length_map, ← List.length_reverse, List.length_reverse, List.take_of_length_le (by simp)] at hLb
      obtain ⟨ys, hy, gy, dy⟩ := hLb
      walk_at "sx"
      refine g_tupOfM n5.gh hy dy fun t8 G8 H8 n8 d8 => ?_
      have hwb : wayOk ls (w.reverse.map fun x => (x.1, !x.2)) := fun x hx => by
        obtain ⟨z, hz, rfl⟩ := List.mem_map.mp hx
        exact hw z (List.mem_reverse.mp hz)
      exact q _ G8 H8 _ (((n1.trans n2.pure).trans n5.pure).trans n8.pure) (((hp1.go n2 (by simp)).go n5 (by simp)).go n8 (by simp)) d8 hwb (by simp; omega)
    walk_at "sx"
    refine g_lenT n1.gh hv ?_
    rw [List.length_map]
    have hne2 : 0 < w.length := by
      cases us with
      | nil => simp at hne
      | cons u us => simp at ul; omega
    refine ⟨G, a, _, rfl, n1.gh, hp1, by omega, by omega, fun at0 H2 a0 a1 n2 hp2 => ?_⟩
    obtain ⟨at0, rfl⟩ := Int.eq_ofNat_of_zero_le a0
    have n12 := n1.trans n2
    walk_at "sx"
    refine g_dec (fun h2 => ?_) (fun h2 => ?_)
    · walk_at "sx"
      refine g_slLo (k := at0) n2.gh hv rfl fun v3 G3 H3 n3 d3 => ?_
      walk_at "sx"
      refine g_slHi (k := at0) n3.gh (dp_mono n3.gg hv) rfl fun v4 G4 H4 n4 d4 => ?_
      refine g_catA n4.gh (dp_mono n4.gg d3) d4 ?_ fun v5 G5 H5 n5 d5 => ?_
      · exact szle (by simp only [List.length_append, List.length_map, List.length_drop, List.length_take, List.length_reverse]; omega)
      refine q _ G5 H5 (w.drop at0 ++ w.take at0) (((n12.trans n3.pure).trans n4.pure).trans n5.pure) (((hp2.go n3 (by simp)).go n4 (by simp)).go n5 (by simp)) ?_ (fun x hx => ?_) (by simp; omega)
      · unfold wayD
        rw [way_app, List.map_drop, List.map_take]
        exact d5
      · rcases List.mem_append.mp hx with hx | hx
        · exact hw x (List.mem_of_mem_drop hx)
        · exact hw x (List.mem_of_mem_take hx)
    walk_at "sx"
    refine g_dec (fun h3 => ?_) (fun h3 => ?_)
    · walk_at "sx"
      refine g_catA n2.gh hv hv ?_ fun v5 G5 H5 n5 d5 => ?_
      · exact szle (by simp only [List.length_append, List.length_map, List.length_drop, List.length_take, List.length_reverse]; omega)
      refine q _ G5 H5 (w ++ w) (n12.trans n5.pure) (hp2.go n5 (by simp)) (by unfold wayD; rw [way_app]; exact d5) (fun x hx => ?_) (by simp; omega)
      rcases List.mem_append.mp hx with hx | hx <;> exact hw x hx
    walk_at "sx"
    refine g_dec (fun h4 => ?_) (fun h4 => ?_)
    · walk_at "sx"
      refine g_slHi (k := at0) n2.gh hv rfl fun v3 G3 H3 n3 d3 => ?_
      walk_at "sx"
      refine g_slLo (k := at0 + 1) n3.gh (dp_mono n3.gg hv) (by omega) fun v4 G4 H4 n4 d4 => ?_
      refine g_catA n4.gh (dp_mono n4.gg d3) d4 ?_ fun v5 G5 H5 n5 d5 => ?_
      · exact szle (by simp only [List.length_append, List.length_map, List.length_drop, List.length_take, List.length_reverse]; omega)
      refine q _ G5 H5 (w.take at0 ++ w.drop (at0 + 1)) (((n12.trans n3.pure).trans n4.pure).trans n5.pure) (((hp2.go n3 (by simp)).go n4 (by simp)).go n5 (by simp)) ?_ (fun x hx => ?_) (by simp; omega)
      · unfold wayD
        rw [way_app, List.map_drop, List.map_take]
        exact d5
      · rcases List.mem_append.mp hx with hx | hx
        · exact hw x (List.mem_of_mem_take hx)
        · exact hw x (List.mem_of_mem_drop hx)
    · walk_at "sx"
      refine g_lrevT n2.gh hv fun p1 H3 n3 hp10 hP1 => ?_
      have hP1 : LstAt K p1 G H3 (w.reverse.map waD) := by rw [List.map_reverse]; exact hP1
      walk_at "sx"
      refine g_walkLs hP1 fun S => ?_
      intro A hA
      refine g_lcPS (K := K) (M := []) (es := fun i => ((w.reverse.take i).map fun x => (x.1, !x.2)).map waD) (S [] (by simp)) n3.gh hA (by simp) (by rw [List.length_map, List.length_reverse]; exact szl (by omega)) (by simp) (fun i dd v4 acc G5 H5 hi d4 n5 _ QE QN k1 k2 => ?_) fun G5 H5 n5 hLb => ?_
      · rw [List.getElem?_map] at hi
        obtain ⟨x, hx, rfl⟩ := Option.map_eq_some_iff.mp hi
        refine ⟨by first | rfl | exact wipe1, ?_⟩
        walk_at "sx"
        refine g_ixT (k := 0) n5.gh d4 rfl rfl fun v5 d5 => ?_
        cases dp_int d5
        walk_at "sx"
        refine g_ixT (k := 1) n5.gh d4 rfl rfl fun v6 d6 => ?_
        cases dp_bl d6
        refine ⟨x.2, rfl, ?_⟩
        walk_at "sx"
        refine g_tupD (K := K) n5.gh (.cons (.int _) (.cons (.bl _) .nil)) (by show 2 ≤ sizeLine; decide) fun t6 G6 H6 n6 d7 => ?_
        refine k1 _ G6 H6 _ n6 d7 ?_
        rw [List.take_add_one, hx, List.map_append, List.map_append]
        rfl
      rw [List.length_map, ← List.length_reverse, List.length_reverse, List.take_of_length_le (by simp)] at hLb
      obtain ⟨ys, hy, gy, dy⟩ := hLb
      walk_at "sx"
      refine g_tupOfM n5.gh hy dy fun t8 G8 H8 n8 d8 => ?_
      have hwb : wayOk ls (w.reverse.map fun x => (x.1, !x.2)) := fun x hx => by
        obtain ⟨z, hz, rfl⟩ := List.mem_map.mp hx
        exact hw z (List.mem_reverse.mp hz)
      walk_at "sx"
      refine g_catA n8.gh (dp_mono (n5.gg.trans n8.gg) hv) d8 ?_ fun v9 G9 H9 n9 d9 => ?_
      · exact szle (by simp only [List.length_append, List.length_map, List.length_drop, List.length_take, List.length_reverse]; omega)
      refine q _ G9 H9 (w ++ w.reverse.map fun x => (x.1, !x.2)) ((((n12.trans n3.pure).trans n5.pure).trans n8.pure).trans n9.pure) ((((hp2.go n3 (by simp)).go n5 (by simp)).go n8 (by simp)).go n9 (by simp)) (by unfold wayD; rw [way_app]; exact d9) (fun x hx => ?_) (by simp; omega)
      rcases List.mem_append.mp hx with hx | hx
      · exact hw x hx
      · exact hwb x hx
/-! what judges tells of a laying and what the law tells: the same -/
theorem grp_hd {nm : List Str} {nl : List (Nat × PyData)} {s : Str} (ok : nlOk nm nl) (hs : s ∈ nm) : hdOf (grp nm nl s) ∈ grp nm nl s ∧ ∃ r, grp nm nl s = hdOf (grp nm nl s) :: r := by
  have := grp_own ok hs
  cases hg : grp nm nl s with
  | nil => rw [hg] at this; cases this
  | cons y t => exact ⟨by simp [hdOf], t, rfl⟩
theorem grpF_iff {P : Str → Four} {g : List Str} {k : Int} {h : Str} {r : List Str} (hg : g = h :: r) : grpF P g k = true ↔ (P h).2 = (0, 0, 0) ∧ ∀ s ∈ g, (P s).1 = k := by
  subst hg
  show (decide ((P h).2 = (0, 0, 0)) && (h :: r).all fun s => decide ((P s).1 = k)) = true ↔ _
  rw [Bool.and_eq_true, decide_eq_true_eq, List.all_eq_true]
  exact ⟨fun ⟨a, b⟩ => ⟨a, fun s hs => of_decide_eq_true (b s hs)⟩, fun ⟨a, b⟩ => ⟨a, fun s hs => decide_eq_true (b s hs)⟩⟩
theorem gt_fr' {P : Str → Four} {nm : List Str} {md : List (Key × PyData)} (hm : ∀ s ∈ nm, gtM md (Sum.inr s : Key) = some (frD (P s))) {s : Str} (hs : s ∈ nm) : fourOf (gtM md (Sum.inr s : Key)) = P s := by
  rw [hm s hs]
  rfl
theorem lay_law {ws ls : List PyData} {P : Str → Four} {md : List (Key × PyData)} (nok : nlOk (ws.map nmOf) (num 0 ls)) (hnum : num 0 ls = lkB (ws.map nmOf) ls) (hlk : ∀ d ∈ ls, linkOk d = true) (hl : md.length = ws.length) (hm : ∀ s ∈ ws.map nmOf, gtM md (Sum.inr s : Key) = some (frD (P s))) : layB ws ls md = lawL ws ls P := by
  have hall : allB md (ws.map nmOf) = true := by
    unfold allB
    rw [Bool.and_eq_true, List.all_eq_true]
    refine ⟨decide_eq_true (by rw [List.length_map]; exact hl), fun s hs => ?_⟩
    rw [hm s hs]
    rfl
  have lk2 : ∀ d ∈ ls, ∃ s t a b c, d = .tuple [.str s, .str t, .int a, .int b, .int c] ∧ s ∈ ws.map nmOf ∧ t ∈ ws.map nmOf ∧ ∃ i, ls[i]? = some d := fun d hd => by
    obtain ⟨i, hi⟩ := List.getElem?_of_mem hd
    have hmm : (0 + i, d) ∈ num 0 ls := List.mem_of_getElem? (i := i) (by rw [num_get, hi]; rfl)
    obtain ⟨s, t, x, y, z, he, h1, h2, _⟩ := nok.2 _ hmm
    obtain ⟨s', t', a, b, c, he2, _⟩ := lk_form (hlk d hd)
    have he : d = .tuple [.str s, .str t, .int x, .int y, .int z] := he
    exact ⟨s, t, x, y, z, he, h1, h2, i, hi⟩
  unfold layB
  rw [hall, Bool.true_and, ← hnum]
  rw [Bool.eq_iff_iff]
  unfold lawL
  rw [Bool.and_eq_true, Bool.and_eq_true, List.all_eq_true, List.all_eq_true, List.all_eq_true, List.all_eq_true]
  have cover : ∀ n ∈ ws.map nmOf, grp (ws.map nmOf) (num 0 ls) n ∈ groupsOf (ws.map nmOf) (num 0 ls) := fun n hn => by
    rcases groups_cover (pl := []) nok (fun _ h => h) n hn with h | ⟨g, hg, hng⟩
    · simp at h
    · obtain ⟨s, hs, rfl⟩ := groups_from nok (fun _ h => h) g hg
      rw [grp_same nok hs hng]
      exact hg
  have grpP : ∀ g ∈ groupsOf (ws.map nmOf) (num 0 ls), (grpF (fun s => fourOf (gtM md (Sum.inr s))) g (placeOf (hdOf g) ws) = true ↔ (P (hdOf g)).2 = (0, 0, 0) ∧ ∀ s ∈ g, (P s).1 = (placeOf (hdOf g) ws : Int)) := fun g hg => by
    obtain ⟨s, hs, rfl⟩ := groups_from nok (fun _ h => h) g hg
    obtain ⟨h1, r, h2⟩ := grp_hd nok hs
    rw [grpF_iff h2]
    have hin : ∀ x ∈ grp (ws.map nmOf) (num 0 ls) s, x ∈ ws.map nmOf := fun x hx => ((grp_mem nok hs).mp hx).1
    rw [gt_fr' hm (hin _ h1)]
    exact ⟨fun ⟨a, b⟩ => ⟨a, fun x hx => by rw [← gt_fr' hm (hin x hx)]; exact b x hx⟩, fun ⟨a, b⟩ => ⟨a, fun x hx => by rw [gt_fr' hm (hin x hx)]; exact b x hx⟩⟩
  have namesIff : (∀ g ∈ groupsOf (ws.map nmOf) (num 0 ls), grpF (fun s => fourOf (gtM md (Sum.inr s))) g (placeOf (hdOf g) ws) = true) ↔ ∀ n ∈ ws.map nmOf, tstL ws ls P n = true := by
    constructor
    · intro h n hn
      have hg := cover n hn
      obtain ⟨h0, hP⟩ := (grpP _ hg).mp (h _ hg)
      unfold tstL
      rw [Bool.and_eq_true, decide_eq_true_eq, Bool.or_eq_true]
      refine ⟨hP n (grp_own nok hn), ?_⟩
      by_cases e : hdOf (grp (ws.map nmOf) (num 0 ls) n) = n
      · right
        rw [e] at h0
        exact decide_eq_true h0
      · left
        simp [e]
    · intro h g hg
      refine (grpP g hg).mpr ?_
      obtain ⟨s, hs, rfl⟩ := groups_from nok (fun _ h => h) g hg
      obtain ⟨h1, r, h2⟩ := grp_hd nok hs
      have hin : ∀ x ∈ grp (ws.map nmOf) (num 0 ls) s, x ∈ ws.map nmOf := fun x hx => ((grp_mem nok hs).mp hx).1
      have tst : ∀ x ∈ grp (ws.map nmOf) (num 0 ls) s, (P x).1 = (placeOf (hdOf (grp (ws.map nmOf) (num 0 ls) s)) ws : Int) ∧ (hdOf (grp (ws.map nmOf) (num 0 ls) s) = x → (P x).2 = (0, 0, 0)) := fun x hx => by
        have := h x (hin x hx)
        unfold tstL at this
        rw [grp_same nok hs hx, Bool.and_eq_true, decide_eq_true_eq, Bool.or_eq_true] at this
        refine ⟨this.1, fun e => ?_⟩
        rcases this.2 with h3 | h3
        · rw [decide_eq_true e] at h3; cases h3
        · exact of_decide_eq_true h3
      exact ⟨(tst _ h1).2 rfl, fun x hx => (tst x hx).1⟩
  rw [namesIff]
  refine and_congr_right fun hn => ?_
  refine forall_congr' fun d => forall_congr' fun hd => ?_
  obtain ⟨s, t, a, b, c, rfl, hs, ht, i, hi⟩ := lk2 d hd
  show keepB (fourOf (gtM md (Sum.inr s))) (fourOf (gtM md (Sum.inr t))) a b c = true ↔ decide (behind (P s).2 (.tuple [.str s, .str t, .int a, .int b, .int c]) true = (P t).2) = true
  rw [gt_fr' hm hs, gt_fr' hm ht]
  unfold keepB
  rw [Bool.and_eq_true, decide_eq_true_eq, decide_eq_true_eq, decide_eq_true_eq]
  have same : (P s).1 = (P t).1 := by
    have tn : ∀ x, x ∈ ws.map nmOf → (P x).1 = (placeOf (hdOf (grp (ws.map nmOf) (num 0 ls) x)) ws : Int) := fun x hx => by
      have := hn x hx
      unfold tstL at this
      rw [Bool.and_eq_true] at this
      exact of_decide_eq_true this.1
    have hmm : (0 + i, PyData.tuple [.str s, .str t, .int a, .int b, .int c]) ∈ num 0 ls := List.mem_of_getElem? (i := i) (by rw [num_get, hi]; rfl)
    have hr : Rch (num 0 ls) s t := ⟨1, Pth.one (x := (0 + i, true, t)) (List.mem_flatMap.mpr ⟨_, hmm, by simp [stepsL, lnA, lnB]⟩)⟩
    rw [tn s hs, tn t ht, grp_same nok hs ((grp_mem nok hs).mpr ⟨ht, hr⟩)]
  rw [eq_true same, true_and]
  show (_ ∧ _ ∧ _) ↔ (((P s).2.1 + a, (P s).2.2.1 + b, (P s).2.2.2 + c) = ((P t).2.1, (P t).2.2.1, (P t).2.2.2))
  simp only [Prod.mk.injEq]
/-! ways over links with their ends and their sums; a closed one is a ring -/
inductive WPt (ls : List PyData) (s : Str) : Way → Str → Plc → Prop
  | nil : WPt ls s [] s (0, 0, 0)
  | snoc {w : Way} {v u : Str} {p : Plc} {i : Nat} {f : Bool} {d : PyData} (h : WPt ls s w v p) (hd : ls[i]? = some d) (he : endP d f = (v, u)) : WPt ls s (w ++ [(i, f)]) u (behind p d f)
section
variable {ls : List PyData} {s v u : Str} {w : Way} {p : Plc}
theorem WPt.sum (h : WPt ls s w v p) : sumW ls w = p := by
  induction h with
  | nil => rfl
  | snoc h hd he ih =>
    rw [sumW_snoc, ih]
    show behind _ ((ls[_]?).getD .none) _ = _
    rw [hd]
    rfl
theorem WPt.ok (h : WPt ls s w v p) : ∀ x ∈ w, x.1 < ls.length := by
  induction h with
  | nil => intro x hx; cases hx
  | snoc h hd he ih =>
    intro x hx
    rcases List.mem_append.mp hx with hx | hx
    · exact ih x hx
    · simp only [List.mem_cons, List.not_mem_nil, or_false] at hx
      subst hx
      exact (List.getElem?_eq_some_iff.mp hd).1
theorem ends_snoc {i : Nat} {f : Bool} {d : PyData} (hd : ls[i]? = some d) : wayEnds ls (w ++ [(i, f)]) = wayEnds ls w ++ [endP d f] := by
  unfold wayEnds
  rw [List.map_append]
  congr 1
  show [endP ((ls[i]?).getD .none) f] = _
  rw [hd]
  rfl
/-- the ends follow each other, from s to v -/
theorem WPt.chain (h : WPt ls s w v p) : (∀ (k : Nat) (a b : Str × Str), (wayEnds ls w)[k]? = some a → (wayEnds ls w)[k + 1]? = some b → a.2 = b.1) ∧ (∀ a, (wayEnds ls w)[0]? = some a → a.1 = s) ∧ ((w = [] ∧ v = s) ∨ ∃ a, (wayEnds ls w)[w.length - 1]? = some a ∧ a.2 = v) := by
  induction h with
  | nil => exact ⟨fun k a b h => by simp [wayEnds] at h, fun a h => by simp [wayEnds] at h, .inl ⟨rfl, rfl⟩⟩
  | @snoc w v u p i f d h hd he ih =>
    obtain ⟨h1, h2, h3⟩ := ih
    have El : (wayEnds ls w).length = w.length := by simp [wayEnds]
    rw [ends_snoc hd, he]
    refine ⟨fun k a b ha hb => ?_, fun a ha => ?_, .inr ⟨(v, u), ?_, rfl⟩⟩
    · by_cases hk : k + 1 < w.length
      · rw [List.getElem?_append_left (by omega)] at ha hb
        exact h1 k a b ha hb
      · have hkl : k + 1 = w.length := by
          have := (List.getElem?_eq_some_iff.mp hb).1
          rw [List.length_append, El, List.length_singleton] at this
          omega
        rw [List.getElem?_append_left (by omega)] at ha
        rw [List.getElem?_append_right (by omega), show k + 1 - (wayEnds ls w).length = 0 by omega] at hb
        cases hb
        rcases h3 with ⟨e, _⟩ | ⟨c, hc, hcv⟩
        · rw [e] at hkl; simp at hkl
        · rw [show w.length - 1 = k by omega, ha] at hc
          cases hc
          exact hcv
    · by_cases hw : w = []
      · subst hw
        rcases h3 with ⟨_, e⟩ | ⟨c, hc, _⟩
        · simp [wayEnds] at ha
          rw [← ha]
          exact e
        · simp [wayEnds] at hc
      · have := List.length_pos_iff.mpr hw
        rw [List.getElem?_append_left (by omega)] at ha
        exact h2 a ha
    · rw [List.length_append, List.length_singleton, List.getElem?_append_right (by omega)]
      rw [show w.length + 1 - 1 - (wayEnds ls w).length = 0 by omega]
      rfl
theorem WPt.cyc (h : WPt ls s w s p) : cycB (wayEnds ls w) = true := by
  obtain ⟨h1, h2, h3⟩ := h.chain
  have El : (wayEnds ls w).length = w.length := by simp [wayEnds]
  unfold cycB
  rw [List.all_eq_true]
  intro k hk
  have hk := List.mem_range.mp hk
  obtain ⟨a, b, ha, hb⟩ := cyc_at hk
  refine decide_eq_true ?_
  rw [ha, hb]
  show a.2 = b.1
  by_cases h0 : k = 0
  · subst h0
    rw [if_pos rfl, El] at ha
    rw [h2 b hb]
    rcases h3 with ⟨e, _⟩ | ⟨c, hc, hcv⟩
    · rw [e] at hk; simp [wayEnds] at hk
    · rw [hc] at ha
      cases ha
      exact hcv
  · rw [if_neg h0] at ha
    exact h1 (k - 1) a b ha (by rw [show k - 1 + 1 = k by omega]; exact hb)
theorem WPt.judge (h : WPt ls s w s p) (hne : w ≠ []) (hp : p ≠ (0, 0, 0)) (hj : judR ls (wayD w) = (cycB (wayEnds ls w) && !decide (sumW ls w = ((0, 0, 0) : Plc)))) : judR ls (wayD w) = true := by
  rw [hj, h.cyc, h.sum, decide_eq_false hp]
  rfl
/-- a step's move -/
def moveOf (d : PyData) (f : Bool) : Plc := behind (0, 0, 0) d f
def plusP (p q : Plc) : Plc := (p.1 + q.1, p.2.1 + q.2.1, p.2.2 + q.2.2)
theorem behind_plus {d : PyData} {f : Bool} : behind p d f = plusP p (moveOf d f) := by
  unfold moveOf behind plusP
  split
  · cases f <;> simp <;> omega
  · simp
theorem plus_assoc {a b c : Plc} : plusP (plusP a b) c = plusP a (plusP b c) := by
  unfold plusP
  simp only [Prod.mk.injEq]
  omega
/-- one way after the other -/
theorem WPt.app {w2 : Way} {p2 : Plc} (h : WPt ls s w v p) (h2 : WPt ls v w2 u p2) : WPt ls s (w ++ w2) u (plusP p p2) := by
  induction h2 with
  | nil =>
    have : plusP p (0, 0, 0) = p := by unfold plusP; simp
    rw [List.append_nil, this]
    exact h
  | snoc h2 hd he ih =>
    rw [← List.append_assoc]
    have := WPt.snoc ih hd he
    rw [behind_plus, plus_assoc, ← behind_plus] at this
    exact this
theorem gt_num : ∀ {ls : List PyData} {k i : Nat}, gtM (num k ls) (k + i) = ls[i]?
  | [], k, i => by simp [num, gtM]
  | d :: r, k, 0 => by
    show gtM ((k, d) :: num (k + 1) r) (k + 0) = _
    rw [gtM_cons, if_pos (by omega)]
    rfl
  | d :: r, k, i + 1 => by
    show gtM ((k, d) :: num (k + 1) r) (k + (i + 1)) = _
    rw [gtM_cons, if_neg (by show ¬ k = k + (i + 1); omega), show k + (i + 1) = (k + 1) + i by omega, gt_num]
    rfl
theorem step_ends {x : Stp} (hlk : ∀ d ∈ ls, linkOk d = true) (h : x ∈ stepsOf (num 0 ls) v) : ∃ d, ls[x.1]? = some d ∧ endP d x.2.1 = (v, x.2.2) := by
  obtain ⟨q, hq, e1, h2⟩ := steps_mem h
  obtain ⟨i, hi⟩ := List.getElem?_of_mem hq
  rw [num_get] at hi
  obtain ⟨d, hd, rfl⟩ := Option.map_eq_some_iff.mp hi
  have e1 : i = x.1 := by
    have e1 : 0 + i = x.1 := e1
    omega
  subst e1
  obtain ⟨a, b, x1, x2, x3, rfl, _⟩ := lk_form (hlk d (List.mem_of_getElem? hd))
  refine ⟨_, hd, ?_⟩
  rcases h2 with ⟨e2, e3, e4⟩ | ⟨e2, e3, e4⟩
  · rw [e3]
    have e2 : a = v := e2
    have e4 : b = x.2.2 := e4
    subst e2
    rw [← e4]
    rfl
  · rw [e3]
    have e2 : b = v := e2
    have e4 : a = x.2.2 := e4
    subst e2
    rw [← e4]
    rfl
theorem visit_wpt {tab : Tab} {x : Stp} (hlk : ∀ d ∈ ls, linkOk d = true) (ht : ∀ e ∈ tab, WPt ls s e.2.1 e.1 e.2.2) (h : WPt ls s w v p) (hx : x ∈ stepsOf (num 0 ls) v) : ∀ e ∈ visit (num 0 ls) w p tab x, WPt ls s e.2.1 e.1 e.2.2 := by
  unfold visit
  split
  · exact ht
  · intro e he
    rcases List.mem_append.mp he with he | he
    · exact ht e he
    · simp only [List.mem_cons, List.not_mem_nil, or_false] at he
      subst he
      obtain ⟨d, hd, hee⟩ := step_ends hlk hx
      have hg : lkAt (num 0 ls) x.1 = d := by
        unfold lkAt
        have := gt_num (ls := ls) (k := 0) (i := x.1)
        rw [Nat.zero_add] at this
        rw [this, hd]
        rfl
      show WPt ls s (w ++ [(x.1, x.2.1)]) x.2.2 (behind p (lkAt (num 0 ls) x.1) x.2.1)
      rw [hg]
      exact .snoc h hd hee
theorem tab_wpt (hlk : ∀ d ∈ ls, linkOk d = true) : ∀ k, ∀ e ∈ walkP (num 0 ls) s k, WPt ls s e.2.1 e.1 e.2.2 := by
  intro k
  induction k with
  | zero =>
    intro e he
    have he : e ∈ [(s, (([] : Way), ((0, 0, 0) : Plc)))] := he
    simp only [List.mem_cons, List.not_mem_nil, or_false] at he
    subst he
    exact .nil
  | succ k ih =>
    show ∀ e ∈ proc (num 0 ls) (walkP (num 0 ls) s k) k, _
    unfold proc
    split
    · exact ih
    · rename_i e0 he0
      have h0 := ih e0 (List.mem_of_getElem? he0)
      have key : ∀ (sts : List Stp) (tab : Tab), (∀ x ∈ sts, x ∈ stepsOf (num 0 ls) e0.1) → (∀ e ∈ tab, WPt ls s e.2.1 e.1 e.2.2) → ∀ e ∈ sts.foldl (visit (num 0 ls) e0.2.1 e0.2.2) tab, WPt ls s e.2.1 e.1 e.2.2 := by
        intro sts
        induction sts with
        | nil => exact fun tab _ ht => ht
        | cons x r ihr =>
          intro tab hs ht
          exact ihr _ (fun y hy => hs y (List.mem_cons_of_mem _ hy)) (visit_wpt hlk ht h0 (hs x (by simp)))
      exact key _ _ (fun _ h => h) ih
def negP (p : Plc) : Plc := (-p.1, -p.2.1, -p.2.2)
theorem end_swap {d : PyData} {f : Bool} (hd : linkOk d = true) (h : endP d f = (v, u)) : endP d (!f) = (u, v) := by
  obtain ⟨a, b, x1, x2, x3, rfl, _⟩ := lk_form hd
  cases f with
  | true => cases h; rfl
  | false => cases h; rfl
theorem move_neg {d : PyData} {f : Bool} (hd : linkOk d = true) : moveOf d (!f) = negP (moveOf d f) := by
  obtain ⟨a, b, x1, x2, x3, rfl, _⟩ := lk_form hd
  cases f <;> simp [moveOf, behind, negP]
theorem WPt.back (hlk : ∀ d ∈ ls, linkOk d = true) (h : WPt ls s w v p) : WPt ls v (backW w) s (negP p) := by
  induction h with
  | nil => exact .nil
  | @snoc w v u p i f d h hd he ih =>
    have hl := hlk d (List.mem_of_getElem? hd)
    have e1 : backW (w ++ [(i, f)]) = [] ++ [(i, !f)] ++ backW w := by simp [backW]
    have one : WPt ls u ([] ++ [(i, !f)]) v (behind (0, 0, 0) d (!f)) := .snoc .nil hd (end_swap hl he)
    have := one.app ih
    rw [e1]
    have ep : plusP (behind (0, 0, 0) d (!f)) (negP p) = negP (behind p d f) := by
      show plusP (moveOf d (!f)) (negP p) = _
      rw [move_neg hl, behind_plus]
      unfold plusP negP
      simp only [Prod.mk.injEq]
      omega
    rw [← ep]
    exact this
theorem plus_neg0 {p q : Plc} (h : plusP p (negP q) = (0, 0, 0)) : p = q := by
  unfold plusP negP at h
  simp only [Prod.mk.injEq] at h
  exact Prod.ext (by omega) (Prod.ext (by omega) (by omega))
/-- what ringAt tells is a ring -/
theorem ring_wpt {tab : Tab} {i : Nat} {d : PyData} (hlk : ∀ d ∈ ls, linkOk d = true) (ht : ∀ e ∈ tab, WPt ls s e.2.1 e.1 e.2.2) (hd : ls[i]? = some d) (ha : lnA d ∈ tab.map (·.1)) (hb : lnB d ∈ tab.map (·.1)) (h : ringAt tab (i, d) = some w) : ∃ p, WPt ls s w s p ∧ w ≠ [] ∧ p ≠ (0, 0, 0) := by
  obtain ⟨_, e1, he1, ee1⟩ := wy_get ha
  obtain ⟨_, e2, he2, ee2⟩ := wy_get hb
  have w1 := ht e1 he1
  have w2 := ht e2 he2
  rw [ee1] at w1
  rw [ee2] at w2
  obtain ⟨a, b, x1, x2, x3, rfl, _⟩ := lk_form (hlk d (List.mem_of_getElem? hd))
  unfold ringAt at h
  split at h
  · rename_i hne
    cases h
    have mid := WPt.snoc w1 hd (f := true) (u := lnB (.tuple [.str a, .str b, .int x1, .int x2, .int x3])) rfl
    exact ⟨_, mid.app (w2.back hlk), by simp, fun z => hne (plus_neg0 z)⟩
  · cases h
end
/-! the walks of a group need no other links: with all links they are the same -/
section
variable {g nm : List Str} {ls : List PyData} {s u : Str}
theorem flatMap_filter {α β : Type} {p : α → Bool} {f : α → List β} : ∀ {l : List α}, (∀ x ∈ l, p x = false → f x = []) → (l.filter p).flatMap f = l.flatMap f
  | [], _ => rfl
  | x :: r, h => by
    have ih := flatMap_filter (l := r) (p := p) (f := f) fun y hy => h y (by simp [hy])
    by_cases hp : p x = true
    · rw [List.filter_cons_of_pos hp, List.flatMap_cons, List.flatMap_cons, ih]
    · have hp2 : p x = false := by simpa using hp
      rw [List.filter_cons_of_neg hp, List.flatMap_cons, ih, h x (by simp) hp2, List.nil_append]
/-- a set of names that no link leaves -/
def Shut (g : List Str) (ls : List PyData) : Prop := ∀ q ∈ num 0 ls, (lnA q.2 ∈ g ∨ lnB q.2 ∈ g) → lnA q.2 ∈ g ∧ lnB q.2 ∈ g
theorem steps_same (h : Shut g ls) (hu : u ∈ g) : stepsOf (lkB g ls) u = stepsOf (num 0 ls) u := by
  unfold stepsOf lkB
  refine flatMap_filter fun q hq hp => ?_
  unfold stepsL
  have hn : ¬ (lnA q.2 ∈ g ∧ lnB q.2 ∈ g) := fun z => by simp [z.1, z.2] at hp
  have h1 : ¬ lnA q.2 = u := fun z => hn (h q hq (.inl (z ▸ hu)))
  have h2 : ¬ lnB q.2 = u := fun z => hn (h q hq (.inr (z ▸ hu)))
  rw [if_neg h1, if_neg h2]
  rfl
theorem nd_num : nlNd (num 0 ls) := num_nodup 0 ls
theorem nd_lkB : nlNd (lkB g ls) := by
  unfold nlNd lkB
  exact (num_nodup 0 ls).sublist ((List.filter_sublist).map _)
theorem lkAt_same (h : Shut g ls) (hu : u ∈ g) {x : Stp} (hx : x ∈ stepsOf (num 0 ls) u) : lkAt (lkB g ls) x.1 = lkAt (num 0 ls) x.1 ∧ x.2.2 ∈ g := by
  obtain ⟨q, hq, e, hc⟩ := steps_mem hx
  have hin : lnA q.2 ∈ g ∧ lnB q.2 ∈ g := h q hq (by
    rcases hc with ⟨h1, _, _⟩ | ⟨h1, _, _⟩
    · exact .inl (h1 ▸ hu)
    · exact .inr (h1 ▸ hu))
  have hq2 : q ∈ lkB g ls := by
    unfold lkB
    exact List.mem_filter.mpr ⟨hq, by simp [hin.1, hin.2]⟩
  refine ⟨?_, ?_⟩
  · unfold lkAt
    rw [← e, gt_mem nd_lkB hq2, gt_mem nd_num hq]
  · rcases hc with ⟨_, _, h3⟩ | ⟨_, _, h3⟩
    · exact h3 ▸ hin.2
    · exact h3 ▸ hin.1
theorem fold_same {w : Way} {p : Plc} : ∀ {sts : List Stp} {tab : Tab}, (∀ x ∈ sts, lkAt (lkB g ls) x.1 = lkAt (num 0 ls) x.1) → sts.foldl (visit (lkB g ls) w p) tab = sts.foldl (visit (num 0 ls) w p) tab
  | [], _, _ => rfl
  | x :: r, tab, h => by
    rw [List.foldl_cons, List.foldl_cons]
    have e : visit (lkB g ls) w p tab x = visit (num 0 ls) w p tab x := by
      unfold visit
      rw [h x (by simp)]
    rw [e]
    exact fold_same fun y hy => h y (by simp [hy])
theorem fold_in {nl : List (Nat × PyData)} {w : Way} {p : Plc} : ∀ {sts : List Stp} {tab : Tab}, (∀ e ∈ tab, e.1 ∈ g) → (∀ x ∈ sts, x.2.2 ∈ g) → ∀ e ∈ sts.foldl (visit nl w p) tab, e.1 ∈ g
  | [], _, h, _ => h
  | x :: r, tab, h, h2 => by
    rw [List.foldl_cons]
    refine fold_in (fun e he => ?_) fun y hy => h2 y (by simp [hy])
    unfold visit at he
    split at he
    · exact h e he
    · rcases List.mem_append.mp he with he | he
      · exact h e he
      · simp only [List.mem_cons, List.not_mem_nil, or_false] at he
        subst he
        exact h2 x (by simp)
theorem walk_same (h : Shut g ls) (hs : s ∈ g) : ∀ i, walkP (lkB g ls) s i = walkP (num 0 ls) s i ∧ ∀ e ∈ walkP (num 0 ls) s i, e.1 ∈ g
  | 0 => ⟨rfl, fun e he => by
    simp only [walkP, List.mem_cons, List.not_mem_nil, or_false] at he
    subst he
    exact hs⟩
  | i + 1 => by
    obtain ⟨ih, hin⟩ := walk_same h hs i
    show proc (lkB g ls) (walkP (lkB g ls) s i) i = proc (num 0 ls) (walkP (num 0 ls) s i) i ∧ ∀ e ∈ proc (num 0 ls) (walkP (num 0 ls) s i) i, e.1 ∈ g
    rw [ih]
    unfold proc
    split
    · exact ⟨rfl, hin⟩
    · rename_i e0 he0
      have hu := hin e0 (List.mem_of_getElem? he0)
      rw [steps_same h hu]
      exact ⟨fold_same fun x hx => (lkAt_same h hu hx).1, fold_in hin fun x hx => (lkAt_same h hu hx).2⟩
theorem walks_same (h : Shut g ls) (hs : s ∈ g) (ok : nlOk g (lkB g ls)) (hl : g.length ≤ nm.length) : walksOf g (lkB g ls) s = walkP (num 0 ls) s nm.length := by
  have t := (walkP_ok ok hs g.length).len
  have := walkP_done (nl := lkB g ls) (s := s) (a := g.length) t (nm.length - g.length)
  rw [show g.length + (nm.length - g.length) = nm.length by omega, (walk_same h hs nm.length).1] at this
  exact this.symm
/-- a group is such a set -/
theorem shut_grp (ok : nlOk nm (lkB nm ls)) (hall : ∀ q ∈ num 0 ls, q ∈ lkB nm ls) (hs : s ∈ nm) : Shut (grp nm (lkB nm ls) s) ls := by
  intro q hq h
  have hq2 := hall q hq
  obtain ⟨_, hA, hB, _⟩ := lkB_mem hq2
  have ab : Rch (lkB nm ls) (lnA q.2) (lnB q.2) := ⟨1, Pth.one (step_fwd hq2)⟩
  rcases h with h | h
  · have := ((grp_mem ok hs).mp h).2
    exact ⟨h, (grp_mem ok hs).mpr ⟨hB, this.trans ab⟩⟩
  · have := ((grp_mem ok hs).mp h).2
    exact ⟨(grp_mem ok hs).mpr ⟨hA, this.trans ab.symm⟩, h⟩
/-- all links stand between the names -/
theorem all_links (h : ∀ d ∈ ls, lnA d ∈ nm ∧ lnB d ∈ nm) : num 0 ls = lkB nm ls := by
  unfold lkB
  exact (List.filter_eq_self.mpr fun q hq => by
    have := h q.2 (num_mem hq).2
    simp [this.1, this.2]).symm
/-- the rings of a group, told over all links -/
theorem rings_same {g : List Str} (h : Shut g ls) (hs : s ∈ g) (ok : nlOk g (lkB g ls)) (hl : g.length ≤ nm.length) (hcon : ∀ q ∈ lkB g ls, lnA q.2 ∈ (walkP (num 0 ls) s nm.length).map (·.1)) :
    ringsFrom g (lkB g ls) s = (num 0 ls).filterMap fun q => if lnA q.2 ∈ (walkP (num 0 ls) s nm.length).map (·.1) then ringAt (walkP (num 0 ls) s nm.length) q else none := by
  have hin := (walk_same h hs nm.length).2
  unfold ringsFrom
  rw [walks_same h hs ok hl]
  have key : ∀ l : List (Nat × PyData), (∀ q ∈ l, q ∈ num 0 ls) → (l.filter fun p => decide (lnA p.2 ∈ g) && decide (lnB p.2 ∈ g)).filterMap (ringAt (walkP (num 0 ls) s nm.length)) = l.filterMap fun q => if lnA q.2 ∈ (walkP (num 0 ls) s nm.length).map (·.1) then ringAt (walkP (num 0 ls) s nm.length) q else none := by
    intro l
    induction l with
    | nil => intro _; rfl
    | cons q r ih =>
      intro hq
      have ih := ih fun y hy => hq y (by simp [hy])
      have hqn := hq q (by simp)
      by_cases hp : (decide (lnA q.2 ∈ g) && decide (lnB q.2 ∈ g)) = true
      · have hm : q ∈ lkB g ls := by unfold lkB; exact List.mem_filter.mpr ⟨hqn, hp⟩
        rw [List.filter_cons_of_pos (p := fun p : Nat × PyData => decide (lnA p.2 ∈ g) && decide (lnB p.2 ∈ g)) hp, List.filterMap_cons, List.filterMap_cons, if_pos (hcon q hm), ih]
      · have hno : lnA q.2 ∉ (walkP (num 0 ls) s nm.length).map (·.1) := fun z => by
          obtain ⟨e, he, h1⟩ := List.mem_map.mp z
          have := h q hqn (.inl (h1 ▸ hin e he))
          exact hp (by simp [this.1, this.2])
        rw [List.filter_cons_of_neg (p := fun p : Nat × PyData => decide (lnA p.2 ∈ g) && decide (lnB p.2 ∈ g)) hp, List.filterMap_cons, if_neg hno, ih]
  exact key (num 0 ls) fun _ h => h
end
def wayM (tab : Tab) : List (Key × PyData) := tab.map fun e => ((Sum.inr e.1 : Key), wayD e.2.1)
def plcM (tab : Tab) : List (Key × PyData) := tab.map fun e => ((Sum.inr e.1 : Key), plD e.2.2)
theorem gtM_mapV {f : Way × Plc → PyData} {n : Str} : ∀ {tab : Tab}, gtM (tab.map fun e => ((Sum.inr e.1 : Key), f e.2)) (Sum.inr n : Key) = (gtM tab n).map f
  | [] => rfl
  | x :: tab => by
    show gtM (((Sum.inr x.1 : Key), f x.2) :: tab.map fun e => ((Sum.inr e.1 : Key), f e.2)) _ = _
    rw [gtM_cons, gtM_cons, gtM_mapV]
    by_cases h : x.1 = n
    · rw [if_pos (congrArg _ h), if_pos h]; rfl
    · rw [if_neg (fun z => h (Sum.inr.inj z)), if_neg h]
theorem gtM_nd {tab : Tab} {i : Nat} {e : Str × (Way × Plc)} (hnd : (tab.map (·.1)).Nodup) (h : tab[i]? = some e) : gtM tab e.1 = some e.2 := by
  induction tab generalizing i with
  | nil => simp at h
  | cons x tab ih =>
    rw [List.map_cons, List.nodup_cons] at hnd
    rw [gtM_cons]
    cases i with
    | zero =>
      simp only [List.getElem?_cons_zero, Option.some.injEq] at h
      subst h
      rw [if_pos rfl]
    | succ i =>
      simp only [List.getElem?_cons_succ] at h
      rw [if_neg (show ¬ x.1 = e.1 from fun z => hnd.1 (by rw [z]; exact List.mem_map_of_mem (List.mem_of_getElem? h)))]
      exact ih hnd.2 h
theorem gtM_some {tab : Tab} {n : Str} : (gtM tab n).isSome = decide (n ∈ tab.map (·.1)) := by
  rw [Bool.eq_iff_iff, decide_eq_true_eq]
  constructor
  · intro h
    exact Classical.byContradiction fun z => by rw [gtM_none.mpr z] at h; cases h
  · intro h
    cases e : gtM tab n with
    | none => exact absurd h (gtM_none.mp e)
    | some v => rfl
theorem wayM_in {tab : Tab} {n : Str} : (gtM (wayM tab) (Sum.inr n : Key)).isSome = decide (n ∈ tab.map (·.1)) := by
  unfold wayM
  rw [gtM_mapV (f := fun e => wayD e.1), Option.isSome_map, gtM_some]
theorem mapV_new {f : Way × Plc → PyData} {tab : Tab} {n : Str} {d : PyData} (h : n ∉ tab.map (·.1)) : ptM (tab.map fun e => ((Sum.inr e.1 : Key), f e.2)) (Sum.inr n : Key) d = (tab.map fun e => ((Sum.inr e.1 : Key), f e.2)) ++ [(Sum.inr n, d)] := by
  refine ptM_new fun z => h ?_
  rw [List.map_map] at z
  obtain ⟨e, he, h2⟩ := List.mem_map.mp z
  have : e.1 = n := Sum.inr.inj h2
  exact this ▸ List.mem_map_of_mem he
def ordD (tab : Tab) : List PyData := tab.map fun e => PyData.str e.1
/-! the rings that the law finds: walks over all links -/
section
variable {nm g : List Str} {ls : List PyData} {s n : Str}
def lawTab (nm : List Str) (ls : List PyData) (s : Str) : Tab := walkP (num 0 ls) s nm.length
def lawAt (nm : List Str) (ls : List PyData) (s : Str) (q : Nat × PyData) : Option Way := if lnA q.2 ∈ (lawTab nm ls s).map (·.1) then ringAt (lawTab nm ls s) q else none
def lawRings (nm : List Str) (ls : List PyData) (s : Str) : List Way := (num 0 ls).filterMap (lawAt nm ls s)
def lawRing (nm : List Str) (ls : List PyData) (g : List Str) : Option Way := firstMin (g.flatMap (lawRings nm ls))
def optV (K : PySem.W.Frag) (G : Hp) (v : V) (o : Option Way) : Prop := match o with
  | none => v = .non
  | some w => Dp K G v (wayD w)
theorem optV.ex {K : PySem.W.Frag} {G G' : Hp} {v : V} {o : Option Way} (h : optV K G v o) (e : Y.Ex G G') : optV K G' v o := by
  cases o with
  | none => exact h
  | some w => exact dp_mono e h
theorem firstMin_some {o : Option Way} {l : List Way} : ∃ b, firstMin l = b := ⟨_, rfl⟩
theorem firstMin_app {l : List Way} : ∀ {m : List Way}, firstMin (l ++ m) = m.foldl better (firstMin l) := by
  intro m
  unfold firstMin
  rw [List.foldl_append]
theorem lawTab_ok (ok : nlOk nm (num 0 ls)) (hs : s ∈ nm) : TabOk nm (lawTab nm ls s) := walkP_ok ok hs _
theorem lawWy_len (ok : nlOk nm (num 0 ls)) (hs : s ∈ nm) (h : n ∈ (lawTab nm ls s).map (·.1)) : (wyAt (lawTab nm ls s) n).1.length ≤ nm.length := way_len ok hs h
theorem law_both (ok : nlOk nm (num 0 ls)) (hs : s ∈ nm) {q : Nat × PyData} (hq : q ∈ num 0 ls) (h : lnA q.2 ∈ (lawTab nm ls s).map (·.1)) : lnB q.2 ∈ (lawTab nm ls s).map (·.1) := keys_closed ok hs h (step_fwd hq)
theorem better_len {b : Option Way} {w : Way} {m : Nat} (hb : ∀ x, b = some x → x.length ≤ m) (hw : w.length ≤ m) : ∀ x, better b w = some x → x.length ≤ m := by
  intro x h
  unfold better at h
  cases b with
  | none => cases h; exact hw
  | some y =>
    simp only at h
    split at h
    · cases h; exact hw
    · cases h; exact hb _ rfl
theorem fold_len {m : Nat} : ∀ {l : List Way} {b : Option Way}, (∀ x, b = some x → x.length ≤ m) → (∀ w ∈ l, w.length ≤ m) → ∀ x, l.foldl better b = some x → x.length ≤ m
  | [], b, hb, _ => hb
  | w :: r, b, hb, hl => by
    rw [List.foldl_cons]
    exact fold_len (better_len hb (hl w (by simp))) fun y hy => hl y (by simp [hy])
theorem lawAt_len (ok : nlOk nm (num 0 ls)) (hs : s ∈ nm) {q : Nat × PyData} (hq : q ∈ num 0 ls) {w : Way} (h : lawAt nm ls s q = some w) : w.length ≤ 2 * nm.length + 1 := by
  unfold lawAt at h
  split at h
  · rename_i h1
    unfold ringAt at h
    split at h
    · cases h
      have l1 := lawWy_len ok hs h1
      have l2 := lawWy_len ok hs (law_both ok hs hq h1)
      simp [backW_len]
      omega
    · cases h
  · cases h
theorem lawRings_len (ok : nlOk nm (num 0 ls)) (hs : s ∈ nm) : ∀ w ∈ lawRings nm ls s, w.length ≤ 2 * nm.length + 1 := fun w hw => by
  obtain ⟨q, hq, h⟩ := List.mem_filterMap.mp hw
  exact lawAt_len ok hs hq h
end
/-! what the law makes of its rings is what the program makes -/
section
variable {nm g : List Str} {ls ws : List PyData} {s n : Str}
theorem flatMap_congr' {α β : Type} {f h : α → List β} : ∀ {l : List α}, (∀ x ∈ l, f x = h x) → l.flatMap f = l.flatMap h
  | [], _ => rfl
  | x :: r, e => by rw [List.flatMap_cons, List.flatMap_cons, e x (by simp), flatMap_congr' fun y hy => e y (by simp [hy])]
theorem filterMap_congr' {α β : Type} {f h : α → Option β} : ∀ {l : List α}, (∀ x ∈ l, f x = h x) → l.filterMap f = l.filterMap h
  | [], _ => rfl
  | x :: r, e => by rw [List.filterMap_cons, List.filterMap_cons, e x (by simp), filterMap_congr' fun y hy => e y (by simp [hy])]
theorem rings_law (ok : nlOk nm (num 0 ls)) (hall : num 0 ls = lkB nm ls) (okg : nlOk (grp nm (num 0 ls) s) (lkB (grp nm (num 0 ls) s) ls)) (hs : s ∈ nm) {u : Str} (hu : u ∈ grp nm (num 0 ls) s) : ringsFrom (grp nm (num 0 ls) s) (lkB (grp nm (num 0 ls) s) ls) u = lawRings nm ls u := by
  have ok' := ok
  rw [hall] at ok'
  have sh : Shut (grp nm (num 0 ls) s) ls := by
    rw [hall]
    exact shut_grp ok' (fun q hq => hall ▸ hq) hs
  have hun := ((grp_mem ok hs).mp hu).1
  have hl : (grp nm (num 0 ls) s).length ≤ nm.length := by unfold grp; exact List.length_filter_le _ _
  rw [rings_same sh hu okg hl fun q hq => ?_]
  · rfl
  · have h1 := (lkB_mem hq).2.1
    have r1 := ((grp_mem ok hs).mp hu).2
    have r2 := ((grp_mem ok hs).mp h1).2
    exact (keys_rch ok hun).mpr (r1.symm.trans r2)
theorem ring_law (ok : nlOk nm (num 0 ls)) (hall : num 0 ls = lkB nm ls) (okg : nlOk (grp nm (num 0 ls) s) (lkB (grp nm (num 0 ls) s) ls)) (hs : s ∈ nm) : lawRing nm ls (grp nm (num 0 ls) s) = firstMin (ringsAll (grp nm (num 0 ls) s) (lkB (grp nm (num 0 ls) s) ls)) := by
  unfold lawRing ringsAll
  rw [flatMap_congr' fun u hu => (rings_law ok hall okg hs hu).symm]
/-- each group once, at its first name -/
theorem firsts_groups {nl : List (Nat × PyData)} (ok : nlOk nm nl) {f : List Str → Option Way} : ∀ (r pre pl : List Str), nm = pre ++ r → nm.Nodup → (∀ x ∈ nm, x ∈ pl ↔ ∃ y ∈ pre, Rch nl y x) →
    (r.filterMap fun n => if (grp nm nl n).head? = some n then f (grp nm nl n) else none) = (groupsFrom nm nl r pl).filterMap f
  | [], pre, pl, _, _, _ => rfl
  | n :: r, pre, pl, hnm, hnd, hpl => by
    have hn : n ∈ nm := by rw [hnm]; simp
    have e1 : nm = (pre ++ [n]) ++ r := by rw [hnm]; simp
    have hh : (grp nm nl n).head? = some n ↔ ¬ ∃ y ∈ pre, Rch nl y n := by
      have hnr : n ∉ pre := fun z => by
        rw [hnm, List.nodup_append] at hnd
        exact hnd.2.2 n z n (by simp) rfl
      have hspl : grp nm nl n = (pre.filter fun o => decide (o ∈ keysOf nm nl n)) ++ (n :: r).filter fun o => decide (o ∈ keysOf nm nl n) := by
        show nm.filter _ = _
        rw [← List.filter_append, ← hnm]
      have hself : decide (n ∈ keysOf nm nl n) = true := decide_eq_true ((keys_rch ok hn).mpr (.refl n))
      rw [hspl, List.filter_cons_of_pos (p := fun o => decide (o ∈ keysOf nm nl n)) hself]
      cases hp : pre.filter fun o => decide (o ∈ keysOf nm nl n) with
      | nil =>
        refine ⟨fun _ ⟨y, hy, hr⟩ => ?_, fun _ => rfl⟩
        have : y ∈ pre.filter fun o => decide (o ∈ keysOf nm nl n) := List.mem_filter.mpr ⟨hy, decide_eq_true ((keys_rch ok hn).mpr hr.symm)⟩
        rw [hp] at this
        cases this
      | cons y t =>
        have hy : y ∈ pre.filter fun o => decide (o ∈ keysOf nm nl n) := by rw [hp]; simp
        obtain ⟨hy1, hy2⟩ := List.mem_filter.mp hy
        rw [decide_eq_true_eq] at hy2
        refine ⟨fun h => ?_, fun h => absurd ⟨y, hy1, ((keys_rch ok hn).mp hy2).symm⟩ h⟩
        simp only [List.cons_append, List.head?_cons, Option.some.injEq] at h
        subst h
        exact absurd hy1 hnr
    unfold groupsFrom
    rw [List.filterMap_cons]
    by_cases hc : n ∈ pl
    · have h1 := (hpl n hn).mp hc
      rw [if_pos hc, if_neg (fun z => hh.mp z h1)]
      refine firsts_groups ok r (pre ++ [n]) pl e1 hnd fun x hx => ?_
      rw [hpl x hx]
      constructor
      · rintro ⟨y, hy, hr⟩
        exact ⟨y, by simp [hy], hr⟩
      · rintro ⟨y, hy, hr⟩
        rcases List.mem_append.mp hy with hy | hy
        · exact ⟨y, hy, hr⟩
        · simp only [List.mem_cons, List.not_mem_nil, or_false] at hy
          subst hy
          obtain ⟨z, hz, hr2⟩ := h1
          exact ⟨z, hz, hr2.trans hr⟩
    · have h1 : ¬ ∃ y ∈ pre, Rch nl y n := fun z => hc ((hpl n hn).mpr z)
      rw [if_neg hc, if_pos (hh.mpr h1), List.filterMap_cons]
      have ih := firsts_groups ok (f := f) r (pre ++ [n]) (pl ++ keysOf nm nl n) e1 hnd fun x hx => by
        rw [List.mem_append, hpl x hx, keys_rch ok hn]
        constructor
        · rintro (⟨y, hy, hr⟩ | hr)
          · exact ⟨y, by simp [hy], hr⟩
          · exact ⟨n, by simp, hr⟩
        · rintro ⟨y, hy, hr⟩
          rcases List.mem_append.mp hy with hy | hy
          · exact .inl ⟨y, hy, hr⟩
          · simp only [List.mem_cons, List.not_mem_nil, or_false] at hy
            subst hy
            exact .inr hr
      rw [ih]
theorem rings_in (ok : nlOk nm (num 0 ls)) (hnm : nm = ws.map nmOf) (hall : num 0 ls = lkB nm ls) (okg : ∀ s ∈ nm, nlOk (grp nm (num 0 ls) s) (lkB (grp nm (num 0 ls) s) ls)) (hnd : nm.Nodup) :
    ringsIn ((groupsOf nm (num 0 ls)).map (grpAns ws ls)) = nm.filterMap fun n => if (grp nm (num 0 ls) n).head? = some n then lawRing nm ls (grp nm (num 0 ls) n) else none := by
  have key := firsts_groups ok (f := fun g => firstMin (ringsAll g (lkB g ls))) nm [] [] rfl hnd (by simp)
  unfold groupsOf
  have e1 : ringsIn ((groupsFrom nm (num 0 ls) nm []).map (grpAns ws ls)) = (groupsFrom nm (num 0 ls) nm []).filterMap fun g => firstMin (ringsAll g (lkB g ls)) := by
    unfold ringsIn
    rw [List.filterMap_map]
    congr 1
    funext g
    show (match ansOf g (lkB g ls) _ with | .ring w => some w | .laid _ => none) = _
    unfold ansOf
    cases firstMin (ringsAll g (lkB g ls)) <;> rfl
  rw [e1, ← key]
  refine filterMap_congr' fun n hn => ?_
  rw [ring_law ok hall (okg n hn) hn]
/-- the place of a view by the law's walk from the first of its group -/
theorem law_place (ok : nlOk nm (num 0 ls)) (hnm : nm = ws.map nmOf) (hall : num 0 ls = lkB nm ls) (okg : ∀ s ∈ nm, nlOk (grp nm (num 0 ls) s) (lkB (grp nm (num 0 ls) s) ls)) (hn : n ∈ nm) {x : Str} (hx : (grp nm (num 0 ls) n).head? = some x) :
    plOf ws ls n = ((placeOf x ws : Int), (wyAt (lawTab nm ls x) n).2) ∧ n ∈ (lawTab nm ls x).map (·.1) ∧ x ∈ nm := by
  have ok' := ok
  rw [hall] at ok'
  have hxg : x ∈ grp nm (num 0 ls) n := List.mem_of_head? hx
  have hxn := ((grp_mem ok hn).mp hxg)
  have sh : Shut (grp nm (num 0 ls) n) ls := by
    rw [hall]
    exact shut_grp ok' (fun q hq => hall ▸ hq) hn
  have hl : (grp nm (num 0 ls) n).length ≤ nm.length := by unfold grp; exact List.length_filter_le _ _
  have hd : (grp nm (num 0 ls) n).headD "" = x := by
    cases hg : grp nm (num 0 ls) n with
    | nil => rw [hg] at hx; cases hx
    | cons y t => rw [hg] at hx; simpa using hx
  refine ⟨?_, (keys_rch ok hxn.1).mpr hxn.2.symm, hxn.1⟩
  unfold plOf
  rw [← hnm, ← hall]
  simp only [hd]
  rw [walks_same sh hxg (okg n hn) hl]
  rfl
/-- the law's answer -/
theorem law_ans (ok : nlOk nm (num 0 ls)) (hnm : nm = ws.map nmOf) (hall : num 0 ls = lkB nm ls) (okg : ∀ s ∈ nm, nlOk (grp nm (num 0 ls) s) (lkB (grp nm (num 0 ls) s) ls)) (hnd : nm.Nodup) :
    layAns ws ls = match firstMin (nm.filterMap fun n => if (grp nm (num 0 ls) n).head? = some n then lawRing nm ls (grp nm (num 0 ls) n) else none) with
      | some w => .ring w
      | none => .laid (nm.map fun n => (n, plOf ws ls n)) := by
  unfold layAns joinAns
  rw [← hnm, ← hall, rings_in ok hnm hall okg hnd]
end
/-! the ring that lay tells is one -/
theorem better_mem {b : Option Way} {w x : Way} (h : better b w = some x) : x = w ∨ b = some x := by
  cases b with
  | none => exact .inl (Option.some.inj h).symm
  | some y =>
    have h2 : (if w.length < y.length then some w else some y) = some x := h
    by_cases c : w.length < y.length
    · rw [if_pos c] at h2
      exact .inl (Option.some.inj h2).symm
    · rw [if_neg c] at h2
      exact .inr h2
theorem fold_mem : ∀ {l : List Way} {b : Option Way} {x : Way}, l.foldl better b = some x → x ∈ l ∨ b = some x
  | [], b, x, h => .inr h
  | w :: l, b, x, h => by
    rcases fold_mem (l := l) h with h | h
    · exact .inl (List.mem_cons_of_mem _ h)
    · rcases better_mem h with h | h
      · exact .inl (by rw [h]; simp)
      · exact .inr h
theorem firstMin_mem {l : List Way} {x : Way} (h : firstMin l = some x) : x ∈ l := by
  have h2 : firstMin ([] ++ l) = some x := h
  rw [firstMin_app] at h2
  rcases fold_mem h2 with h | h
  · exact h
  · cases h
theorem told_ring {nm : List Str} {ws ls : List PyData} {w : Way} (ok : nlOk nm (num 0 ls)) (hnm : nm = ws.map nmOf) (hall : num 0 ls = lkB nm ls) (okg : ∀ s ∈ nm, nlOk (grp nm (num 0 ls) s) (lkB (grp nm (num 0 ls) s) ls)) (hnd : nm.Nodup) (hlk : ∀ d ∈ ls, linkOk d = true) (h : layAns ws ls = .ring w) :
    ∃ s p, WPt ls s w s p ∧ w ≠ [] ∧ p ≠ (0, 0, 0) := by
  have ha := law_ans ok hnm hall okg hnd
  rw [h] at ha
  have hw : ∃ n ∈ nm, w ∈ (grp nm (num 0 ls) n).flatMap (lawRings nm ls) := by
    split at ha
    · rename_i w' hf
      cases ha
      obtain ⟨n, hn, hF⟩ := List.mem_filterMap.mp (firstMin_mem hf)
      split at hF
      · exact ⟨n, hn, firstMin_mem hF⟩
      · cases hF
    · cases ha
  obtain ⟨n, hn, hw⟩ := hw
  obtain ⟨s, hs, hw⟩ := List.mem_flatMap.mp hw
  have hsn : s ∈ nm := ((grp_mem ok hn).mp hs).1
  obtain ⟨q, hq, hat⟩ := List.mem_filterMap.mp hw
  unfold lawAt at hat
  split at hat
  · rename_i hA
    have hB := law_both ok hsn hq hA
    obtain ⟨i, hi⟩ := List.getElem?_of_mem hq
    rw [num_get] at hi
    obtain ⟨d, hd, rfl⟩ := Option.map_eq_some_iff.mp hi
    have e0 : (0 + i, d) = (i, d) := by rw [Nat.zero_add]
    rw [e0] at hat
    obtain ⟨p, hp⟩ := ring_wpt (s := s) hlk (tab_wpt hlk nm.length) hd hA hB hat
    exact ⟨s, p, hp⟩
  · cases hat
theorem told_judR {nm : List Str} {ws ls : List PyData} {w : Way} (ok : nlOk nm (num 0 ls)) (hnm : nm = ws.map nmOf) (hall : num 0 ls = lkB nm ls) (okg : ∀ s ∈ nm, nlOk (grp nm (num 0 ls) s) (lkB (grp nm (num 0 ls) s) ls)) (hnd : nm.Nodup) (hlk : ∀ d ∈ ls, linkOk d = true) (h : layAns ws ls = .ring w) :
    judR ls (wayD w) = true ∧ ∀ x ∈ w, x.1 < ls.length := by
  obtain ⟨s, p, hW, hne, hp⟩ := told_ring ok hnm hall okg hnd hlk h
  exact ⟨hW.judge hne hp (judR_way hW.ok hne), hW.ok⟩
/-! the laying that lay tells is one -/
theorem start_zero {nm : List Str} {ls : List PyData} {s : Str} : (wyAt (lawTab nm ls s) s).2 = (0, 0, 0) := by
  obtain ⟨more, h⟩ := walkP_pre (nl := num 0 ls) (s := s) (a := 0) nm.length
  have h2 : lawTab nm ls s = (s, (([] : Way), ((0, 0, 0) : Plc))) :: more := by
    unfold lawTab
    rw [Nat.zero_add] at h
    rw [h]
    rfl
  unfold wyAt
  rw [h2, gtM_cons, if_pos rfl]
  rfl
theorem told_laid {nm : List Str} {ws ls : List PyData} {md : List (Str × (Int × Plc))} (ok : nlOk nm (num 0 ls)) (hnm : nm = ws.map nmOf) (hall : num 0 ls = lkB nm ls) (okg : ∀ s ∈ nm, nlOk (grp nm (num 0 ls) s) (lkB (grp nm (num 0 ls) s) ls)) (hnd : nm.Nodup) (hlk : ∀ d ∈ ls, linkOk d = true) (h : layAns ws ls = .laid md) :
    md = nm.map (fun n => (n, plOf ws ls n)) ∧ lawL ws ls (plOf ws ls) = true := by
  have ha := law_ans ok hnm hall okg hnd
  rw [h] at ha
  split at ha
  · cases ha
  rename_i hf
  cases ha
  refine ⟨rfl, ?_⟩
  have hno : (nm.filterMap fun n => if (grp nm (num 0 ls) n).head? = some n then lawRing nm ls (grp nm (num 0 ls) n) else none) = [] := by
    rcases firstMin_is _ _ rfl with ⟨e, _⟩ | ⟨i, b, e, _⟩
    · exact e
    · rw [e] at hf; cases hf
  have head : ∀ n ∈ nm, (grp nm (num 0 ls) n).head? = some (hdOf (grp nm (num 0 ls) n)) ∧ hdOf (grp nm (num 0 ls) n) ∈ nm ∧ grp nm (num 0 ls) (hdOf (grp nm (num 0 ls) n)) = grp nm (num 0 ls) n := fun n hn => by
    obtain ⟨h1, r, h2⟩ := grp_hd ok hn
    exact ⟨by rw [h2]; rfl, ((grp_mem ok hn).mp h1).1, grp_same ok hn h1⟩
  have noAt : ∀ n ∈ nm, ∀ q ∈ num 0 ls, lawAt nm ls (hdOf (grp nm (num 0 ls) n)) q = none := fun n hn q hq => by
    obtain ⟨h1, h2, h3⟩ := head n hn
    have hr : lawRing nm ls (grp nm (num 0 ls) n) = none := by
      have := List.filterMap_eq_nil_iff.mp hno (hdOf (grp nm (num 0 ls) n)) h2
      rw [h3, if_pos h1] at this
      exact this
    have hl : (grp nm (num 0 ls) n).flatMap (lawRings nm ls) = [] := by
      rcases firstMin_is _ _ rfl with ⟨e, _⟩ | ⟨i, b, e, _⟩
      · exact e
      · unfold lawRing at hr; rw [e] at hr; cases hr
    have hm : hdOf (grp nm (num 0 ls) n) ∈ grp nm (num 0 ls) n := (grp_hd ok hn).1
    have := List.flatMap_eq_nil_iff.mp hl _ hm
    exact List.filterMap_eq_nil_iff.mp this q hq
  unfold lawL
  rw [← hnm, Bool.and_eq_true, List.all_eq_true, List.all_eq_true]
  refine ⟨fun n hn => ?_, fun d hd => ?_⟩
  · obtain ⟨h1, h2, _⟩ := head n hn
    obtain ⟨e, _, _⟩ := law_place ok hnm hall okg hn h1
    unfold tstL
    rw [← hnm, e, decide_eq_true rfl, Bool.true_and, Bool.or_eq_true]
    by_cases c : hdOf (grp nm (num 0 ls) n) = n
    · right
      refine decide_eq_true ?_
      show (wyAt (lawTab nm ls (hdOf (grp nm (num 0 ls) n))) n).2 = _
      rw [c]
      exact start_zero
    · left
      simp [c]
  · obtain ⟨i, hi⟩ := List.getElem?_of_mem hd
    have hmm : (0 + i, d) ∈ num 0 ls := List.mem_of_getElem? (i := i) (by rw [num_get, hi]; rfl)
    obtain ⟨s, t, a, b, c, he, hs, ht, _⟩ := ok.2 _ hmm
    have he : d = .tuple [.str s, .str t, .int a, .int b, .int c] := he
    subst he
    have hr : Rch (num 0 ls) s t := ⟨1, Pth.one (x := (0 + i, true, t)) (List.mem_flatMap.mpr ⟨_, hmm, by simp [stepsL, lnA, lnB]⟩)⟩
    have hg : grp nm (num 0 ls) t = grp nm (num 0 ls) s := grp_same ok hs ((grp_mem ok hs).mpr ⟨ht, hr⟩)
    obtain ⟨h1, h2, _⟩ := head s hs
    obtain ⟨es, ins, _⟩ := law_place ok hnm hall okg hs h1
    obtain ⟨et, _, _⟩ := law_place ok hnm hall okg ht (by rw [hg]; exact h1)
    have hn := noAt s hs _ hmm
    show decide (behind (plOf ws ls s).2 _ true = (plOf ws ls t).2) = true
    rw [es, et]
    refine decide_eq_true ?_
    unfold lawAt at hn
    rw [if_pos (by exact ins)] at hn
    unfold ringAt at hn
    split at hn
    · cases hn
    · rename_i z
      exact Classical.not_not.mp z
def sp__law_turned (K : PySem.W.Frag) : Sp := fun vs H Q _ => ∃ G d nm, ∃ P : Str → Four, vs = [.ref d] ∧ Y.Ex G H ∧ DctAt K d G H (frM nm P) ∧ nm.Nodup ∧ nm.length ≤ 30 ∧ ∀ o G' H', Nx [] G H G' H' → H o = none → DctAt K o G' H' (frM nm.reverse P) → Q (.ref o) H'
theorem ok__law_turned (T : Tx fa fn bx K mg) : FnOk P w K mg base CX0 1 (He.ga K "_law_turned") (fdOf K (He.ga K "_law_turned")) ["row"] (sp__law_turned K) := by
  refine FunD.ok (F__law_turned T) sc__law_turned (fun vs H Q E h => ?_) (fun cdv A outer s H vs Q E hr h => ?_)
  · obtain ⟨_, _, _, _, rfl, _⟩ := h
    rfl
  · obtain ⟨G, d, nm, P, rfl, e, hD, hnd, hnl, q⟩ := h
    refine ⟨_, PSs.nox ((pss_cons (ps_set (i := 1) sc__law_turned.nd rfl (Or.inl rfl) pe_dnewK)
      (pss_cons (ps_for PassesOwn.never rfl (Y.pi_listK (K := K) rfl (Y.pe_listRev (K := K) rfl rfl (by rfl) (T.free 31) (by rfl) (T.free 9) (pe_callTy (call_list_dK rfl) (by rfl) (T.free 31) (by decide +kernel) (pa_cons (pv 0) pa_nil)))) (pg_name (i := 2) sc__law_turned.nd rfl (Or.inl rfl))
      (pss_one (ps_dput (hu_of hr) (pv 1) (pv 2) (pe_dget (hu_of hr) (pv 0) (pv 2) (fun _ _ => rfl)) rfl)))
      (pss_one (ps_ret (pv 1)))))), ?_⟩
    walk_at "sx"
    refine g_newD (K := K) e fun o H1 n1 ho hO => ?_
    walk_at "sx"
    have hD1 := hD.go n1 (by simp)
    obtain ⟨kvs, hk, gk, hkm, _⟩ := id hD1
    have hkn : kvs.map (fun kv => kV kv.1) = nm.map V.str := by
      have h2 : kvs.map (·.1) = nm.map (fun s => (Sum.inr s : Key)) := by rw [hkm]; simp [frM]
      have h3 := congrArg (fun l => l.map kV) h2
      simp only [List.map_map] at h3
      exact h3
    refine g_listDk hk fun p1 hp1 => ?_
    have n2 : Nx [] G H1 G (upd H1 p1 (.lst (kvs.map fun kv => kV kv.1))) := Nx.own n1.gh hp1
    have hP1 : LstAt K p1 G (upd H1 p1 (.lst (kvs.map fun kv => kV kv.1))) (nm.map .str) := ⟨_, upd_same, n1.gh.free hp1, by rw [hkn]; exact dpAll_str nm⟩
    generalize upd H1 p1 (.lst (kvs.map fun kv => kV kv.1)) = H2 at n2 hP1 ⊢
    refine g_lrevLs n2.gh hP1 fun p2 H3 n3 hp2 hP2 => ?_
    have hO3 := (hO.go n2 (by simp)).go n3 (by simp)
    have hD3 := (hD1.go n2 (by simp)).go n3 (by simp)
    have n13 := (n1.trans n2).trans n3
    have od : o ≠ d := fun z => by obtain ⟨_, h, _⟩ := hD; rw [← z, ho] at h; cases h
    have op2 : o ≠ p2 := fun z => by obtain ⟨_, h, _⟩ := hO.go n2 (by simp); rw [z, hp2] at h; cases h
    rw [← List.map_reverse] at hP2
    walk_at "sx"
    refine g_walkLs hP2 fun S => ?_
    refine g_forS (K := K) (M := [o]) (S [o] (by simp [op2.symm])) n13.gh (fun i σ G' H' => ∃ y2, σ = [some (.ref d), some (.ref o), y2] ∧ DctAt K o G' H' (frM (nm.reverse.take i) P) ∧ DctAt K d G' H' (frM nm P)) ⟨_, rfl, hO3, hD3⟩ ?_ ?_
    · rintro i z w σ' G4 H4 G5 H5 hi n4 ⟨y2, rfl, hO4, hD4⟩ n5 dv
      rw [List.getElem?_map] at hi
      obtain ⟨x, hx, rfl⟩ := Option.map_eq_some_iff.mp hi
      cases dp_str dv
      have hxm : x ∈ nm := List.mem_reverse.mp (List.mem_of_getElem? hx)
      have hD5 := hD4.go n5 (by simp)
      have hO5 := hO4.go n5 (by simp)
      walk_at "sx"
      refine g_dcGet hD5 (k := Sum.inr x) rfl (gt_fr hxm) fun v1 d1 => ?_
      walk_at "sx"
      refine g_dcPut n5.gh hO5 (k := Sum.inr x) rfl d1 (by simp [frM]; omega) fun H6 n6 hO6 => ?_
      have hnew : (Sum.inr x : Key) ∉ (frM (nm.reverse.take i) P).map (·.1) := fun hm => by
        unfold frM at hm
        rw [List.map_map] at hm
        obtain ⟨y, hy, ey⟩ := List.mem_map.mp hm
        have ey : y = x := Sum.inr.inj ey
        subst ey
        obtain ⟨j, hj, hj2⟩ := List.mem_take_iff_getElem.mp hy
        obtain ⟨h1, h2⟩ := List.getElem?_eq_some_iff.mp hx
        have := (List.getElem_inj ((List.reverse_perm nm).nodup_iff.mpr hnd)).mp (hj2.trans h2.symm)
        omega
      rw [ptM_new hnew] at hO6
      refine ⟨G5, (n4.trans n5.pure).trans n6, _, rfl, ?_, hD5.go n6 (by simp [od.symm])⟩
      rw [List.take_add_one, hx]
      unfold frM at hO6 ⊢
      rw [List.map_append]
      exact hO6
    · rintro σ' G4 H4 n4 ⟨y2, rfl, hO4, hD4⟩
      rw [List.length_map, List.take_length] at hO4
      walk_at "sx"
      exact q o G4 H4 ((n13.pure.trans n4).sub (M' := [o]) (by simp [ho])) ho hO4
def sp__law_ways (K : PySem.W.Frag) : Sp := fun vs H Q _ => ∃ G r ls nm s, vs = [.ref r, .str s] ∧ Y.Ex G H ∧ LstAt K r G H ls ∧ ls.length ≤ 100 ∧ nm.Nodup ∧ nm.length ≤ 100 ∧ nlOk nm (num 0 ls) ∧ s ∈ nm ∧
  ∀ o w p G' H', Nx [] G H G' H' → H w = none → H p = none → H o = none → w ≠ p → H' o = some (.lst [.ref w, .ref p]) → G' o = none → DctAt K w G' H' (wayM (walkP (num 0 ls) s nm.length)) → DctAt K p G' H' (plcM (walkP (num 0 ls) s nm.length)) → Q (.ref o) H'
theorem ok__law_ways (T : Tx fa fn bx K mg) : FnOk P w K mg base CX0 2 (He.ga K "_law_ways") (fdOf K (He.ga K "_law_ways")) ["links", "name"] (sp__law_ways K) := by
  refine FunD.ok (F__law_ways T) sc__law_ways (fun vs H Q E h => ?_) (fun cdv A outer s H vs Q E hr h => ?_)
  · obtain ⟨_, _, _, _, _, rfl, _⟩ := h
    rfl
  · obtain ⟨G, r, ls, nm, s, rfl, e, hL, hll, hnd, hnl, hok, hs, q⟩ := h
    refine ⟨_, PSs.nox ((pss_cons (ps_set (i := 2) sc__law_ways.nd rfl (Or.inl rfl) (pe_disp (pps_cons (pv 1) (pe_tup pa_nil) pps_nil) (by rfl) (by rfl) (fun z => by cases z) (by decide)))
      (pss_cons (ps_set (i := 3) sc__law_ways.nd rfl (Or.inl rfl) (pe_disp (pps_cons (pv 1) (pe_tup (pa_cons pe_int (pa_cons pe_int (pa_cons pe_int pa_nil)))) pps_nil) (by rfl) (by rfl) (fun z => by cases z) (by decide)))
      (pss_cons (ps_set (i := 4) sc__law_ways.nd rfl (Or.inl rfl) (pe_lst (pa_cons (pv 1) pa_nil)))
      (pss_cons (ps_set (i := 5) sc__law_ways.nd rfl (Or.inl rfl) pe_int)
      (pss_cons (ps_while PassesOwn.never (pt_cmpR op_lt (pv 5) (pe_callB (Y.call_lenK (K := K) rfl) (by rfl) (T.free 3) (by decide +kernel) (pa_cons (pv 4) pa_nil)) (nomark _))
      (pss_cons (ps_for PassesOwn.never rfl (Y.pi_listK (K := K) rfl (Y.pe_callC (ok__law_steps T) (cal__law_steps T) (hr.mono (by decide)) (by rfl) pass0 (pa_cons (pv 0) (pa_cons (pe_ix (Y.ix_listK (K := K) rfl) (pv 4) (pv 5) (fun _ _ => rfl)) pa_nil)))) (pg_name (i := 6) sc__law_ways.nd rfl (Or.inl rfl))
      (pss_one (ps_if (pt_cmp (pc_dnotin (hu_of hr) (pe_ix (Y.ix_tupK (K := K) rfl) (pv 6) pe_int (fun _ _ => rfl)) (pv 2)))
      (pss_cons (ps_dput (hu_of hr) (pv 2) (pe_ix (Y.ix_tupK (K := K) rfl) (pv 6) pe_int (fun _ _ => rfl)) (pe_op (Y.op_catAK (K := K) rfl) (pe_dget (hu_of hr) (pv 2) (pe_ix (Y.ix_listK (K := K) rfl) (pv 4) (pv 5) (fun _ _ => rfl)) (fun _ _ => rfl)) (pe_tup (pa_cons (pe_tup (pa_cons (pe_ix (Y.ix_tupK (K := K) rfl) (pv 6) pe_int (fun _ _ => rfl)) (pa_cons (pe_ix (Y.ix_tupK (K := K) rfl) (pv 6) pe_int (fun _ _ => rfl)) pa_nil))) pa_nil))) rfl)
      (pss_cons (ps_dput (hu_of hr) (pv 3) (pe_ix (Y.ix_tupK (K := K) rfl) (pv 6) pe_int (fun _ _ => rfl)) (Y.pe_callC (ok__law_moved T) (cal__law_moved T) (hr.mono (by decide)) (by rfl) pass0 (pa_cons (pe_dget (hu_of hr) (pv 3) (pe_ix (Y.ix_listK (K := K) rfl) (pv 4) (pv 5) (fun _ _ => rfl)) (fun _ _ => rfl)) (pa_cons (pe_ix (Y.ix_listK (K := K) rfl) (pv 0) (pe_ix (Y.ix_tupK (K := K) rfl) (pv 6) pe_int (fun _ _ => rfl)) (fun _ _ => rfl)) (pa_cons (pe_ix (Y.ix_tupK (K := K) rfl) (pv 6) pe_int (fun _ _ => rfl)) pa_nil)))) rfl)
      (pss_one (ps_expr (Y.pe_bmK (K := K) rfl PySem.F.plainAttrs_list PySem.F.slot_list_append PySem.F.type_list_append mt_append (pv 4) (pa_cons (pe_ix (Y.ix_tupK (K := K) rfl) (pv 6) pe_int (fun _ _ => rfl)) pa_nil))))))
      pss_nil)))
      (pss_one (ps_set (i := 5) sc__law_ways.nd rfl (Or.inl rfl) (pe_op op_add (pv 5) pe_int)))))
      (pss_one (ps_ret (pe_lst (pa_cons (pv 2) (pa_cons (pv 3) pa_nil))))))))))), ?_⟩
    have tok := walkP_ok hok hs
    have hform : ∀ d ∈ ls, ∃ (s t : Str) (x y z : Int), d = .tuple [.str s, .str t, .int x, .int y, .int z] := fun d hd => by
      obtain ⟨i, hi, rfl⟩ := List.getElem_of_mem hd
      have hm : (i, ls[i]) ∈ num 0 ls := List.mem_of_getElem? (i := i) (by rw [num_get, List.getElem?_eq_getElem hi]; simp)
      obtain ⟨s, t, a, b, c, e, _⟩ := hok.2 _ hm
      exact ⟨s, t, a, b, c, e⟩
    have hat : ∀ i d, (i, d) ∈ num 0 ls → ls[i]? = some d := fun i d hm => by
      obtain ⟨j, hj, hj2⟩ := List.mem_iff_getElem.mp hm
      have e1 : (num 0 ls)[j]? = some (i, d) := by rw [List.getElem?_eq_getElem hj, hj2]
      rw [num_get] at e1
      obtain ⟨d', hd', e2⟩ := Option.map_eq_some_iff.mp e1
      simp only [Nat.zero_add, Prod.mk.injEq] at e2
      rw [← e2.1, ← e2.2]
      exact hd'
    have hndn : nlNd (num 0 ls) := num_nodup 0 ls
    generalize hnn : num 0 ls = nl at *
    walk_at "sx"
    intro D1 hD1
    have n1 : Nx [] G H G (upd H D1 (.dK [])) := Nx.own e hD1
    have h1D : (upd H D1 (.dK [])) D1 = some (.dK []) := upd_same
    generalize upd H D1 (.dK []) = H1 at n1 h1D ⊢
    walk_at "sx"
    refine g_tupD (K := K) (ds := []) n1.gh .nil (Nat.zero_le _) fun t1 G2 H2 n2 d1 => ?_
    walk_at "sx"
    refine g_di1 (n2.fr D1 _ (by simp) h1D) (k := Sum.inr s) rfl ?_
    have gD1 : G2 D1 = none := n2.old D1 (e.free hD1) ⟨_, h1D, fun _ z => nomatch z⟩
    have n3 : Nx [D1] G2 H2 G2 (upd H2 D1 (.dK [(Sum.inr s, .ref t1)])) := Nx.set n2.gh gD1 (by simp)
    have hW3 : DctAt K D1 G2 (upd H2 D1 (.dK [(Sum.inr s, .ref t1)])) (wayM (walkP nl s 0)) := ⟨_, upd_same, gD1, rfl, .cons d1 .nil⟩
    generalize upd H2 D1 (.dK [(Sum.inr s, .ref t1)]) = H3 at n3 hW3 ⊢
    have nA : Nx [] G H G2 H3 := ((n1.trans n2).pure.trans n3).drop hD1
    walk_at "sx"
    intro D2 hD2
    have hD2H : H D2 = none := nA.fresh hD2
    have D12 : D1 ≠ D2 := fun z => hW3.live (z ▸ hD2)
    have n4 : Nx [] G2 H3 G2 (upd H3 D2 (.dK [])) := Nx.own nA.gh hD2
    have h2D : (upd H3 D2 (.dK [])) D2 = some (.dK []) := upd_same
    generalize upd H3 D2 (.dK []) = H4 at n4 h2D ⊢
    walk_at "sx"
    refine g_tupD (K := K) (ds := [.int 0, .int 0, .int 0]) n4.gh (.cons (.int _) (.cons (.int _) (.cons (.int _) .nil))) (by show 3 ≤ sizeLine; decide) fun t2 G5 H5 n5 d2 => ?_
    walk_at "sx"
    refine g_di1 (n5.fr D2 _ (by simp) h2D) (k := Sum.inr s) rfl ?_
    have gD2 : G5 D2 = none := n5.old D2 (nA.gh.free hD2) ⟨_, h2D, fun _ z => nomatch z⟩
    have n6 : Nx [D2] G5 H5 G5 (upd H5 D2 (.dK [(Sum.inr s, .ref t2)])) := Nx.set n5.gh gD2 (by simp)
    have hP6 : DctAt K D2 G5 (upd H5 D2 (.dK [(Sum.inr s, .ref t2)])) (plcM (walkP nl s 0)) := ⟨_, upd_same, gD2, rfl, .cons d2 .nil⟩
    generalize upd H5 D2 (.dK [(Sum.inr s, .ref t2)]) = H6 at n6 hP6 ⊢
    have hW6 := ((hW3.go n4 (by simp)).go n5 (by simp)).go n6 (by simp [D12])
    have nB : Nx [] G H G5 H6 := nA.trans (((n4.trans n5).pure.trans n6).drop hD2)
    walk_at "sx"
    refine g_lstLs (K := K) (L := [.str s]) n6.gh (.cons (.str _) .nil) (by show 1 ≤ 100000; decide) fun O H7 n7 hO0 hLO => ?_
    walk_at "sx"
    have hW7 := hW6.go n7 (by simp)
    have hP7 := hP6.go n7 (by simp)
    have O1 : O ≠ D1 := fun z => hW6.live (z ▸ hO0)
    have O2 : O ≠ D2 := fun z => hP6.live (z ▸ hO0)
    have nC : Nx [] G H G5 H7 := nB.trans n7
    have hL7 := hL.go nC (by simp)
    have r1 : r ≠ D1 := fun z => hL.live (z ▸ hD1)
    have r2 : r ≠ D2 := fun z => hL.live (z ▸ hD2H)
    have rO : r ≠ O := fun z => (hL.go nB (by simp)).live (z ▸ hO0)
    refine g_while nm.length (fun n σ H' => ∃ G', ∃ a : Nat, ∃ y6, σ = [some (.ref r), some (.str s), some (.ref D1), some (.ref D2), some (.ref O), some (.int (a : Int)), y6] ∧ Nx [D1, D2, O] G5 H7 G' H' ∧ DctAt K D1 G' H' (wayM (walkP nl s a)) ∧ DctAt K D2 G' H' (plcM (walkP nl s a)) ∧ LstAt K O G' H' (ordD (walkP nl s a)) ∧ n = nm.length - a ∧ a ≤ (walkP nl s a).length) ⟨G5, 0, _, rfl, Nx.refl n7.gh, hW7, hP7, hLO, by omega, Nat.zero_le _⟩ ?_
    rintro n σ' H8 ⟨G8, a, y6, rfl, n8, hW8, hP8, hL8, hn, ha⟩
    have tl := (tok a).len
    walk_at "sx"
    refine g_lenLs hL8 ?_
    refine ⟨_, _, rfl, rfl, ?_⟩
    walk_at "sx"
    have ol : (ordD (walkP nl s a)).length = (walkP nl s a).length := by unfold ordD; rw [List.length_map]
    rw [ol]
    refine g_dec (fun hlt => ?_) (fun hge => ?_)
    rotate_left
    · walk_at "sx"
      have hea : (walkP nl s a).length = a := by omega
      have hfin : walkP nl s nm.length = walkP nl s a := by
        have := walkP_done (nl := nl) (s := s) (a := a) (by omega) (nm.length - a)
        rwa [show a + (nm.length - a) = nm.length by omega] at this
      rw [hfin] at q
      refine ⟨by show 2 ≤ sizeLine; decide, fun o ho => ?_⟩
      have nD : Nx [] G H G8 H8 := (((nC.pure (M := [D1, D2, O])).trans n8)).sub fun x hx => by
        simp only [List.mem_cons, List.not_mem_nil, or_false] at hx
        rcases hx with rfl | rfl | rfl
        · exact .inr hD1
        · exact .inr hD2H
        · exact .inr (nB.fresh hO0)
      have no : Nx [] G8 H8 G8 (upd H8 o (.lst [.ref D1, .ref D2])) := Nx.own n8.gh ho
      exact q o D1 D2 G8 _ (nD.trans no) hD1 hD2H (nD.fresh ho) D12 upd_same (n8.gh.free ho) (hW8.go no (by simp)) (hP8.go no (by simp))
    have hlt : a < (walkP nl s a).length := by omega
    refine g_whN ?_
    walk_at "sx"
    obtain ⟨⟨nx, wx, px⟩, he0⟩ : ∃ e0, (walkP nl s a)[a]? = some e0 := ⟨_, List.getElem?_eq_getElem hlt⟩
    have hget := he0
    have hxnm : nx ∈ nm := (tok a).sub nx (List.mem_map_of_mem (List.mem_of_getElem? he0))
    refine g_ixLs (k := a) (d := .str nx) hL8 (by unfold ordD; rw [List.getElem?_map, he0]; rfl) rfl fun v1 d1' => ?_
    cases dp_str d1'
    walk_at "sx"
    have hLr8 := hL7.go n8 (by simp [r1, r2, rO])
    refine ⟨G8, r, ls, nx, rfl, n8.gh, hLr8, hll, hform, fun st G9 H9 n9 hst hLs => ?_⟩
    rw [hnn] at hLs
    have hW9 := hW8.go n9 (by simp)
    have hP9 := hP8.go n9 (by simp)
    have hO9 := hL8.go n9 (by simp)
    have s1 : st ≠ D1 := fun z => hW8.live (z ▸ hst)
    have s2 : st ≠ D2 := fun z => hP8.live (z ▸ hst)
    have sO : st ≠ O := fun z => hL8.live (z ▸ hst)
    have n59 : Nx [D1, D2, O] G5 H7 G9 H9 := n8.trans n9.pure
    have hwl : wx.length ≤ (walkP nl s a).length := (tok a).way _ (List.mem_of_getElem? hget)
    have pre : ∀ k, ∃ more, ((stepsOf nl nx).take k).foldl (visit nl wx px) (walkP nl s a) = walkP nl s a ++ more := fun k => fold_pre
    have tokk : ∀ k, TabOk nm (((stepsOf nl nx).take k).foldl (visit nl wx px) (walkP nl s a)) := fun k => (tok a).fold (fun x hx => (steps_in hok (List.mem_of_mem_take hx)).1) hwl
    refine g_walkLs hLs fun S => ?_
    refine g_forS (K := K) (M := [D1, D2, O]) (S [D1, D2, O] (by simp [s1, s2, sO])) n9.gh (fun k σ G' H' => ∃ y6, σ = [some (.ref r), some (.str s), some (.ref D1), some (.ref D2), some (.ref O), some (.int (a : Int)), y6] ∧ DctAt K D1 G' H' (wayM (((stepsOf nl nx).take k).foldl (visit nl wx px) (walkP nl s a))) ∧ DctAt K D2 G' H' (plcM (((stepsOf nl nx).take k).foldl (visit nl wx px) (walkP nl s a))) ∧ LstAt K O G' H' (ordD (((stepsOf nl nx).take k).foldl (visit nl wx px) (walkP nl s a)))) ⟨_, rfl, hW9, hP9, hO9⟩ ?_ ?_
    · rintro k d v σ' G10 H10 G11 H11 hk n10 ⟨y6, rfl, hW10, hP10, hO10⟩ n11 dv
      rw [List.getElem?_map] at hk
      obtain ⟨⟨i1, f1, o1⟩, hst1, rfl⟩ := Option.map_eq_some_iff.mp hk
      have hsm := List.mem_of_getElem? hst1
      obtain ⟨ho1, _⟩ := steps_in hok hsm
      obtain ⟨lq, hlq, hl1, hl2⟩ := steps_mem hsm
      simp only at hl1
      obtain ⟨sa, sb, da, db, dc, hld, _⟩ := hok.2 lq hlq
      have hlk : gtM nl i1 = some (.tuple [.str sa, .str sb, .int da, .int db, .int dc]) := by
        rw [← hl1, ← hld]
        exact gt_mem hndn hlq
      have hlat : lkAt nl i1 = .tuple [.str sa, .str sb, .int da, .int db, .int dc] := by unfold lkAt; rw [hlk]; rfl
      have hls : ls[i1]? = some (.tuple [.str sa, .str sb, .int da, .int db, .int dc]) := hat i1 _ (by rw [← hl1, ← hld]; exact hlq)
      have tk : (stepsOf nl nx).take (k + 1) = (stepsOf nl nx).take k ++ [(i1, f1, o1)] := by rw [List.take_add_one, hst1]; rfl
      have tokn := tokk (k + 1)
      rw [tk, List.foldl_append, List.foldl_cons, List.foldl_nil] at tokn ⊢
      have hpre := pre k
      have htk := tokk k
      generalize ((stepsOf nl nx).take k).foldl (visit nl wx px) (walkP nl s a) = tab at hW10 hP10 hO10 tokn hpre htk ⊢
      have hga : tab[a]? = some (nx, (wx, px)) := by
        obtain ⟨more, hm⟩ := hpre
        rw [hm, List.getElem?_append_left hlt]
        exact hget
      have hgt := gtM_nd htk.nd hga
      have htl := htk.len
      have hW11 := hW10.go n11 (by simp)
      have hP11 := hP10.go n11 (by simp)
      have hO11 := hO10.go n11 (by simp)
      have n911 := n10.trans n11.pure
      have hwa : gtM (wayM tab) (Sum.inr nx : Key) = some (wayD wx) := by
        unfold wayM; rw [gtM_mapV (f := fun e => wayD e.1)]
        show (gtM tab nx).map _ = _
        rw [hgt]; rfl
      have hpa : gtM (plcM tab) (Sum.inr nx : Key) = some (plD px) := by
        unfold plcM; rw [gtM_mapV (f := fun e => plD e.2)]
        show (gtM tab nx).map _ = _
        rw [hgt]; rfl
      have hoa : (ordD tab)[a]? = some (.str nx) := by unfold ordD; rw [List.getElem?_map, hga]; rfl
      walk_at "sx"
      refine g_ixT (k := 2) n11.gh dv rfl rfl fun v2 d2' => ?_
      cases dp_str d2'
      walk_at "sx"
      refine g_dcNi hW11 (k := Sum.inr o1) rfl ?_
      rw [wayM_in]
      walk_at "sx"
      refine g_ndec (fun hno => ?_) (fun hyes => ?_) <;> walk_at "sx"
      rotate_left
      · refine ⟨G11, n911, _, rfl, ?_⟩
        unfold visit
        rw [if_pos hyes]
        exact ⟨hW11, hP11, hO11⟩
      refine g_ixLs (k := a) hO11 hoa rfl fun v3 d3 => ?_
      cases dp_str d3
      refine g_dcGet hW11 (k := Sum.inr nx) rfl hwa fun v4 d4 => ?_
      walk_at "sx"
      refine g_ixT (k := 0) n11.gh dv rfl rfl fun v5 d5 => ?_
      cases dp_int d5
      walk_at "sx"
      refine g_ixT (k := 1) n11.gh dv rfl rfl fun v6 d6 => ?_
      cases dp_bl d6
      walk_at "sx"
      refine g_tupD (K := K) (ds := [.int (i1 : Int), .bool f1]) n11.gh (.cons (.int _) (.cons (.bl _) .nil)) (by show 2 ≤ sizeLine; decide) fun t3 G12 H12 n12 d12 => ?_
      walk_at "sx"
      refine g_tupD (K := K) (ds := [waD (i1, f1)]) n12.gh (.cons d12 .nil) (by show 1 ≤ sizeLine; decide) fun t4 G13 H13 n13 d13 => ?_
      walk_at "sx"
      have n1113 := n12.trans n13
      have hwl2 : wx.length ≤ tab.length := htk.way _ (List.mem_of_getElem? hga)
      refine g_catA (ds := wx.map waD) n13.gh (dp_mono n1113.gg d4) d13 (by rw [List.length_map]; exact szle (by simp; omega)) fun t5 G14 H14 n14 d14 => ?_
      walk_at "sx"
      have n1114 := n1113.trans n14
      refine g_ixT (k := 2) n14.gh (dp_mono n1114.gg dv) rfl rfl fun v7 d7 => ?_
      cases dp_str d7
      have hW14 := hW11.go n1114 (by simp)
      refine g_dcPut n14.gh hW14 (k := Sum.inr o1) rfl d14 (by unfold wayM; rw [List.length_map]; omega) fun H15 n15 hW15 => ?_
      have e15 : ptM (wayM tab) (Sum.inr o1 : Key) (.tuple (wx.map waD ++ [waD (i1, f1)])) = wayM (tab ++ [(o1, (wx ++ [(i1, f1)], behind px (lkAt nl i1) f1))]) := by
        unfold wayM
        rw [mapV_new (f := fun e => wayD e.1) hno, List.map_append]
        simp [wayD]
      rw [e15] at hW15
      have hP15 := (hP11.go n1114 (by simp)).go n15 (by simp [D12.symm])
      have hO15 := (hO11.go n1114 (by simp)).go n15 (by simp [O1])
      have n1115 := n1114.pure.trans n15
      have hLr15 := (hL7.go (n59.trans n911) (by simp [r1, r2, rO])).go n1115 (by simp [r1])
      have dv14 := dp_mono n1114.gg dv
      walk_at "sx"
      refine g_ixLs (k := a) hO15 hoa rfl fun u1 c1 => ?_
      cases dp_str c1
      refine g_dcGet hP15 (k := Sum.inr nx) rfl hpa fun u2 c2 => ?_
      walk_at "sx"
      refine g_ixT (k := 0) n15.gh dv14 rfl rfl fun u3 c3 => ?_
      cases dp_int c3
      walk_at "sx"
      refine g_ixLs (k := i1) hLr15 hls rfl fun u4 c4 => ?_
      walk_at "sx"
      refine g_ixT (k := 1) n15.gh dv14 rfl rfl fun u5 c5 => ?_
      cases dp_bl c5
      walk_at "sx"
      refine ⟨G14, u2, u4, px, sa, sb, da, db, dc, f1, rfl, n15.gh, c2, c4, fun u6 G16 H16 n16 c6 => ?_⟩
      walk_at "sx"
      refine g_ixT (k := 2) n16.gh (dp_mono n16.gg dv14) rfl rfl fun u7 c7 => ?_
      cases dp_str c7
      have hW16 := hW15.go n16 (by simp)
      have hP16 := hP15.go n16 (by simp)
      have hO16 := hO15.go n16 (by simp)
      refine g_dcPut n16.gh hP16 (k := Sum.inr o1) rfl c6 (by unfold plcM; rw [List.length_map]; omega) fun H17 n17 hP17 => ?_
      have e17 : ptM (plcM tab) (Sum.inr o1 : Key) (plD (behind px (.tuple [.str sa, .str sb, .int da, .int db, .int dc]) f1)) = plcM (tab ++ [(o1, (wx ++ [(i1, f1)], behind px (lkAt nl i1) f1))]) := by
        unfold plcM
        rw [mapV_new (f := fun e => plD e.2) hno, List.map_append, hlat]
        rfl
      rw [e17] at hP17
      have hW17 := hW16.go n17 (by simp [D12])
      have hO17 := hO16.go n17 (by simp [O2])
      walk_at "sx"
      refine g_tyLs hO17 ?_
      walk_at "sx"
      refine g_ixT (k := 2) n17.gh (dp_mono n16.gg dv14) rfl rfl fun u8 c8 => ?_
      cases dp_str c8
      walk_at "sx"
      refine g_appLs n17.gh hO17 (.str _) (by unfold ordD; rw [List.length_map]; omega) fun H18 n18 hO18 => ?_
      have ev : visit nl wx px tab (i1, f1, o1) = tab ++ [(o1, (wx ++ [(i1, f1)], behind px (lkAt nl i1) f1))] := if_neg hno
      have nn : Nx [D1, D2, O] G11 H11 G16 H18 := (((n1115.mono fun w hw => by simp at hw; simp [hw]).trans n16.pure).trans (n17.mono fun w hw => by simp at hw; simp [hw])).trans (n18.mono fun w hw => by simp at hw; simp [hw])
      refine ⟨G16, n911.trans nn, _, rfl, ?_⟩
      rw [ev]
      have e18 : ordD (tab ++ [(o1, (wx ++ [(i1, f1)], behind px (lkAt nl i1) f1))]) = ordD tab ++ [.str o1] := by unfold ordD; rw [List.map_append]; rfl
      rw [e18]
      exact ⟨hW17.go n18 (by simp [O1.symm]), hP17.go n18 (by simp [O2.symm]), hO18⟩
    · rintro σ' G10 H10 n10 ⟨y6, rfl, hW10, hP10, hO10⟩
      rw [List.length_map, List.take_length] at hW10 hP10 hO10
      have ep : walkP nl s (a + 1) = (stepsOf nl nx).foldl (visit nl wx px) (walkP nl s a) := by
        show proc nl (walkP nl s a) a = _
        unfold proc
        rw [hget]
      rw [← ep] at hW10 hP10 hO10
      walk_at "sx"
      refine ⟨nm.length - (a + 1), by omega, G10, a + 1, _, rfl, n59.trans n10, hW10, hP10, hO10, rfl, ?_⟩
      obtain ⟨more, hm⟩ := proc_pre (nl := nl) (tab := walkP nl s a) (i := a)
      show a + 1 ≤ (proc nl (walkP nl s a) a).length
      rw [hm, List.length_append]
      omega
def sp_joined (K : PySem.W.Frag) : Sp := fun vs H Q _ => ∃ G p b, ∃ nm : List Str, ∃ as pl, vs = [.ref p, .ref b] ∧ Y.Ex G H ∧ LstAt K p G H (nm.map .str) ∧ AnsLs K b G H as ∧ nm.Nodup ∧ nm.length ≤ 100 ∧ as.length ≤ 100 ∧ (∀ md, Ans.laid md ∈ as → md.length ≤ 100) ∧
  (ringsIn as = [] → ∀ n ∈ nm, gtM (laidIn as) (Sum.inr n : Key) = some (plcD (pl n))) ∧ ∀ v G' H', Nx [] G H G' H' → AnsAt K v G' H' (joinAns nm as pl) → Q v H'
theorem ok_joined (T : Tx fa fn bx K mg) : FnOk P w K mg base CX0 1 (He.ga K "joined") (fdOf K (He.ga K "joined")) ["names", "answers"] (sp_joined K) := by
  refine FunD.ok (F_joined T) sc_joined (fun vs H Q E h => ?_) (fun cdv A outer s H vs Q E hr h => ?_)
  · obtain ⟨_, _, _, _, _, _, rfl, _⟩ := h
    rfl
  · obtain ⟨G, p, b, nm, as, pl, rfl, e, hL, hB, hnd, hnl, hal, hml, hpl, q⟩ := h
    refine ⟨_, PSs.nox ((pss_cons (ps_setLc (i := 2) (own := [("kind", 6), ("told", 7)]) rfl sc_joined.nd rfl rfl (sw_true rfl rfl rfl (by decide +kernel)) (Y.pi_listK (K := K) rfl (pv 1)) (blkOk_by (own := [("kind", 6), ("told", 7)]) (by kernel_rfl)) (fun _ _ _ _ _ => (Y.pg_tupK (K := K) (n := 2) rfl rfl (pgs_cons (pg_name (i := 6) sc_joined.nd rfl (Or.inl rfl)) (pgs_cons (pg_name (i := 7) sc_joined.nd rfl (Or.inl rfl)) pgs_nil)))) (fun _ _ _ _ _ => (pts_one (pt_cmpR op_eq (pv 6) pe_str (nomark _)))) (fun _ _ _ _ _ => (pv 7)))
      (pss_cons (ps_if (Y.pt_truthK (K := K) rfl (pv 2) (by intro _; rfl))
      (pss_one (ps_ret (pe_tup (pa_cons pe_str (pa_cons (Y.pe_minLenK (K := K) rfl rfl (by rfl) (T.free 11) (by rfl) (T.free 3) (pa_cons (pv 2) pa_nil)) pa_nil)))))
      pss_nil)
      (pss_cons (ps_set (i := 3) sc_joined.nd rfl (Or.inr rfl) pe_dnewK)
      (pss_cons (ps_for PassesOwn.never rfl (Y.pi_listK (K := K) rfl (pv 1)) (Y.pg_tupK (K := K) (n := 2) rfl rfl (pgs_cons (pg_name (i := 4) sc_joined.nd rfl (Or.inl rfl)) (pgs_cons (pg_name (i := 5) sc_joined.nd rfl (Or.inl rfl)) pgs_nil)))
      (pss_one (ps_expr (Y.pe_bmK (K := K) rfl PySem.F.plainAttrs_dict PySem.F.slot_dict_update PySem.F.type_dict_update Y.mt_update (pv 3) (pa_cons (pv 5) pa_nil)))))
      (pss_one (ps_ret (pe_tup (pa_cons pe_str (pa_cons (pe_dc (own := [("name", 8)]) (tt := tYes) rfl sc_joined.nd (Y.pi_listK (K := K) rfl (pv 0)) (blkOk_by (own := [("name", 8)]) (by kernel_rfl)) (fun _ _ _ _ _ => (pg_name (i := 8) sc_joined.nd rfl (Or.inl rfl))) (fun _ _ _ _ _ => pts_nil) (fun _ _ _ _ _ => (pv 8)) (fun _ _ _ _ _ => (pe_dget (hu_of hr) (pv 3) (pv 8) (fun _ _ => rfl)))) pa_nil)))))))))), ?_⟩
    walk_at "sx"
    obtain ⟨vs, hb, gb, hvl, hvs⟩ := id hB
    refine g_walkV hb ?_
    intro A hA
    have Ab : A ≠ b := fun z => by rw [z, hb] at hA; cases hA
    refine g_lcP (M := []) (src_raw hb (by simp)) e hA (by simp) (szl (by omega)) (fun i acc G' _ => DpAll K G' acc ((ringsIn (as.take i)).map wayD)) (fun _ _ _ _ _ _ h => h) (fun _ _ _ _ _ _ n h => dpAll_mono n.gg h) .nil (fun i v acc G1 H1 hi hv n1 _ hj QE QN k1 k2 => ?_) (fun G1 H1 ys hj n1 g1 h1 hyl => ?_)
    · obtain ⟨a0, ha0⟩ : ∃ a, as[i]? = some a := ⟨as[i]'(by omega), by simp [show i < as.length by omega]⟩
      have hat := (hvs i v a0 hv ha0).go n1 (by simp)
      have tk : as.take (i + 1) = as.take i ++ [a0] := by rw [List.take_add_one, ha0]; rfl
      obtain ⟨t, x, rfl, h⟩ := hat
      cases a0 with
      | ring w =>
        refine g_un2R n1.gh h.1 ⟨wipe2, ?_⟩
        walk_at "sx"
        refine g_dec (fun _ => ?_) (fun z => absurd rfl z)
        walk_at "sx"
        refine k1 _ G1 H1 (Nx.refl n1.gh) ?_
        have : (ringsIn (as.take (i + 1))).map wayD = (ringsIn (as.take i)).map wayD ++ [wayD w] := by
          unfold ringsIn
          rw [tk, List.filterMap_append, List.map_append]
          rfl
        rw [this]
        exact dpAll_snoc hj h.2
      | laid md =>
        obtain ⟨d, ex, hT, _⟩ := h
        subst ex
        refine g_un2R n1.gh hT ⟨wipe2, ?_⟩
        walk_at "sx"
        refine g_dec (fun z => absurd z (by decide)) (fun _ => ?_)
        refine k2 G1 H1 (Nx.refl n1.gh) ?_
        have : ringsIn (as.take (i + 1)) = ringsIn (as.take i) := by
          unfold ringsIn
          rw [tk, List.filterMap_append]
          simp
        rw [this]
        exact hj
    rw [hvl, List.take_length] at hj
    walk_at "sx"
    refine g_truL (.of h1) ?_
    refine g_nbool (fun hnn => ?_) (fun hem => ?_)
    · walk_at "sx"
      refine g_minLen ?_
      walk_at "sx"
      have hpos : 0 < ys.length := by
        cases ys with
        | nil => cases hnn
        | cons _ _ => simp
      refine g_minLs (ns := (ringsIn as).map fun w => w.map waD) h1 n1.gh hj (by rw [List.map_map]; rfl) (by rw [← dpAll_len hj]; exact hpos) fun i x u hx hu dx hb => ?_
      rw [List.getElem?_map] at hu
      obtain ⟨w, hw, rfl⟩ := Option.map_eq_some_iff.mp hu
      have hmin : firstMin (ringsIn as) = some w := firstMin_of (i := i) ⟨hw, fun j y hy => by
        have := hb j (y.map waD) (by rw [List.getElem?_map, hy]; rfl)
        simpa using this⟩
      walk_at "sx"
      refine g_tupRaw (K := K) n1.gh (by show 2 ≤ sizeLine; decide) fun t G7 H7 n7 ht hT => ?_
      have ea : joinAns nm as pl = .ring w := by unfold joinAns; rw [hmin]
      refine q _ G7 H7 (n1.trans n7) ?_
      rw [ea]
      exact ⟨t, x, rfl, hT, dp_mono n7.gg dx⟩
    walk_at "sx"
    have hR0 : ringsIn as = [] := by
      have h0 : ys.length = 0 := by
        cases ys with
        | nil => rfl
        | cons _ _ => cases hem
      have := dpAll_len hj
      rw [List.length_map, h0] at this
      exact List.length_eq_zero_iff.mp this.symm
    refine g_newD (K := K) n1.gh fun D H2 n2 hD0 hD => ?_
    walk_at "sx"
    have hb1 : H1 b = some (.lst vs) := n1.fr b _ (by simp) hb
    have hb2 : H2 b = some (.lst vs) := n2.fr b _ (by simp) hb1
    have bD : b ≠ D := fun z => by rw [← z, hb1] at hD0; cases hD0
    refine g_walkV hb2 ?_
    refine g_forV hb2 (M := [D]) (by simp [bD]) n2.gh (fun i σ G' H' => ∃ y4 y5, σ = [some (.ref p), some (.ref b), some (.ref A), some (.ref D), y4, y5, none, none, none] ∧ DctAt K D G' H' (laidIn (as.take i)) ∧ (laidIn (as.take i)).length ≤ 100 * i) ⟨_, _, rfl, hD, Nat.le_refl _⟩ ?_ ?_
    · rintro i v σ' G3 H3 hv n3 ⟨y4, y5, rfl, hD3, hl3⟩
      have hi : i < vs.length := (List.getElem?_eq_some_iff.mp hv).1
      obtain ⟨a0, ha0⟩ : ∃ a, as[i]? = some a := ⟨as[i]'(by omega), by simp [show i < as.length by omega]⟩
      have tk : as.take (i + 1) = as.take i ++ [a0] := by rw [List.take_add_one, ha0]; rfl
      have n13 : Nx [D] G1 H1 G3 H3 := n2.pure.trans n3
      have hat := (hvs i v a0 hv ha0).go n1 (by simp)
      obtain ⟨t, x, rfl, h⟩ := hat
      cases a0 with
      | ring w =>
        have : w ∈ ringsIn as := List.mem_filterMap.mpr ⟨_, List.mem_of_getElem? ha0, rfl⟩
        rw [hR0] at this
        cases this
      | laid md =>
        obtain ⟨d, ex, hT, hd⟩ := h
        subst ex
        have Dd : D ≠ d := fun z => hd.live (z ▸ hD0)
        have hd := hd.go n13 (by simp [Dd.symm])
        refine g_un2R n3.gh (n13.gg.seqT hT) ?_
        walk_at "sx"
        have hml2 := hml md (List.mem_of_getElem? ha0)
        have hll : (layM md).length ≤ 100 := by unfold layM; rw [List.length_map]; exact hml2
        obtain ⟨kvs, hkv, _⟩ := id hD3
        refine ⟨.inr (.inr (.inl ⟨rfl, .inl ⟨kvs, hkv⟩⟩)), ?_⟩
        walk_at "sx"
        have e9 : laidIn (as.take (i + 1)) = mergeM (laidIn (as.take i)) (layM md) := by
          unfold laidIn
          rw [tk, List.foldl_append]
          rfl
        refine g_updD n3.gh hD3 hd Dd (by omega) fun H4 n4 hD4 => ⟨G3, n3.trans n4, _, _, rfl, by rw [e9]; exact hD4, ?_⟩
        rw [e9]
        have := mergeM_len (md := laidIn (as.take i)) (more := layM md)
        omega
    · rintro σ' G3 H3 n3 ⟨y4, y5, rfl, hD3, hl3⟩
      rw [hvl, List.take_length] at hD3
      walk_at "sx"
      have n13 : Nx [] G H G3 H3 := ((n1.pure (M := [D])).trans (n2.pure.trans n3)).drop (n1.fresh hD0)
      have hL3 := hL.go n13 (by simp)
      refine g_walkLs hL3 fun S => ?_
      intro C hC
      let f : Str → Str × (Int × Plc) := fun n => (n, pl n)
      refine g_dcC (K := K) (M := []) (S [] (by simp)) n3.gh hC (by simp) (by rw [List.length_map]; omega) (fun i kvs G' _ => KvAt K kvs G' (layM ((nm.take i).map f))) (fun _ _ _ _ _ h => h) (fun _ _ _ _ _ _ n h => h.ex n.gg) .nil (fun i d2 w2 kvs G9 H9 hi dw n9 hDl hj QE QN k1 k2 => ?_) fun G9 H9 kvs hj n9 g9 h9 hkl => ?_
      · rw [List.getElem?_map] at hi
        obtain ⟨z, hz, rfl⟩ := Option.map_eq_some_iff.mp hi
        cases dp_str dw
        have hzm := List.mem_of_getElem? hz
        walk_at "sx"
        refine g_dcGet (hD3.go n9 (by simp)) (k := Sum.inr z) rfl (hpl hR0 z hzm) fun v3 d3 => ?_
        refine k1 _ _ (Sum.inr z) G9 H9 rfl (Nx.refl n9.gh) ?_
        obtain ⟨p1, p2⟩ := pt_rel (Sum.inr z) d3 hj.1 hj.2
        have hz2 : (Sum.inr z : Key) ∉ (layM ((nm.take i).map f)).map (·.1) := fun hm => by
          unfold layM at hm
          rw [List.map_map, List.map_map] at hm
          obtain ⟨y, hy, ey⟩ := List.mem_map.mp hm
          have ey : y = z := Sum.inr.inj ey
          subst ey
          obtain ⟨jj, hjj, hj2⟩ := List.mem_take_iff_getElem.mp hy
          obtain ⟨hi2, e2⟩ := List.getElem?_eq_some_iff.mp hz
          have := (List.getElem_inj hnd).mp (hj2.trans e2.symm)
          omega
        rw [ptM_new hz2] at p1 p2
        have el : layM ((nm.take (i + 1)).map f) = layM ((nm.take i).map f) ++ [(Sum.inr z, plcD (pl z))] := by
          rw [List.take_add_one, hz]
          unfold layM
          rw [List.map_append, List.map_append]
          rfl
        rw [el]
        exact ⟨p1, p2⟩
      walk_at "sx"
      rw [List.length_map, List.take_length] at hj
      have hDD : DctAt K C G9 H9 (layM (nm.map f)) := ⟨kvs, h9, g9, hj.1, hj.2⟩
      refine g_tupRaw (K := K) n9.gh (by show 2 ≤ sizeLine; decide) fun t G10 H10 n10 ht hT => ?_
      have ea : joinAns nm as pl = .laid (nm.map f) := by
        unfold joinAns
        rw [hR0]
        rfl
      refine q _ G10 H10 (n13.trans (n9.trans n10)) ?_
      rw [ea]
      exact ⟨t, _, rfl, C, rfl, hT, hDD.go n10 (by simp)⟩
def sp__backwards (K : PySem.W.Frag) : Sp := fun vs H Q _ => ∃ G v w, vs = [v] ∧ Y.Ex G H ∧ Dp K G v (wayD w) ∧ w.length ≤ 1000 ∧ ∀ u G' H', Nx [] G H G' H' → Dp K G' u (wayD (backW w)) → Q u H'
theorem ok__backwards (T : Tx fa fn bx K mg) : FnOk P w K mg base CX0 1 (He.ga K "_backwards") (fdOf K (He.ga K "_backwards")) ["way"] (sp__backwards K) := by
  refine FunD.ok (F__backwards T) sc__backwards (fun vs H Q E h => ?_) (fun cdv A outer s H vs Q E hr h => ?_)
  · obtain ⟨_, _, _, rfl, _⟩ := h
    rfl
  · obtain ⟨G, v, w, rfl, e, dv, hw, q⟩ := h
    refine ⟨_, PSs.nox ((pss_one (ps_ret (pe_callTy (Y.call_tupleK (K := K) rfl) (by rfl) (T.free 4) (by decide +kernel) (pa_cons (pe_lc (own := [("number", 1), ("forward", 2)]) (tt := tYes) rfl sc__backwards.nd (Y.pi_revAK (K := K) rfl (by rfl) (T.free 9) (pv 0)) (blkOk_by (own := [("number", 1), ("forward", 2)]) (by kernel_rfl)) (fun _ _ _ _ _ => (Y.pg_tupK (K := K) (n := 2) rfl rfl (pgs_cons (pg_name (i := 1) sc__backwards.nd rfl (Or.inl rfl)) (pgs_cons (pg_name (i := 2) sc__backwards.nd rfl (Or.inl rfl)) pgs_nil)))) (fun _ _ _ _ _ => pts_nil) (fun _ _ _ _ _ => (pe_tup (pa_cons (pv 1) (pa_cons (pe_not (pv 2)) pa_nil))))) pa_nil))))), ?_⟩
    walk_at "sx"
    refine g_iRevA ?_
    walk_at "sx"
    refine g_revT e dv fun a xs S => ?_
    intro A hA
    refine g_lcPS (K := K) (M := []) (es := fun i => (((w.reverse).take i).map fun x => (x.1, !x.2)).map waD) (S []) e hA (by simp) (by rw [List.length_reverse, List.length_map]; exact szl (by omega)) (by simp) (fun i d v1 acc G' H' hi d1 n1 _ QE QN k1 k2 => ?_) fun G' H' n1 hL => ?_
    · rw [← List.map_reverse, List.getElem?_map] at hi
      obtain ⟨x, hx, rfl⟩ := Option.map_eq_some_iff.mp hi
      refine g_un2 n1.gh d1 fun u1 u2 e1 e2 => ?_
      cases dp_int e1
      cases dp_bl e2
      refine ⟨wipe2, ?_⟩
      walk_at "sx"
      refine g_tupD (K := K) (ds := [.int (x.1 : Int), .bool (!x.2)]) n1.gh (.cons (.int _) (.cons (.bl _) .nil)) (by show 2 ≤ sizeLine; decide) fun t G2 H2 n2 d2 => ?_
      refine k1 _ G2 H2 _ n2 d2 ?_
      show List.map waD _ = List.map waD _ ++ _
      rw [List.take_add_one, hx, List.map_append, List.map_append]
      rfl
    walk_at "sx"
    rw [List.length_reverse, List.length_map, ← List.length_reverse, List.take_length] at hL
    obtain ⟨ys, hA2, gA2, da⟩ := hL
    exact g_tupOfM n1.gh hA2 da fun p G2 H2 n2 d2 => q _ _ _ (n1.trans n2) d2
def sp__rings_from (K : PySem.W.Frag) : Sp := fun vs H Q _ => ∃ G q r nm nl s, vs = [.str s, .ref q, .ref r] ∧ Y.Ex G H ∧ DctAt K q G H (lkM nl) ∧ DctAt K r G H (stepsM nm nl) ∧ nm.Nodup ∧ nm.length ≤ 100 ∧ nl.length ≤ 1000 ∧ nlOk nm nl ∧ nlNd nl ∧ s ∈ nm ∧
  (∀ q ∈ nl, lnA q.2 ∈ keysOf nm nl s ∧ lnB q.2 ∈ keysOf nm nl s) ∧ ∀ o G' H', Nx [] G H G' H' → H o = none → LstAt K o G' H' ((ringsFrom nm nl s).map wayD) → Q (.ref o) H'
theorem ok__rings_from (T : Tx fa fn bx K mg) : FnOk P w K mg base CX0 3 (He.ga K "_rings_from") (fdOf K (He.ga K "_rings_from")) ["start", "links", "steps"] (sp__rings_from K) := by
  refine FunD.ok (F__rings_from T) sc__rings_from (fun vs H Q E h => ?_) (fun cdv A outer s H vs Q E hr h => ?_)
  · obtain ⟨_, _, _, _, _, _, rfl, _⟩ := h
    rfl
  · obtain ⟨G, q0, r0, nm, nl, s, rfl, e, hq, hrr, hnd, hnl, hll, hok, hnn, hs, hks, q⟩ := h
    refine ⟨_, PSs.nox ((pss_cons (ps_set (i := 3) sc__rings_from.nd rfl (Or.inl rfl) (Y.pe_callC (ok__walks_from T) (cal__walks_from T) (hr.mono (by decide)) (by rfl) pass0 (pa_cons (pv 0) (pa_cons (pv 1) (pa_cons (pv 2) pa_nil)))))
      (pss_cons (ps_set (i := 4) sc__rings_from.nd rfl (Or.inl rfl) (pe_lst pa_nil))
      (pss_cons (ps_lock (ps_for PassesOwn.never rfl (pi_items (pv 1)) (Y.pg_tupK (K := K) (n := 2) rfl rfl (pgs_cons (pg_name (i := 5) sc__rings_from.nd rfl (Or.inl rfl)) (pgs_cons (pg_name (i := 6) sc__rings_from.nd rfl (Or.inl rfl)) pgs_nil)))
      (pss_cons (ps_asg (pe_dget (hu_of hr) (pv 3) (pe_ix (Y.ix_tupK (K := K) rfl) (pv 6) pe_int (fun _ _ => rfl)) (fun _ _ => rfl)) (Y.pg_tupK (K := K) (n := 2) rfl rfl (pgs_cons (pg_name (i := 7) sc__rings_from.nd rfl (Or.inl rfl)) (pgs_cons (pg_name (i := 8) sc__rings_from.nd rfl (Or.inl rfl)) pgs_nil))))
      (pss_cons (ps_asg (pe_dget (hu_of hr) (pv 3) (pe_ix (Y.ix_tupK (K := K) rfl) (pv 6) pe_int (fun _ _ => rfl)) (fun _ _ => rfl)) (Y.pg_tupK (K := K) (n := 2) rfl rfl (pgs_cons (pg_name (i := 9) sc__rings_from.nd rfl (Or.inl rfl)) (pgs_cons (pg_name (i := 10) sc__rings_from.nd rfl (Or.inl rfl)) pgs_nil))))
      (pss_one (ps_if (pt_cmpR (Y.op_neDK (K := K) rfl hr.units) (Y.pe_callC (ok__place_behind T) (cal__place_behind T) (hr.mono (by decide)) (by rfl) pass0 (pa_cons (pv 8) (pa_cons (pv 6) (pa_cons pe_bl pa_nil)))) (pv 10) (nomark _))
      (pss_one (ps_expr (Y.pe_bmK (K := K) rfl PySem.F.plainAttrs_list PySem.F.slot_list_append PySem.F.type_list_append mt_append (pv 4) (pa_cons (pe_op (Y.op_catAK (K := K) rfl) (pe_op (Y.op_catAK (K := K) rfl) (pv 7) (pe_tup (pa_cons (pe_tup (pa_cons (pv 5) (pa_cons pe_bl pa_nil))) pa_nil))) (Y.pe_callC (ok__backwards T) (cal__backwards T) (hr.mono (by decide)) (by rfl) pass0 (pa_cons (pv 9) pa_nil))) pa_nil))))
      pss_nil))))))
      (pss_one (ps_ret (pv 4))))))), ?_⟩
    walk_at "sx"
    refine ⟨G, q0, r0, nm, nl, s, rfl, e, hq, hrr, hnd, by omega, hok, hnn, hs, fun wk G1 H1 n1 hwk hDw => ?_⟩
    walk_at "sx"
    refine g_lstLs (K := K) (L := []) n1.gh .nil (Nat.zero_le _) fun rg H2 n2 hrg hLr => ?_
    walk_at "sx"
    have hq2 := (hq.go n1 (by simp)).go n2 (by simp)
    have hDw2 := hDw.go n2 (by simp)
    have n12 := n1.trans n2
    have rgq : rg ≠ q0 := fun z => (hq.go n1 (by simp)).live (z ▸ hrg)
    have rgw : rg ≠ wk := fun z => hDw.live (z ▸ hrg)
    have wkq : wk ≠ q0 := fun z => hq.live (z ▸ hwk)
    have rlen := ring_len hok hs hks
    have key : ∀ x ∈ nl, ∀ n, n = lnA x.2 ∨ n = lnB x.2 → gtM (tabM (walksOf nm nl s)) (Sum.inr n : Key) = some (enD (wyAt (walksOf nm nl s) n)) := fun x hx n hn => by
      rw [gtM_tab, (wy_get (by
        rcases hn with rfl | rfl
        · exact (hks x hx).1
        · exact (hks x hx).2)).1]
      rfl
    have wl : ∀ x ∈ nl, ∀ n, n = lnA x.2 ∨ n = lnB x.2 → (wyAt (walksOf nm nl s) n).1.length ≤ nm.length := fun x hx n hn => way_len hok hs (by
        rcases hn with rfl | rfl
        · exact (hks x hx).1
        · exact (hks x hx).2)
    have erg : ringsFrom nm nl s = nl.filterMap (ringAt (walksOf nm nl s)) := rfl
    generalize walksOf nm nl s = tab at *
    refine g_forItems (K := K) (M := [rg]) hq2 n2.gh (by simp [rgq.symm]) rfl (fun i σ G' H' => ∃ y5 y6 y7 y8 y9 y10, σ = [some (.str s), some (.ref q0), some (.ref r0), some (.ref wk), some (.ref rg), y5, y6, y7, y8, y9, y10] ∧ DctAt K wk G' H' (tabM tab) ∧ LstAt K rg G' H' (((nl.take i).filterMap (ringAt tab)).map wayD)) (fun od u => ⟨_, _, _, _, _, _, rfl, hDw2.go (Nx.set (M := [q0]) n2.gh (by obtain ⟨_, _, g, _⟩ := hq2; exact g) (by simp)) (by simp [wkq]), by
      have := hLr.go (Nx.set (M := [q0]) (o := .frz od u) n2.gh (by obtain ⟨_, _, g, _⟩ := hq2; exact g) (by simp)) (by simp [rgq])
      simpa using this⟩) ?_ ?_
    · rintro i k x v σ' G3 H3 H0 G4 H4 hi n3 ⟨y5, y6, y7, y8, y9, y10, rfl, hDw3, hL3⟩ n4 dv R hR D' e1 e2
      unfold lkM at hi
      rw [List.getElem?_map] at hi
      obtain ⟨⟨nb, x0⟩, hx0, he⟩ := Option.map_eq_some_iff.mp hi
      simp only [Prod.mk.injEq] at he
      obtain ⟨rfl, rfl⟩ := he
      have hmem := List.mem_of_getElem? hx0
      obtain ⟨s1, s2, dx, dy, dz, e5, hs1, hs2, hst⟩ := hok.2 _ hmem
      simp only at e5
      subst e5
      have k1 := key _ hmem s1 (.inl rfl)
      have k2 := key _ hmem s2 (.inr rfl)
      have l1 := wl _ hmem s1 (.inl rfl)
      have l2 := wl _ hmem s2 (.inr rfl)
      have hDw4 := hDw3.go n4 (by simp)
      have hL4 := hL3.go n4 (by simp)
      refine g_un2 n4.gh dv fun v1 v2 d1 d2 => ?_
      cases dp_int d1
      walk_at "sx"
      refine g_ixT (k := 0) n4.gh d2 rfl rfl fun w1 e1' => ?_
      cases dp_str e1'
      refine g_dcGet hDw4 (k := Sum.inr s1) rfl k1 fun w2 e2' => ?_
      refine g_un2 n4.gh e2' fun w3 w4 e3 e4 => ?_
      walk_at "sx"
      refine g_ixT (k := 1) n4.gh d2 rfl rfl fun w5 e5 => ?_
      cases dp_str e5
      refine g_dcGet hDw4 (k := Sum.inr s2) rfl k2 fun w6 e6 => ?_
      refine g_un2 n4.gh e6 fun w7 w8 e7 e8 => ?_
      walk_at "sx"
      refine ⟨G4, w4, v2, (wyAt tab s1).2, s1, s2, dx, dy, dz, true, rfl, n4.gh, e4, d2, fun v6 G5 H5 n5 d6 => ?_⟩
      walk_at "sx"
      refine g_neD n5.gh d6 (dp_mono n5.gg e8) shaped_pl shaped_pl ?_
      rw [eqv_pl]
      have hL5 := hL4.go n5 (by simp)
      have hDw5 := hDw4.go n5 (by simp)
      have n35 := n3.trans (n4.trans n5).pure
      have tk : (nl.take (i + 1)).filterMap (ringAt tab) = (nl.take i).filterMap (ringAt tab) ++ (ringAt tab (nb, .tuple [.str s1, .str s2, .int dx, .int dy, .int dz])).toList := by
        rw [List.take_add_one, hx0, List.filterMap_append]
        congr 1
      have fl : ((nl.take i).filterMap (ringAt tab)).length ≤ 1000 := by
        have := List.length_filterMap_le (ringAt tab) (nl.take i)
        rw [List.length_take] at this
        omega
      walk_at "sx"
      refine g_ndec (fun hno => ?_) (fun hyes => ?_) <;> walk_at "sx"
      rotate_left
      · rw [e1] at *
        refine hR _ G5 _ n35 ⟨_, _, _, _, _, _, rfl, hDw5, ?_⟩
        have : ringAt tab (nb, .tuple [.str s1, .str s2, .int dx, .int dy, .int dz]) = none := if_neg (fun z => z hyes)
        rw [tk, this]
        simpa using hL5
      refine g_tyLs hL5 ?_
      walk_at "sx"
      refine g_tupD (K := K) (ds := [.int (nb : Int), .bool true]) n5.gh (.cons (.int _) (.cons (.bl _) .nil)) (by show 2 ≤ sizeLine; decide) fun t3 G6 H6 n6 d7 => ?_
      walk_at "sx"
      refine g_tupD (K := K) (ds := [waD (nb, true)]) n6.gh (.cons d7 .nil) (by show 1 ≤ sizeLine; decide) fun t4 G7 H7 n7 d8 => ?_
      walk_at "sx"
      have n57 := n5.trans (n6.trans n7)
      refine g_catA (ds := (wyAt tab s1).1.map waD) n7.gh (dp_mono n57.gg e3) d8 (by rw [List.length_map]; exact szle (by simp; omega)) fun t5 G8 H8 n8 d9 => ?_
      walk_at "sx"
      have n58 := n57.trans n8
      refine ⟨G8, w7, (wyAt tab s2).1, rfl, n8.gh, dp_mono n58.gg e7, by omega, fun v9 G9 H9 n9 d10 => ?_⟩
      walk_at "sx"
      refine g_catA (es := (backW (wyAt tab s2).1).map waD) n9.gh (dp_mono n9.gg d9) d10 (by rw [List.length_append, List.length_map, List.length_map, backW_len]; exact szle (by simp; omega)) fun t6 G10 H10 n10 d11 => ?_
      walk_at "sx"
      have n510 : Nx [] G5 H5 G10 H10 := (n6.trans n7).trans ((n8.trans n9).trans n10)
      refine g_appLs n10.gh (hL5.go n510 (by simp)) d11 (by rw [List.length_map]; omega) fun H11 n11 hL11 => ?_
      walk_at "sx"
      rw [e1] at *
      refine hR _ G10 _ ((n35.trans n510.pure).trans n11) ⟨_, _, _, _, _, _, rfl, (hDw5.go n510 (by simp)).go n11 (by simp [rgw.symm]), ?_⟩
      have : ringAt tab (nb, .tuple [.str s1, .str s2, .int dx, .int dy, .int dz]) = some ((wyAt tab s1).1 ++ [(nb, true)] ++ backW (wyAt tab s2).1) := if_pos hno
      rw [tk, this, List.map_append]
      have e12 : List.map wayD (some ((wyAt tab s1).1 ++ [(nb, true)] ++ backW (wyAt tab s2).1)).toList = [.tuple ((wyAt tab s1).1.map waD ++ [waD (nb, true)] ++ (backW (wyAt tab s2).1).map waD)] := by simp [wayD]
      rw [e12]
      exact hL11
    · rintro σ' G3 H3 od u n3 g3 hD3 ⟨y5, y6, y7, y8, y9, y10, rfl, hDw3, hL3⟩
      unfold lkM at hL3
      rw [List.length_map, List.take_length, ← erg] at hL3
      walk_at "sx"
      exact q rg G3 _ (((n12.pure (M := [rg])).trans n3).drop (n1.fresh hrg)) (n1.fresh hrg) (hL3.upd rgq.symm)
def sp_lay_group (K : PySem.W.Frag) : Sp := fun vs H Q _ => ∃ G a d l ws ls p, ∃ ns nm : List Str, vs = [.ref a, p] ∧ Y.Ex G H ∧ AlbAt K a d l G H ws ls ∧ Dp K G p (.list (ns.map .str)) ∧ nm = (ws.map nmOf).filter (fun n => decide (n ∈ ns)) ∧ nm ≠ [] ∧
  (∀ u ∈ nm, ∀ v ∈ nm, Rch (lkB nm ls) u v) ∧ ∀ v G' H', Nx [] G H G' H' → AnsAt K v G' H' (ansOf nm (lkB nm ls) (placeOf (nm.headD "") ws : Int)) → Q v H'
theorem ok_lay_group (T : Tx fa fn bx K mg) : FnOk P w K mg base CX0 5 (He.ga K "lay_group") (fdOf K (He.ga K "lay_group")) ["album", "names"] (sp_lay_group K) := by
  refine FunD.ok (F_lay_group T) sc_lay_group (fun vs H Q E h => ?_) (fun cdv A outer s H vs Q E hr h => ?_)
  · obtain ⟨_, _, _, _, _, _, _, _, _, rfl, _⟩ := h
    rfl
  · obtain ⟨G, a, d, l, ws, ls, p, ns, nm, rfl, e, hA, hL, hnm, hne, hcon, q⟩ := h
    refine ⟨_, PSs.nox ((pss_cons (ps_setLc (i := 2) (own := [("name", 6)]) rfl sc_lay_group.nd rfl rfl (sw_true rfl rfl rfl (by decide +kernel)) (Y.pi_listK (K := K) rfl (Y.pe_meth0C (pv 0) (T.cls 6) (T.meth 10) (ok_Album_names T) (hr.mono (by decide)) (cal_Album_names T) pass0)) (blkOk_by (own := [("name", 6)]) (by kernel_rfl)) (fun _ _ _ _ _ => (pg_name (i := 6) sc_lay_group.nd rfl (Or.inl rfl))) (fun _ _ _ _ _ => (pts_one (pt_cmpR (Y.op_inK (K := K) rfl) (pv 6) (pv 1) (by rfl)))) (fun _ _ _ _ _ => (pv 6)))
      (pss_cons (ps_set (i := 3) sc_lay_group.nd rfl (Or.inl rfl) (Y.pe_callC (ok__links_between T) (cal__links_between T) (hr.mono (by decide)) (by rfl) pass0 (pa_cons (pv 0) (pa_cons (pv 2) pa_nil))))
      (pss_cons (ps_set (i := 4) sc_lay_group.nd rfl (Or.inl rfl) (Y.pe_callC (ok__steps_at T) (cal__steps_at T) (hr.mono (by decide)) (by rfl) pass0 (pa_cons (pv 2) (pa_cons (pv 3) pa_nil))))
      (pss_cons (ps_set (i := 5) sc_lay_group.nd rfl (Or.inl rfl) (pe_lst pa_nil))
      (pss_cons (ps_for PassesOwn.never rfl (Y.pi_listK (K := K) rfl (pv 2)) (pg_name (i := 6) sc_lay_group.nd rfl (Or.inl rfl))
      (pss_one (ps_expr (Y.pe_bmK (K := K) rfl PySem.F.plainAttrs_list PySem.F.slot_list_extend PySem.F.type_list_extend mt_extend (pv 5) (pa_cons (Y.pe_callC (ok__rings_from T) (cal__rings_from T) (hr.mono (by decide)) (by rfl) pass0 (pa_cons (pv 6) (pa_cons (pv 3) (pa_cons (pv 4) pa_nil)))) pa_nil)))))
      (pss_cons (ps_if (Y.pt_truthK (K := K) rfl (pv 5) (by intro _; rfl))
      (pss_one (ps_ret (pe_tup (pa_cons pe_str (pa_cons (Y.pe_minLenK (K := K) rfl rfl (by rfl) (T.free 11) (by rfl) (T.free 3) (pa_cons (pv 5) pa_nil)) pa_nil)))))
      pss_nil)
      (pss_cons (ps_set (i := 7) sc_lay_group.nd rfl (Or.inl rfl) (pe_ix (Y.ix_listK (K := K) rfl) (pv 2) pe_int (fun _ _ => rfl)))
      (pss_cons (ps_set (i := 8) sc_lay_group.nd rfl (Or.inr rfl) (Y.pe_methCS (pv 0) (T.cls 6) (T.meth 12) (ok_Album_index T) (hr.mono (by decide)) (cal_Album_index T) (fun σ => passAt takes0 σ) (pa_cons (pv 7) pa_nil)))
      (pss_cons (ps_set (i := 9) sc_lay_group.nd rfl (Or.inr rfl) (Y.pe_callC (ok__walks_from T) (cal__walks_from T) (hr.mono (by decide)) (by rfl) pass0 (pa_cons (pv 7) (pa_cons (pv 3) (pa_cons (pv 4) pa_nil)))))
      (pss_one (ps_ret (pe_tup (pa_cons pe_str (pa_cons (pe_dc (own := [("name", 6)]) (tt := tYes) rfl sc_lay_group.nd (Y.pi_listK (K := K) rfl (pv 2)) (blkOk_by (own := [("name", 6)]) (by kernel_rfl)) (fun _ _ _ _ _ => (pg_name (i := 6) sc_lay_group.nd rfl (Or.inl rfl))) (fun _ _ _ _ _ => pts_nil) (fun _ _ _ _ _ => (pv 6)) (fun _ _ _ _ _ => (pe_op (Y.op_catAK (K := K) rfl) (pe_tup (pa_cons (pv 8) pa_nil)) (pe_ix (Y.ix_tupK (K := K) rfl) (pe_dget (hu_of hr) (pv 9) (pv 6) (fun _ _ => rfl)) pe_int (fun _ _ => rfl))))) pa_nil))))))))))))))), ?_⟩
    walk_at "sx"
    obtain ⟨_, _, _, _, ⟨dx1, h1⟩, _⟩ := id hA
    refine g_mth h1 rfl ?_
    walk_at "sx"
    refine ⟨G, a, d, l, ws, ls, rfl, e, hA, fun p1 H1 n1 hp1 hL1 => ?_⟩
    have ok := hA.2.2.2.1
    have hnd := ok.nd
    have hvl := ok.vl
    have ev : namesOf ws = (ws.map nmOf).map .str := by unfold namesOf; rw [List.map_map]; rfl
    rw [ev] at hL1
    obtain ⟨nok, nnd⟩ := nlOk_of (nm := nm) ok.ll fun v hv => (ok.lo v hv).1
    have hlen : nm.length ≤ 30 := by
      rw [hnm]
      have := List.length_filter_le (fun n => decide (n ∈ ns)) (ws.map nmOf)
      rw [List.length_map] at this
      omega
    have hnd2 : nm.Nodup := by rw [hnm]; exact hnd.filter _
    have hsub : ∀ x ∈ nm, x ∈ ws.map nmOf := fun x hx => by rw [hnm] at hx; exact (List.mem_filter.mp hx).1
    have nll : (lkB nm ls).length ≤ 60 := Nat.le_trans (lkB_len nm ls) ok.ll
    refine g_walkLs hL1 fun S => ?_
    intro B hB
    refine g_lcS (K := K) (M := []) (S [] (by simp)) n1.gh hB (by simp) (by rw [List.length_map]; exact szl (by rw [List.length_map]; omega)) (fun j acc => acc = (((ws.map nmOf).take j).filter fun n => decide (n ∈ ns)).map .str) rfl (fun j d2 w2 acc G2 H2 hj dw2 n2 _ hjj QE QN k1 k2 => ?_) (fun G2 H2 ys acc hjj n2 g2 h2 da => ?_)
    · rw [List.getElem?_map] at hj
      obtain ⟨z, hz, rfl⟩ := Option.map_eq_some_iff.mp hj
      cases dp_str dw2
      have tk : (ws.map nmOf).take (j + 1) = (ws.map nmOf).take j ++ [z] := by rw [List.take_add_one, hz]; rfl
      walk_at "sx"
      refine g_inSd n2.gh (dp_mono (n1.trans n2).gg hL) ?_
      walk_at "sx"
      refine g_dec (fun hin => ?_) (fun hout => ?_) <;> walk_at "sx"
      · refine k1 _ G2 H2 _ (Nx.refl n2.gh) (.str z) ?_
        rw [hjj, tk, List.filter_append, List.filter_cons_of_pos (by exact decide_eq_true hin)]
        simp
      · refine k2 G2 H2 (Nx.refl n2.gh) ?_
        rw [hjj, tk, List.filter_append, List.filter_cons_of_neg (by rw [decide_eq_true_eq]; exact hout)]
        simp
    rw [List.length_map, List.take_length, ← hnm] at hjj
    subst hjj
    have hO2 : LstAt K B G2 H2 (nm.map .str) := ⟨ys, h2, g2, da⟩
    have n02 := n1.trans n2
    have hA2 := hA.go n02 (by simp) (by simp) (by simp)
    clear hL1 S
    walk_at "sx"
    refine ⟨G2, a, d, l, ws, ls, B, nm, rfl, n2.gh, hA2, hO2, fun lk G3 H3 n3 hlk hDl => ?_⟩
    generalize hnl : lkB nm ls = nl at *
    walk_at "sx"
    have hO3 := hO2.go n3 (by simp)
    refine ⟨G3, B, nm, lk, nl, rfl, n3.gh, hO3, hDl, hnd2, by omega, nok, fun st G4 H4 n4 hst hDs => ?_⟩
    walk_at "sx"
    refine g_lstLs (K := K) (L := []) n4.gh .nil (Nat.zero_le _) fun rg H5 n5 hrg hLr => ?_
    walk_at "sx"
    have hO5 := (hO3.go n4 (by simp)).go n5 (by simp)
    have hDl5 := (hDl.go n4 (by simp)).go n5 (by simp)
    have hDs5 := hDs.go n5 (by simp)
    have hA5 := ((hA2.go n3 (by simp) (by simp) (by simp)).go n4 (by simp) (by simp) (by simp)).go n5 (by simp) (by simp) (by simp)
    have rgB : rg ≠ B := fun z => (hO3.go n4 (by simp)).live (z ▸ hrg)
    have rgl : rg ≠ lk := fun z => (hDl.go n4 (by simp)).live (z ▸ hrg)
    have rgs : rg ≠ st := fun z => hDs.live (z ▸ hrg)
    have n25 := (n3.trans n4).trans n5
    have lv := ((hA2.go n3 (by simp) (by simp) (by simp)).go n4 (by simp) (by simp) (by simp)).live
    have rga : a ≠ rg ∧ d ≠ rg ∧ l ≠ rg := ⟨fun z => lv.1 (z ▸ hrg), fun z => lv.2.1 (z ▸ hrg), fun z => lv.2.2.1 (z ▸ hrg)⟩
    have hks : ∀ s ∈ nm, ∀ q ∈ nl, lnA q.2 ∈ keysOf nm nl s ∧ lnB q.2 ∈ keysOf nm nl s := fun s hs x hx => by
      obtain ⟨s1, s2, dx, dy, dz, e5, hs1, hs2, _⟩ := nok.2 _ hx
      rw [e5]
      exact ⟨(keys_rch nok hs).mpr (hcon s hs s1 hs1), (keys_rch nok hs).mpr (hcon s hs s2 hs2)⟩
    have rl : ∀ k, ((nm.take k).flatMap (ringsFrom nm nl)).length ≤ 60 * k := fun k => by
      have key : ∀ l : List Str, (l.flatMap (ringsFrom nm nl)).length ≤ 60 * l.length := fun l => by
        induction l with
        | nil => simp
        | cons x r ih =>
          rw [List.flatMap_cons, List.length_append, List.length_cons]
          have := List.length_filterMap_le (ringAt (walksOf nm nl x)) nl
          have h2 : (ringsFrom nm nl x).length ≤ nl.length := this
          omega
      have := key (nm.take k)
      rw [List.length_take] at this
      omega
    refine g_walkLs hO5 fun S => ?_
    refine g_forS (K := K) (M := [rg]) (S [rg] (by simp [rgB.symm])) n5.gh (fun i σ G' H' => ∃ y6, σ = [some (.ref a), some p, some (.ref B), some (.ref lk), some (.ref st), some (.ref rg), y6, none, none, none] ∧ LstAt K rg G' H' (((nm.take i).flatMap (ringsFrom nm nl)).map wayD)) ⟨_, rfl, by simpa using hLr⟩ ?_ ?_
    · rintro i w v σ' G6 H6 G7 H7 hi n6 ⟨y6, rfl, hr6⟩ n7 dv
      rw [List.getElem?_map] at hi
      obtain ⟨x, hx, rfl⟩ := Option.map_eq_some_iff.mp hi
      cases dp_str dv
      have hxn := List.mem_of_getElem? hx
      have hil : i < nm.length := (List.getElem?_eq_some_iff.mp hx).1
      have n67 := n6.trans n7.pure
      have hr7 := hr6.go n7 (by simp)
      walk_at "sx"
      refine g_tyLs hr7 ?_
      walk_at "sx"
      refine ⟨G7, lk, st, nm, nl, x, rfl, n7.gh, hDl5.go n67 (by simp [rgl.symm]), hDs5.go n67 (by simp [rgs.symm]), hnd2, by omega, by omega, nok, nnd, hxn, hks x hxn, fun o G8 H8 n8 ho hLo => ?_⟩
      walk_at "sx"
      have l1 := rl i
      have l2 := List.length_filterMap_le (ringAt (walksOf nm nl x)) nl
      have l3 : (ringsFrom nm nl x).length ≤ nl.length := l2
      refine g_extLs n8.gh (hr7.go n8 (by simp)) hLo (by rw [List.length_map, List.length_map]; omega) fun H9 n9 hr9 => ?_
      refine ⟨G8, (n67.trans n8.pure).trans n9, _, rfl, ?_⟩
      rw [List.take_add_one, hx, List.flatMap_append, List.map_append]
      simpa using hr9
    rintro σ' G6 H6 n6 ⟨y6, rfl, hr6⟩
    rw [List.length_map, List.take_length] at hr6
    walk_at "sx"
    obtain ⟨vs, hvs, gvs, dvs⟩ := id hr6
    have n06 : Nx [] G H G6 H6 := (((n02.trans n25).pure (M := [rg])).trans n6).drop ((n02.trans (n3.trans n4)).fresh hrg)
    have hlR : vs.length = (ringsAll nm nl).length := by rw [dpAll_len dvs, List.length_map]; rfl
    refine g_truL (.of hvs) ?_
    refine g_nbool (fun hnn => ?_) (fun hem => ?_)
    · walk_at "sx"
      refine g_minLen ?_
      walk_at "sx"
      have hpos : 0 < vs.length := by
        cases vs with
        | nil => cases hnn
        | cons _ _ => simp
      refine g_minLs (ns := (ringsAll nm nl).map fun w => w.map waD) hvs n6.gh dvs (by rw [List.map_map]; rfl) (by rw [← dpAll_len dvs]; exact hpos) fun i x u hx hu dx hb => ?_
      rw [List.getElem?_map] at hu
      obtain ⟨w, hw, rfl⟩ := Option.map_eq_some_iff.mp hu
      have hmin : firstMin (ringsAll nm nl) = some w := firstMin_of (i := i) ⟨hw, fun j y hy => by
        have := hb j (y.map waD) (by rw [List.getElem?_map, hy]; rfl)
        simpa using this⟩
      walk_at "sx"
      refine g_tupRaw (K := K) n6.gh (by show 2 ≤ sizeLine; decide) fun t G7 H7 n7 ht hT => ?_
      have ea : ansOf nm nl (placeOf (nm.headD "") ws : Int) = .ring w := by unfold ansOf; rw [hmin]
      refine q _ G7 H7 (n06.trans n7) ?_
      rw [ea]
      exact ⟨t, x, rfl, hT, dp_mono n7.gg dx⟩
    · walk_at "sx"
      have hR0 : ringsAll nm nl = [] := by
        have : vs.length = 0 := by
          cases vs with
          | nil => rfl
          | cons _ _ => cases hem
        exact List.length_eq_zero_iff.mp (hlR ▸ this)
      obtain ⟨x, r, hxr⟩ : ∃ x r, nm = x :: r := by
        cases nm with
        | nil => exact absurd rfl hne
        | cons x r => exact ⟨x, r, rfl⟩
      have hx0 : nm[0]? = some x := by rw [hxr]; rfl
      have hxm : x ∈ nm := List.mem_of_getElem? hx0
      have hO6 := hO5.go n6 (by simp [rgB.symm])
      have hDl6 := hDl5.go n6 (by simp [rgl.symm])
      have hDs6 := hDs5.go n6 (by simp [rgs.symm])
      have hA6 := hA5.go n6 (by simp [rga.1]) (by simp [rga.2.1]) (by simp [rga.2.2])
      refine g_ixLs (k := 0) (d := .str x) hO6 (by rw [List.getElem?_map, hx0]; rfl) rfl fun v1 d1 => ?_
      cases dp_str d1
      walk_at "sx"
      obtain ⟨_, _, _, _, ⟨dx2, h2'⟩, _⟩ := id hA6
      refine g_mth h2' rfl ?_
      walk_at "sx"
      refine ⟨G6, a, d, l, ws, ls, x, rfl, n6.gh, hA6, fun hno => ?_, fun _ G7 H7 n7 => ?_⟩
      · have := hsub x hxm
        have h4 := look_mem' (s := x) (ws := ws)
        rw [hno, decide_eq_true this] at h4
        cases h4
      walk_at "sx"
      refine ⟨G7, lk, st, nm, nl, x, rfl, n7.gh, hDl6.go n7 (by simp), hDs6.go n7 (by simp), hnd2, by omega, nok, nnd, hxm, fun wk G8 H8 n8 hwk hDw => ?_⟩
      walk_at "sx"
      have hO8 := (hO6.go n7 (by simp)).go n8 (by simp)
      refine g_walkLs hO8 fun S => ?_
      intro D hD0
      have Dwk : D ≠ wk := fun z => hDw.live (z ▸ hD0)
      have kx : ∀ z ∈ nm, gtM (tabM (walksOf nm nl x)) (Sum.inr z : Key) = some (enD (wyAt (walksOf nm nl x) z)) := fun z hz => by
        rw [gtM_tab, (wy_get ((keys_rch nok hxm).mpr (hcon x hxm z hz))).1]
        rfl
      let f : Str → Str × (Int × Plc) := fun n => (n, ((placeOf x ws : Int), (wyAt (walksOf nm nl x) n).2))
      refine g_dcC (K := K) (M := []) (S [] (by simp)) n8.gh hD0 (by simp) (by rw [List.length_map]; omega) (fun i kvs G' _ => KvAt K kvs G' (layM ((nm.take i).map f))) (fun _ _ _ _ _ h => h) (fun _ _ _ _ _ _ n h => h.ex n.gg) .nil (fun i d2 w2 kvs G9 H9 hi dw n9 hDl hj QE QN k1 k2 => ?_) fun G9 H9 kvs hj n9 g9 h9 hkl => ?_
      · rw [List.getElem?_map] at hi
        obtain ⟨z, hz, rfl⟩ := Option.map_eq_some_iff.mp hi
        cases dp_str dw
        have hzm := List.mem_of_getElem? hz
        walk_at "sx"
        refine g_tupD (K := K) (ds := [.int (placeOf x ws : Int)]) n9.gh (.cons (.int _) .nil) (by show 1 ≤ sizeLine; decide) fun t1 G10 H10 n10 d10 => ?_
        walk_at "sx"
        refine g_dcGet ((hDw.go n9 (by simp)).go n10 (by simp)) (k := Sum.inr z) rfl (kx z hzm) fun v3 d3 => ?_
        walk_at "sx"
        refine g_ixT (k := 1) n10.gh d3 rfl rfl fun v4 d4 => ?_
        refine g_catA n10.gh d10 d4 (by show 4 ≤ sizeLine; decide) fun t2 G11 H11 n11 d11 => ?_
        refine k1 _ _ (Sum.inr z) G11 H11 rfl (n10.trans n11) ?_
        obtain ⟨p1, p2⟩ := pt_rel (Sum.inr z) d11 hj.1 (dpAll_mono (n10.trans n11).gg hj.2)
        have hz2 : (Sum.inr z : Key) ∉ (layM ((nm.take i).map f)).map (·.1) := fun hm => by
          unfold layM at hm
          rw [List.map_map, List.map_map] at hm
          obtain ⟨y, hy, ey⟩ := List.mem_map.mp hm
          have ey : y = z := Sum.inr.inj ey
          subst ey
          obtain ⟨jj, hjj, hj2⟩ := List.mem_take_iff_getElem.mp hy
          obtain ⟨hi2, e2⟩ := List.getElem?_eq_some_iff.mp hz
          have := (List.getElem_inj hnd2).mp (hj2.trans e2.symm)
          omega
        rw [ptM_new hz2] at p1 p2
        have el : layM ((nm.take (i + 1)).map f) = layM ((nm.take i).map f) ++ [(Sum.inr z, plcD ((placeOf x ws : Int), (wyAt (walksOf nm nl x) z).2))] := by
          rw [List.take_add_one, hz]
          unfold layM
          rw [List.map_append, List.map_append]
          rfl
        rw [el]
        exact ⟨p1, p2⟩
      walk_at "sx"
      rw [List.length_map, List.take_length] at hj
      have hDD : DctAt K D G9 H9 (layM (nm.map fun n => (n, ((placeOf x ws : Int), (wyAt (walksOf nm nl x) n).2)))) := ⟨kvs, h9, g9, hj.1, hj.2⟩
      refine g_tupRaw (K := K) n9.gh (by show 2 ≤ sizeLine; decide) fun t G10 H10 n10 ht hT => ?_
      have ea : ansOf nm nl (placeOf (nm.headD "") ws : Int) = .laid (nm.map fun n => (n, ((placeOf x ws : Int), (wyAt (walksOf nm nl x) n).2))) := by
        have e0 : nm.headD "" = x := by rw [hxr]; rfl
        unfold ansOf
        rw [hR0, e0]
        rfl
      refine q _ G10 H10 ((n06.trans (n7.trans n8)).trans (n9.trans n10)) ?_
      rw [ea]
      exact ⟨t, _, rfl, D, rfl, hT, hDD.go n10 (by simp)⟩
def sp_lay (K : PySem.W.Frag) : Sp := fun vs H Q _ => ∃ G a d l ws ls, vs = [.ref a] ∧ Y.Ex G H ∧ AlbAt K a d l G H ws ls ∧ ∀ v G' H', Nx [] G H G' H' → AnsAt K v G' H' (layAns ws ls) → Q v H'
theorem ok_lay (T : Tx fa fn bx K mg) : FnOk P w K mg base CX0 6 (He.ga K "lay") (fdOf K (He.ga K "lay")) ["album"] (sp_lay K) := by
  refine FunD.ok (F_lay T) sc_lay (fun vs H Q E h => ?_) (fun cdv A outer s H vs Q E hr h => ?_)
  · obtain ⟨_, _, _, _, _, _, rfl, _⟩ := h
    rfl
  · obtain ⟨G, a, d, l, ws, ls, rfl, e, hA, q⟩ := h
    refine ⟨_, PSs.nox ((pss_one (ps_ret (Y.pe_callC (ok_joined T) (cal_joined T) (hr.mono (by decide)) (by rfl) pass0 (pa_cons (Y.pe_meth0C (pv 0) (T.cls 6) (T.meth 10) (ok_Album_names T) (hr.mono (by decide)) (cal_Album_names T) pass0) (pa_cons (pe_lc (own := [("names", 1)]) (tt := tYes) rfl sc_lay.nd (Y.pi_listK (K := K) rfl (Y.pe_callC (ok_groups T) (cal_groups T) (hr.mono (by decide)) (by rfl) pass0 (pa_cons (pv 0) pa_nil))) (blkOk_by (own := [("names", 1)]) (by kernel_rfl)) (fun _ _ _ _ _ => (pg_name (i := 1) sc_lay.nd rfl (Or.inl rfl))) (fun _ _ _ _ _ => pts_nil) (fun _ _ _ _ _ => (Y.pe_callC (ok_lay_group T) (cal_lay_group T) (hr.mono (by decide)) (by rfl) pass0 (pa_cons (pv 0) (pa_cons (pv 1) pa_nil))))) pa_nil)))))), ?_⟩
    walk_at "sx"
    obtain ⟨_, _, _, ok, ⟨dx, h1⟩, _⟩ := id hA
    refine g_mth h1 rfl ?_
    walk_at "sx"
    refine ⟨G, a, d, l, ws, ls, rfl, e, hA, fun p H1 n1 hp hL => ?_⟩
    walk_at "sx"
    have hA1 := hA.go n1 (by simp) (by simp) (by simp)
    refine ⟨G, a, d, l, ws, ls, rfl, n1.gh, hA1, fun o G2 H2 n2 ho hLo => ?_⟩
    have ev : namesOf ws = (ws.map nmOf).map .str := by unfold namesOf; rw [List.map_map]; rfl
    rw [ev] at hL
    have hL2 := hL.go n2 (by simp)
    have hA2 := hA1.go n2 (by simp) (by simp) (by simp)
    obtain ⟨nok, nnd⟩ := nlOk_of (nm := ws.map nmOf) ok.ll fun v hv => (ok.lo v hv).1
    have hnd := ok.nd
    have hvl := ok.vl
    have hgl : (groupsOf (ws.map nmOf) (lkB (ws.map nmOf) ls)).length ≤ 30 := Nat.le_trans groups_len (by rw [List.length_map]; exact hvl)
    have hgs : ∀ g ∈ groupsOf (ws.map nmOf) (lkB (ws.map nmOf) ls), ∃ s ∈ ws.map nmOf, g = grp (ws.map nmOf) (lkB (ws.map nmOf) ls) s := groups_from nok fun _ h => h
    generalize hgg : groupsOf (ws.map nmOf) (lkB (ws.map nmOf) ls) = gs at *
    refine g_walkLs hLo fun S => ?_
    intro B hB
    refine g_lcP (M := []) (Src.p (S [] (fun z => nomatch z))) n2.gh hB (by simp) (by unfold gsD; rw [List.length_map]; exact szl (by omega)) (fun i acc G' H' => acc.length = i ∧ ∀ j v x, acc[j]? = some v → (gs.map (grpAns ws ls))[j]? = some x → AnsAt K v G' H' x) (fun i acc G' H' o hO h => ⟨h.1, fun j v x h1 h2 => (h.2 j v x h1 h2).upd hO⟩) (fun _ _ _ _ _ _ n h => ⟨h.1, fun j v x h1 h2 => (h.2 j v x h1 h2).go n (fun _ _ z => by cases z)⟩) ⟨rfl, fun j v x (h1 : ([] : List V)[j]? = some v) _ => absurd (List.mem_of_getElem? h1) List.not_mem_nil⟩ (fun i v acc G3 H3 hi hv n3 _ hj QE QN k1 k2 => ?_) (fun G3 H3 ys hj n3 g3 h3 hyl => ?_)
    · obtain ⟨dd, hdd, dv⟩ := hv
      unfold gsD at hdd
      rw [List.getElem?_map] at hdd
      obtain ⟨g, hg, rfl⟩ := Option.map_eq_some_iff.mp hdd
      obtain ⟨s0, hs0, rfl⟩ := hgs g (List.mem_of_getElem? hg)
      refine ⟨by first | rfl | exact wipe1, ?_⟩
      walk_at "sx"
      refine ⟨G3, a, d, l, ws, ls, v, _, _, rfl, n3.gh, hA2.go n3 (by simp) (by simp) (by simp), dv, grp_filter.symm, List.ne_nil_of_mem (grp_own nok hs0), grp_con nok hs0, fun u G4 H4 n4 hu => ?_⟩
      refine k1 u G4 H4 n4 ⟨by simp [hj.1], fun j v' x h1 h2 => ?_⟩
      by_cases hji : j < acc.length
      · rw [List.getElem?_append_left hji] at h1
        exact (hj.2 j v' x h1 h2).go n4 (fun _ _ z => by cases z)
      · have hjl := (List.getElem?_eq_some_iff.mp h1).1
        have hje : j = acc.length := by simp at hjl; omega
        subst hje
        rw [List.getElem?_append_right (Nat.le_refl _), Nat.sub_self] at h1
        cases h1
        rw [hj.1, List.getElem?_map, hg] at h2
        cases h2
        exact hu
    walk_at "sx"
    have hys : ys.length = gs.length := by rw [hj.1]; unfold gsD; rw [List.length_map]
    refine ⟨G3, p, B, ws.map nmOf, gs.map (grpAns ws ls), plOf ws ls, rfl, n3.gh, hL2.go n3 (by simp), ⟨ys, h3, g3, by rw [hys, List.length_map], hj.2⟩, hnd, by rw [List.length_map]; omega, by rw [List.length_map]; omega, fun md hm => ?_, fun hr' n hn => ?_, fun v G4 H4 n4 hv => ?_⟩
    · rw [← hgg] at hm
      have := (lay_laid nok hm).1
      omega
    · rw [← hgg] at hr' ⊢
      exact lay_places nok hr' hn
    · refine q v G4 H4 ((n1.trans n2).trans (n3.trans n4)) ?_
      unfold layAns
      rw [hgg]
      exact hv
/-! values that judges answers False of -/
theorem dct_pool {K : PySem.W.Frag} {a d : Addr} {G H : Hp} {md : List (Key × PyData)} (p : PoolAt K a G H) (r : DctAt K d G H md) : d ≠ a := fun z => by
  obtain ⟨_, _, _, _, _, h, _⟩ := p
  obtain ⟨kvs, h1, _⟩ := r
  rw [z, h] at h1
  cases h1
def BadV (K : PySem.W.Frag) (ws ls : List PyData) (G H : Hp) (v : V) : Prop :=
  (∃ t p md, v = .ref t ∧ SqT K G t [.str "laid", .ref p] ∧ DctAt K p G H md ∧ layB ws ls md = false) ∨
  (∃ t p xs, v = .ref t ∧ SqT K G t [.str "laid", .ref p] ∧ H p = some (.lst xs)) ∨
  (∃ x, Dp K G v x ∧ fit x = true ∧ (∀ y, x ≠ .tuple [.str "laid", y]) ∧ judB ls x = false) ∨
  (∃ t s b, v = .ref t ∧ SqT K G t [.str s, b] ∧ SeqAt.shaped (.str s) = true ∧ s ≠ "laid" ∧ s ≠ "ring") ∨
  (∃ t c x b, v = .ref t ∧ SqT K G t [c, b] ∧ Dp K G c x ∧ ∀ s, x ≠ .str s) ∨
  ∃ p xs, v = .ref p ∧ H p = some (.lst xs)
theorem BadV.go {K : PySem.W.Frag} {ws ls : List PyData} {G H G' H' : Hp} {v : V} (h : BadV K ws ls G H v) (n : Nx [] G H G' H') : BadV K ws ls G' H' v := by
  rcases h with ⟨t, p, md, rfl, hs, hD, hb⟩ | ⟨t, p, xs, rfl, hs, hx⟩ | ⟨x, dx, hf, hn, hb⟩ | ⟨t, s, b, rfl, hs, h1, h2, h3⟩ | ⟨t, c, x, b, rfl, hs, dc, hn⟩ | ⟨p, xs, rfl, hx⟩
  · exact .inl ⟨t, p, md, rfl, n.gg.seqT hs, hD.go n (by simp), hb⟩
  · exact .inr (.inl ⟨t, p, xs, rfl, n.gg.seqT hs, n.fr p _ (by simp) hx⟩)
  · exact .inr (.inr (.inl ⟨x, dp_mono n.gg dx, hf, hn, hb⟩))
  · exact .inr (.inr (.inr (.inl ⟨t, s, b, rfl, n.gg.seqT hs, h1, h2, h3⟩)))
  · exact .inr (.inr (.inr (.inr (.inl ⟨t, c, x, b, rfl, n.gg.seqT hs, dp_mono n.gg dc, hn⟩))))
  · exact .inr (.inr (.inr (.inr (.inr ⟨p, xs, rfl, n.fr p _ (by simp) hx⟩))))
theorem lay_len {ws ls : List PyData} {md : List (Key × PyData)} (h : md.length ≠ ws.length) : layB ws ls md = false := by
  unfold layB allB
  rw [List.length_map, decide_eq_false h]
  rfl
theorem lay_one {ws ls : List PyData} {md : List (Key × PyData)} {s : Str} {d : PyData} (hs : s ∈ ws.map nmOf) (hg : gtM md (Sum.inr s : Key) = some d) (hd : placeB d = false) : layB ws ls md = false := by
  have : allB md (ws.map nmOf) = false := by
    unfold allB
    cases hc : (ws.map nmOf).all fun s => match gtM md (Sum.inr s) with | some d => placeB d | none => false with
    | false => rw [Bool.and_false]
    | true =>
      have := List.all_eq_true.mp hc s hs
      rw [hg] at this
      rw [show placeB d = true from this] at hd
      cases hd
  unfold layB
  rw [this]
  rfl
theorem jud_ring {ls : List PyData} {y : PyData} (h : ringB ls y = false) : judB ls (.tuple [.str "ring", y]) = false := by
  show (decide (("ring" : Str) = "ring") && judR ls y) = false
  unfold judR
  rw [h]
  simp
theorem ring_one {ls : List PyData} {xs : List PyData} {x : PyData} (hx : x ∈ xs) (h : stepB x ls.length = false) : ringB ls (.tuple xs) = false := by
  show (!xs.isEmpty && (xs.all (fun x => stepB x ls.length) && _)) = false
  have : xs.all (fun x => stepB x ls.length) = false := by
    cases hc : xs.all fun x => stepB x ls.length with
    | false => rfl
    | true =>
      rw [List.all_eq_true.mp hc x hx] at h
      cases h
  rw [this]
  simp
/-- the data `('ring', y)`, y a tuple that is no ring -/
theorem bad_ring {K : PySem.W.Frag} {ws ls : List PyData} {G H : Hp} {v : V} {y : PyData} (d : Dp K G v (.tuple [.str "ring", y])) (hf : fit (.tuple [.str "ring", y]) = true) (h : ringB ls y = false) : BadV K ws ls G H v :=
  .inr (.inr (.inl ⟨_, d, hf, fun z hz => by
    have h2 : (PyData.str "ring") = .str "laid" := by
      injection hz with hz
      injection hz
    injection h2 with h2
    exact absurd h2 (by decide +kernel), jud_ring h⟩))
theorem told_len {nm : List Str} {ws ls : List PyData} {w : Way} (ok : nlOk nm (num 0 ls)) (hnm : nm = ws.map nmOf) (hall : num 0 ls = lkB nm ls) (okg : ∀ s ∈ nm, nlOk (grp nm (num 0 ls) s) (lkB (grp nm (num 0 ls) s) ls)) (hnd : nm.Nodup) (h : layAns ws ls = .ring w) : w.length ≤ 2 * nm.length + 1 := by
  have ha := law_ans ok hnm hall okg hnd
  rw [h] at ha
  have hw : ∃ n ∈ nm, w ∈ (grp nm (num 0 ls) n).flatMap (lawRings nm ls) := by
    split at ha
    · rename_i w' hf
      cases ha
      obtain ⟨n, hn, hF⟩ := List.mem_filterMap.mp (firstMin_mem hf)
      split at hF
      · exact ⟨n, hn, firstMin_mem hF⟩
      · cases hF
    · cases ha
  obtain ⟨n, hn, hw⟩ := hw
  obtain ⟨s, hs, hw⟩ := List.mem_flatMap.mp hw
  exact lawRings_len ok ((grp_mem ok hn).mp hs).1 w hw
theorem fit_way {w : Way} (hl : w.length ≤ 100000) : fit (wayD w) = true := by
  unfold wayD
  refine fit_tuple (by rw [List.length_map]; exact hl) fun d hd => ?_
  obtain ⟨x, _, rfl⟩ := List.mem_map.mp hd
  refine fit_tuple (by show 2 ≤ 100000; decide) fun d hd => ?_
  simp only [List.mem_cons, List.not_mem_nil, or_false] at hd
  rcases hd with rfl | rfl <;> simp [fit]
theorem drop_rel {K : PySem.W.Frag} {G : Hp} (k : Key) : ∀ {kvs : List (Key × V)} {md : List (Key × PyData)}, kvs.map (·.1) = md.map (·.1) → DpAll K G (kvs.map (·.2)) (md.map (·.2)) →
    (dropK kvs k).map (·.1) = (md.filter fun e => decide (e.1 ≠ k)).map (·.1) ∧ DpAll K G ((dropK kvs k).map (·.2)) ((md.filter fun e => decide (e.1 ≠ k)).map (·.2))
  | [], [], _, h => ⟨rfl, h⟩
  | [], _ :: _, h, _ => nomatch h
  | _ :: _, [], h, _ => nomatch h
  | (a, u) :: kvs, (b, x) :: md, h, hd => by
    have h1 : a = b := by injection h
    have h2 : kvs.map (·.1) = md.map (·.1) := by injection h
    subst h1
    cases hd with
    | cons d ds =>
    obtain ⟨i1, i2⟩ := drop_rel k h2 ds
    by_cases z : a = k
    · have e1 : dropK ((a, u) :: kvs) k = dropK kvs k := by unfold dropK; rw [List.filter_cons_of_neg (by simp [z])]
      rw [e1, List.filter_cons_of_neg (by simp [z])]
      exact ⟨i1, i2⟩
    · have e1 : dropK ((a, u) :: kvs) k = (a, u) :: dropK kvs k := by unfold dropK; rw [List.filter_cons_of_pos (by simp [z])]
      rw [e1, List.filter_cons_of_pos (by simp [z])]
      exact ⟨by rw [List.map_cons, List.map_cons, i1], .cons d i2⟩
def DPoW (ty : TE) (σ : L2.St) (Q : VK) (x : V) (H1 : Hp) : Prop := ∃ a, x = V.ref a ∧ IsD H1 a ∧ ty σ H1 fun y H2 => ∃ kvs k v, H2 a = some (.dK kvs) ∧ y = kV k ∧ valV kvs k = some v ∧ Q v (upd H2 a (.dK (dropK kvs k)))
theorem g_dpo {td ty : TE} {σ : L2.St} {H : Hp} {Q : VK} (q : td σ H fun x H1 => DPoW ty σ Q x H1) : tDPop1 td ty σ H Q := q
theorem g_dpoW {K : PySem.W.Frag} {G H : Hp} {d : Addr} {md : List (Key × PyData)} {ty : TE} {σ : L2.St} {Q : VK} (r : DctAt K d G H md) (q : ty σ H fun y H2 => ∃ kvs k v, H2 d = some (.dK kvs) ∧ y = kV k ∧ valV kvs k = some v ∧ Q v (upd H2 d (.dK (dropK kvs k)))) : DPoW ty σ Q (.ref d) H := by
  obtain ⟨kvs, h, _⟩ := r
  exact ⟨d, rfl, .inl ⟨kvs, .inl h⟩, q⟩
theorem g_dcPop {K : PySem.W.Frag} {G H : Hp} {d : Addr} {md : List (Key × PyData)} {k : Key} {y : V} {dx : PyData} {Q : VK} (e : Y.Ex G H) (r : DctAt K d G H md) (hk : y = kV k) (hg : gtM md k = some dx) (q : ∀ v H', Nx [d] G H G H' → DctAt K d G H' (md.filter fun e => decide (e.1 ≠ k)) → Q v H') :
    ∃ kvs k v, H d = some (.dK kvs) ∧ y = kV k ∧ valV kvs k = some v ∧ Q v (upd H d (.dK (dropK kvs k))) := by
  obtain ⟨kvs, h, g, he, dd⟩ := r
  obtain ⟨v, hv, _⟩ := (gt_rel k he dd).1 dx hg
  obtain ⟨p1, p2⟩ := drop_rel k he dd
  exact ⟨kvs, k, v, h, hk, hv, q v _ (Nx.set e g (by simp)) ⟨_, upd_same, g, p1, p2⟩⟩
/-- what stands while the law goes on -/
structure W35 (K : PySem.W.Frag) (al d l p r ly : Addr) (nm : List Str) (ls ws : List PyData) (PF : Str → Four) (G H : Hp) : Prop where
  ex : Y.Ex G H
  hL : LstAt K p G H (nm.map .str)
  hK : LstAt K r G H ls
  hA : AlbAt K al d l G H ws ls
  hLy : DctAt K ly G H (frM nm PF)
  hnd : nm.Nodup
  hl1 : 1 ≤ nm.length
  hnl : nm.length ≤ 6
  hlsl : ls.length ≤ 8
  hss : ∀ s ∈ nm, nameOk s = true ∧ s ≠ "zz9"
  evn : ws.map nmOf = nm
  ok : AOk ws ls
  hall : num 0 ls = lkB nm ls
  hok : nlOk nm (num 0 ls)
theorem W35.go {K : PySem.W.Frag} {al d l p r ly : Addr} {nm : List Str} {ls ws : List PyData} {PF : Str → Four} {G H G' H' : Hp} (W : W35 K al d l p r ly nm ls ws PF G H) (n : Nx [] G H G' H') : W35 K al d l p r ly nm ls ws PF G' H' :=
  ⟨n.gh, W.hL.go n (by simp), W.hK.go n (by simp), W.hA.go n (by simp) (by simp) (by simp), W.hLy.go n (by simp), W.hnd, W.hl1, W.hnl, W.hlsl, W.hss, W.evn, W.ok, W.hall, W.hok⟩
def sp_law (K : PySem.W.Frag) : Sp := fun vs H Q _ => ∃ (G : Hp) (a : Addr) (ns : List Int), vs = [.ref a] ∧ Y.Ex G H ∧ SqL K G a (ns.map V.int) ∧ ∀ H', Q (.bl true) H'
theorem rest5_law (T : Tx fa fn bx K mg) {cdv : Value} {A : Around} {outer : List Env} {s : Shared} {H : Hp} {E : XK} (hr : Room 8 (A.deeper (envOfC "law" (defScope s_law) s.heap.objs.size (He.ga K "law") cdv))) : ∃ t, PSs (cxOf CX0 P w K mg base ["script", "pool", "names", "links", "album", "told", "ring", "laying", "k", "less", "more", "values", "flat", "part", "value", "name", "changed", "due", "first", "other"] "law" (defScope s_law) (He.ga K "law") cdv A outer s H E).nox ((defBody s_law).drop 17) t ∧ ∀ (D : Ends), ∀ (a pl p r al d l : Addr) (tv rv2 : V) (ly2 le mo c2 : Addr) (y8 y15 y16 y17 y18 y19 : Option V) (nm : List Str) (ls ws : List PyData) (PF : Str → Four) (G51 H53 : Hp) (L2' : List V), W35 K al d l p r ly2 nm ls ws PF G51 H53 → H53 c2 = some (.lst L2') → L2'.length = 17 → (∀ v ∈ L2', BadV K ws ls G51 H53 v) → (∀ H', D.rt (.bl true) H') →
  t D [some (.ref a), some (.ref pl), some (.ref p), some (.ref r), some (.ref al), some tv, some rv2, some (.ref ly2), y8, some (.ref le), some (.ref mo), some (.ref c2), none, none, none, y15, y16, y17, y18, y19] H53 := by
    refine ⟨_, ((pss_cons (ps_set (i := 12) sc_law.nd rfl (Or.inl rfl) (pe_callTy Y.call_dictC (by rfl) (T.free 15) (by decide +kernel) (pa_cons (pv 7) pa_nil)))
      (pss_cons (ps_dput (hu_of hr) (pv 12) (pe_ix (Y.ix_listK (K := K) rfl) (pv 2) pe_int (fun _ _ => rfl)) (pe_lst (pa_cons pe_int (pa_cons pe_int (pa_cons pe_int (pa_cons pe_int pa_nil))))) rfl)
      (pss_cons (ps_set (i := 13) sc_law.nd rfl (Or.inl rfl) (pe_callTy Y.call_dictC (by rfl) (T.free 15) (by decide +kernel) (pa_cons (pv 7) pa_nil)))
      (pss_cons (ps_dput (hu_of hr) (pv 13) (pe_ix (Y.ix_listK (K := K) rfl) (pv 2) pe_int (fun _ _ => rfl)) (pe_tup (pa_cons pe_bl (pa_cons pe_int (pa_cons pe_int (pa_cons pe_int pa_nil))))) rfl)
      (pss_cons (ps_for PassesOwn.never rfl (Y.pi_listK (K := K) rfl (pe_op op_cat (pv 11) (pe_lst (pa_cons (pe_tup (pa_cons pe_str (pa_cons (pv 12) pa_nil))) (pa_cons (pe_tup (pa_cons pe_str (pa_cons (pv 13) pa_nil))) pa_nil))))) (pg_name (i := 14) sc_law.nd rfl (Or.inl rfl))
      (pss_one (ps_if (pt_cmpR op_notBl (Y.pe_callC (ok_judges T) (cal_judges T) (hr.mono (by decide)) (by rfl) pass0 (pa_cons (pv 4) (pa_cons (pv 14) pa_nil))) pe_bl (nomark _))
      (pss_one (ps_ret pe_bl))
      pss_nil)))
      (pss_one (ps_ret (pe_and (pe_cmpR (Y.op_eqDK (K := K) rfl hr.units) (Y.pe_meth0C (pv 4) (T.cls 6) (T.meth 7) (ok_Album_links T) (hr.mono (by decide)) (cal_Album_links T) pass0) (pv 3) (nomark _)) (pe_one (pe_cmpR (Y.op_eqDK (K := K) rfl hr.units) (Y.pe_meth0C (pv 4) (T.cls 6) (T.meth 10) (ok_Album_names T) (hr.mono (by decide)) (cal_Album_names T) pass0) (pv 2) (nomark _)))))))))))), ?_⟩
    intro D a pl p r al d l tv rv2 ly2 le mo c2 y8 y15 y16 y17 y18 y19 nm ls ws PF G51 H53 L2' W hc2 l2 C2 q
    have hlk2 : ∀ d ∈ ls, linkOk d = true := fun d hd => (W.ok.lo d hd).1
    obtain ⟨hL13, hK13, hA13, hLy13⟩ : LstAt K p G51 H53 (nm.map .str) ∧ LstAt K r G51 H53 ls ∧ AlbAt K al d l G51 H53 ws ls ∧ DctAt K ly2 G51 H53 (frM nm PF) := ⟨W.hL, W.hK, W.hA, W.hLy⟩
    obtain ⟨hl1, hnl, hlsl, hss, evn, ok, hall, hok⟩ : 1 ≤ nm.length ∧ nm.length ≤ 6 ∧ ls.length ≤ 8 ∧ (∀ s ∈ nm, nameOk s = true ∧ s ≠ "zz9") ∧ ws.map nmOf = nm ∧ AOk ws ls ∧ num 0 ls = lkB nm ls ∧ nlOk nm (num 0 ls) := ⟨W.hl1, W.hnl, W.hlsl, W.hss, W.evn, W.ok, W.hall, W.hok⟩
    have n1a : nlOk (ws.map nmOf) (lkB (ws.map nmOf) ls) := by rw [evn, ← hall]; exact hok
    have n1b : num 0 ls = lkB (ws.map nmOf) ls := by rw [evn]; exact hall
    have wsl : ws.length = nm.length := by rw [← evn, List.length_map]
    have nC : Nx [] G51 H53 G51 H53 := Nx.refl W.ex
    obtain ⟨n0, hn0⟩ : ∃ n0, nm[0]? = some n0 := ⟨nm[0], by rw [List.getElem?_eq_getElem]⟩
    have hn0m : n0 ∈ nm := List.mem_of_getElem? hn0
    have lenP : (frM nm PF).length = ws.length := by simp [frM, wsl]
    walk_at "sx"
    -- flat
    have hLy53 := hLy13.go nC (by simp)
    obtain ⟨kvs3, hk3, gk3, hkm3, hdd3⟩ := id hLy53
    refine g_dictC hk3 fun fl hfl => ?_
    have n54 : Nx [] G51 H53 G51 (upd H53 fl (.dK kvs3)) := Nx.own nC.gh hfl
    have hF54 : DctAt K fl G51 (upd H53 fl (.dK kvs3)) (frM nm PF) := ⟨kvs3, upd_same, nC.gh.free hfl, hkm3, hdd3⟩
    generalize upd H53 fl (.dK kvs3) = H54 at n54 hF54 ⊢
    walk_at "sx"
    refine g_lstD (K := K) (ds := [.int 0, .int 0, .int 0, .int 0]) n54.gh (.cons (.int _) (.cons (.int _) (.cons (.int _) (.cons (.int _) .nil)))) (by show 4 ≤ sizeLine; decide) fun z1 G55 H55 n55 dz1 => ?_
    walk_at "sx"
    refine g_ixLs (k := 0) (d := .str n0) (hL13.go (nC.trans (n54.trans n55)) (by simp)) (by rw [List.getElem?_map, hn0]; rfl) rfl fun w1 dw1 => ?_
    cases dp_str dw1
    walk_at "sx"
    refine g_dcPut n55.gh (hF54.go n55 (by simp)) (k := Sum.inr n0) rfl dz1 (by rw [lenP]; omega) fun H56 n56 hF56 => ?_
    walk_at "sx"
    have n5356 : Nx [] G51 H53 G55 H56 := ((n54.trans n55).pure.trans n56).drop hfl
    have nD := nC.trans n5356
    -- part
    have hLy56 := hLy13.go nD (by simp)
    obtain ⟨kvs4, hk4, gk4, hkm4, hdd4⟩ := id hLy56
    refine g_dictC hk4 fun pa hpa => ?_
    have n57 : Nx [] G55 H56 G55 (upd H56 pa (.dK kvs4)) := Nx.own nD.gh hpa
    have hR57 : DctAt K pa G55 (upd H56 pa (.dK kvs4)) (frM nm PF) := ⟨kvs4, upd_same, nD.gh.free hpa, hkm4, hdd4⟩
    generalize upd H56 pa (.dK kvs4) = H57 at n57 hR57 ⊢
    walk_at "sx"
    refine g_tupD (K := K) (ds := [.bool false, .int 0, .int 0, .int 0]) n57.gh (.cons (.bl _) (.cons (.int _) (.cons (.int _) (.cons (.int _) .nil)))) (by show 4 ≤ sizeLine; decide) fun z2 G58 H58 n58 dz2 => ?_
    walk_at "sx"
    refine g_ixLs (k := 0) (d := .str n0) (hL13.go (nD.trans (n57.trans n58)) (by simp)) (by rw [List.getElem?_map, hn0]; rfl) rfl fun w1 dw1 => ?_
    cases dp_str dw1
    walk_at "sx"
    refine g_dcPut n58.gh (hR57.go n58 (by simp)) (k := Sum.inr n0) rfl dz2 (by rw [lenP]; omega) fun H59 n59 hR59 => ?_
    walk_at "sx"
    have n5659 : Nx [] G55 H56 G58 H59 := ((n57.trans n58).pure.trans n59).drop hpa
    have nE := nD.trans n5659
    have hF59 := hF56.go n5659 (by simp)
    refine g_tupRaw (K := K) n5659.gh (by show 2 ≤ sizeLine; decide) fun y1 G60 H60 n60 _ hY1 => ?_
    walk_at "sx"
    refine g_tupRaw (K := K) n60.gh (by show 2 ≤ sizeLine; decide) fun y2 G61 H61 n61 _ hY2 => ?_
    walk_at "sx"
    refine g_lstM n61.gh (by show 2 ≤ sizeLine; decide) fun b4 H62 n62 _ hb4 _ => ?_
    walk_at "sx"
    have m6 : Nx [] G58 H59 G61 H62 := n60.trans (n61.trans n62)
    have hgp : ∀ x : PyData, gtM (ptM (frM nm PF) (Sum.inr n0 : Key) x) (Sum.inr n0 : Key) = some x := fun x => by
      rw [gtM_ptM, if_pos rfl]
    have B4 : ∀ v ∈ ([.ref y1, .ref y2] : List V), BadV K ws ls G61 H62 v := fun v hv => by
      simp only [List.mem_cons, List.not_mem_nil, or_false] at hv
      rcases hv with rfl | rfl
      · exact .inl ⟨y1, fl, _, rfl, (n61.trans n62).gg.seqT hY1, hF59.go m6 (by simp), lay_one (s := n0) (evn.symm ▸ hn0m) (hgp _) rfl⟩
      · exact .inl ⟨y2, pa, _, rfl, n62.gg.seqT hY2, hR59.go m6 (by simp), lay_one (s := n0) (evn.symm ▸ hn0m) (hgp _) rfl⟩
    have m7 := n5356.trans (n5659.trans m6)
    refine g_cat (m7.fr c2 _ (by simp) hc2) hb4 (by rw [l2]; show 19 ≤ sizeLine; decide) m7.gh fun c3 H63 n63 _ hc3 _ => ?_
    have m8 := m7.trans n63
    have nF := nC.trans m8
    have C3 : ∀ v ∈ (L2' ++ [.ref y1, .ref y2] : List V), BadV K ws ls G61 H63 v := fun v hv => by
      rcases List.mem_append.mp hv with h | h
      · exact (C2 v h).go m8
      · exact (B4 v h).go n63
    walk_at "sx"
    generalize (L2' ++ [.ref y1, .ref y2] : List V) = L3 at C3 hc3
    refine g_walkV hc3 ?_
    refine g_forV hc3 (M := []) (by simp) nF.gh (fun i σ G' H' => ∃ y14, σ = [some (.ref a), some (.ref pl), some (.ref p), some (.ref r), some (.ref al), some tv, some rv2, some (.ref ly2), y8, some (.ref le), some (.ref mo), some (.ref c2), some (.ref fl), some (.ref pa), y14, y15, y16, y17, y18, y19]) ⟨_, rfl⟩ ?_ ?_
    · rintro i v σ' G64 H64 hi n64 ⟨y14, rfl⟩
      have hb := (C3 v (List.mem_of_getElem? hi)).go n64
      have hA64 := (hA13.go nF (by simp) (by simp) (by simp)).go n64 (by simp) (by simp) (by simp)
      walk_at "sx"
      refine ⟨G64, al, d, l, ws, ls, v, rfl, n64.gh, hA64, n1a, n1b, ?_⟩
      rcases hb with ⟨t, p9, md, rfl, hs, hD, hb⟩ | ⟨t, p9, xs, rfl, hs, hx⟩ | ⟨x, dx, hf, hn, hb⟩ | ⟨t, s, b, rfl, hs, h1, h2, h3⟩ | ⟨t, c, x, b, rfl, hs, dc, hn⟩ | ⟨p9, xs, rfl, hx⟩
      · refine .inl ⟨t, p9, md, rfl, hs, hD, fun G65 H65 n65 => ?_⟩
        rw [hb]
        walk_at "sx"
        refine g_ndec (fun z => absurd rfl z) (fun _ => ?_)
        walk_at "sx"
        exact ⟨G65, n64.trans n65, _, rfl⟩
      · refine .inr (.inl ⟨t, p9, xs, rfl, hs, hx, fun G65 H65 n65 => ?_⟩)
        walk_at "sx"
        refine g_ndec (fun z => absurd rfl z) (fun _ => ?_)
        walk_at "sx"
        exact ⟨G65, n64.trans n65, _, rfl⟩
      · refine .inr (.inr (.inl ⟨x, dx, hf, hn, fun G65 H65 n65 => ?_⟩))
        rw [hb]
        walk_at "sx"
        refine g_ndec (fun z => absurd rfl z) (fun _ => ?_)
        walk_at "sx"
        exact ⟨G65, n64.trans n65, _, rfl⟩
      · refine .inr (.inr (.inr (.inl ⟨t, s, b, rfl, hs, h1, h2, h3, fun G65 H65 n65 => ?_⟩)))
        walk_at "sx"
        refine g_ndec (fun z => absurd rfl z) (fun _ => ?_)
        walk_at "sx"
        exact ⟨G65, n64.trans n65, _, rfl⟩
      · refine .inr (.inr (.inr (.inr (.inl ⟨t, c, x, b, rfl, hs, dc, hn, fun G65 H65 n65 => ?_⟩))))
        walk_at "sx"
        refine g_ndec (fun z => absurd rfl z) (fun _ => ?_)
        walk_at "sx"
        exact ⟨G65, n64.trans n65, _, rfl⟩
      · refine .inr (.inr (.inr (.inr (.inr ⟨p9, xs, rfl, hx, fun G65 H65 n65 => ?_⟩))))
        walk_at "sx"
        refine g_ndec (fun z => absurd rfl z) (fun _ => ?_)
        walk_at "sx"
        exact ⟨G65, n64.trans n65, _, rfl⟩
    · rintro σ' G64 H64 n64 ⟨y14, rfl⟩
      have nG := nF.trans n64
      have hA64 := hA13.go nG (by simp) (by simp) (by simp)
      have hL64 := hL13.go nG (by simp)
      have hK64 := hK13.go nG (by simp)
      walk_at "sx"
      obtain ⟨_, _, _, _, ⟨dx2, h2⟩, _⟩ := id hA64
      refine g_mth h2 rfl ?_
      walk_at "sx"
      refine ⟨G64, al, d, l, _, _, rfl, n64.gh, hA64, fun p65 H65 n65 hp65 hL65 => ?_⟩
      walk_at "sx"
      have hsl := shaped_links ok
      refine g_eqL n65.gh hL65 (hK64.go n65 (by simp)) hsl ?_
      walk_at "sx"
      have hA65 := hA64.go n65 (by simp) (by simp) (by simp)
      obtain ⟨_, _, _, _, ⟨dx3, h3⟩, _⟩ := id hA65
      refine g_mth h3 rfl ?_
      walk_at "sx"
      refine ⟨G64, al, d, l, _, _, rfl, n65.gh, hA65, fun p66 H66 n66 hp66 hL66 => ?_⟩
      walk_at "sx"
      have hsn := shaped_names ok
      have ev : namesOf ws = nm.map .str := by rw [← evn]; unfold namesOf; rw [List.map_map]; rfl
      rw [ev] at hsn hL66
      refine g_eqL n66.gh hL66 ((hL64.go n65 (by simp)).go n66 (by simp)) hsn ?_
      walk_at "sx"
      exact q _
theorem rest4_law (T : Tx fa fn bx K mg) {cdv : Value} {A : Around} {outer : List Env} {s : Shared} {H : Hp} {E : XK} (hr : Room 8 (A.deeper (envOfC "law" (defScope s_law) s.heap.objs.size (He.ga K "law") cdv))) : ∃ t, PSs (cxOf CX0 P w K mg base ["script", "pool", "names", "links", "album", "told", "ring", "laying", "k", "less", "more", "values", "flat", "part", "value", "name", "changed", "due", "first", "other"] "law" (defScope s_law) (He.ga K "law") cdv A outer s H E).nox ((defBody s_law).drop 15) t ∧ ∀ (D : Ends), ∀ (a pl p r al d l : Addr) (tv rv2 : V) (ly2 le mo b1 : Addr) (y8 y15 y16 y17 y18 y19 : Option V) (nm : List Str) (ls ws : List PyData) (PF : Str → Four) (G13 H13 : Hp) (L0 : List V), W35 K al d l p r ly2 nm ls ws PF G13 H13 → H13 b1 = some (.lst L0) → L0.length = 9 → (∀ v ∈ L0, BadV K ws ls G13 H13 v) → (∀ H', D.rt (.bl true) H') →
  t D [some (.ref a), some (.ref pl), some (.ref p), some (.ref r), some (.ref al), some tv, some rv2, some (.ref ly2), y8, some (.ref le), some (.ref mo), some (.ref b1), none, none, none, y15, y16, y17, y18, y19] H13 := by
    obtain ⟨tR, pR, hR4⟩ := rest5_law (P := P) (w := w) (base := base) (E := E) (cdv := cdv) (A := A) (outer := outer) (s := s) (H := H) T hr
    refine ⟨_, ((pss_cons (ps_set (i := 11) sc_law.nd rfl (Or.inl rfl) (pe_op op_cat (pv 11) (pe_lst (pa_cons (pe_tup (pa_cons pe_str (pa_cons (pe_tup (pa_cons (pe_tup (pa_cons pe_int pa_nil)) pa_nil)) pa_nil))) (pa_cons (pe_tup (pa_cons pe_str (pa_cons (pe_tup (pa_cons (pe_tup (pa_cons pe_int (pa_cons pe_bl pa_nil))) pa_nil)) pa_nil))) (pa_cons (pe_tup (pa_cons pe_str (pa_cons (pe_tup (pa_cons (pe_tup (pa_cons (pe_un un_neg pe_int) (pa_cons pe_bl pa_nil))) pa_nil)) pa_nil))) (pa_cons (pe_tup (pa_cons pe_str (pa_cons (pe_tup (pa_cons (pe_tup (pa_cons pe_int (pa_cons pe_int pa_nil))) (pa_cons (pe_tup (pa_cons pe_int (pa_cons pe_int pa_nil))) pa_nil))) pa_nil))) pa_nil)))))))
      (pss_cons (ps_set (i := 11) sc_law.nd rfl (Or.inl rfl) (pe_op op_cat (pv 11) (pe_lst (pa_cons (pe_tup (pa_cons pe_str (pa_cons (pe_lst (pa_cons (pe_tup (pa_cons pe_int (pa_cons pe_bl pa_nil))) (pa_cons (pe_tup (pa_cons pe_int (pa_cons pe_bl pa_nil))) pa_nil))) pa_nil))) (pa_cons (pe_tup (pa_cons pe_str (pa_cons (pe_lst (pa_cons (pv 7) pa_nil)) pa_nil))) (pa_cons (pe_tup (pa_cons (pe_tup (pa_cons pe_str pa_nil)) (pa_cons (pv 7) pa_nil))) (pa_cons (pe_tup (pa_cons pe_str (pa_cons pe_int pa_nil))) pa_nil)))))))
      pR))), ?_⟩
    intro D a pl p r al d l tv rv2 ly2 le mo b1 y8 y15 y16 y17 y18 y19 nm ls ws PF G26 H27 L0 W hb1 l0 B1 q
    have hlsl := W.hlsl
    have m1 : Nx [] G26 H27 G26 H27 := Nx.refl W.ex
    walk_at "sx"
    -- the second list
    refine g_tupD (K := K) (ds := [.int 0]) m1.gh (.cons (.int _) .nil) (by show 1 ≤ sizeLine; decide) fun u1 G28 H28 n28 e1 => ?_
    walk_at "sx"
    refine g_tupD (K := K) (ds := [.tuple [.int 0]]) n28.gh (.cons e1 .nil) (by show 1 ≤ sizeLine; decide) fun u2 G29 H29 n29 e2 => ?_
    walk_at "sx"
    refine g_tupD (K := K) (ds := [.str "ring", .tuple [.tuple [.int 0]]]) n29.gh (.cons (.str _) (.cons e2 .nil)) (by show 2 ≤ sizeLine; decide) fun u3 G30 H30 n30 e3 => ?_
    walk_at "sx"
    refine g_tupD (K := K) (ds := [.int 99, .bool true]) n30.gh (.cons (.int _) (.cons (.bl _) .nil)) (by show 2 ≤ sizeLine; decide) fun u4 G31 H31 n31 e4 => ?_
    walk_at "sx"
    refine g_tupD (K := K) (ds := [.tuple [.int 99, .bool true]]) n31.gh (.cons e4 .nil) (by show 1 ≤ sizeLine; decide) fun u5 G32 H32 n32 e5 => ?_
    walk_at "sx"
    refine g_tupD (K := K) (ds := [.str "ring", .tuple [.tuple [.int 99, .bool true]]]) n32.gh (.cons (.str _) (.cons e5 .nil)) (by show 2 ≤ sizeLine; decide) fun u6 G33 H33 n33 e6 => ?_
    walk_at "sx"
    refine g_tupD (K := K) (ds := [.int (-1), .bool true]) n33.gh (.cons (.int _) (.cons (.bl _) .nil)) (by show 2 ≤ sizeLine; decide) fun u7 G34 H34 n34 e7 => ?_
    walk_at "sx"
    refine g_tupD (K := K) (ds := [.tuple [.int (-1), .bool true]]) n34.gh (.cons e7 .nil) (by show 1 ≤ sizeLine; decide) fun u8 G35 H35 n35 e8 => ?_
    walk_at "sx"
    refine g_tupD (K := K) (ds := [.str "ring", .tuple [.tuple [.int (-1), .bool true]]]) n35.gh (.cons (.str _) (.cons e8 .nil)) (by show 2 ≤ sizeLine; decide) fun u9 G36 H36 n36 e9 => ?_
    walk_at "sx"
    refine g_tupD (K := K) (ds := [.int 0, .int 1]) n36.gh (.cons (.int _) (.cons (.int _) .nil)) (by show 2 ≤ sizeLine; decide) fun v1 G37 H37 n37 f1 => ?_
    walk_at "sx"
    refine g_tupD (K := K) (ds := [.int 0, .int 0]) n37.gh (.cons (.int _) (.cons (.int _) .nil)) (by show 2 ≤ sizeLine; decide) fun v2 G38 H38 n38 f2 => ?_
    walk_at "sx"
    refine g_tupD (K := K) (ds := [.tuple [.int 0, .int 1], .tuple [.int 0, .int 0]]) n38.gh (.cons (dp_mono n38.gg f1) (.cons f2 .nil)) (by show 2 ≤ sizeLine; decide) fun v3 G39 H39 n39 f3 => ?_
    walk_at "sx"
    refine g_tupD (K := K) (ds := [.str "ring", .tuple [.tuple [.int 0, .int 1], .tuple [.int 0, .int 0]]]) n39.gh (.cons (.str _) (.cons f3 .nil)) (by show 2 ≤ sizeLine; decide) fun v4 G40 H40 n40 f4 => ?_
    walk_at "sx"
    refine g_lstM n40.gh (by show 4 ≤ sizeLine; decide) fun b2 H41 n41 _ hb2 _ => ?_
    walk_at "sx"
    have m2 : Nx [] G26 H27 G40 H41 := n28.trans (n29.trans (n30.trans (n31.trans (n32.trans (n33.trans (n34.trans (n35.trans (n36.trans (n37.trans (n38.trans (n39.trans (n40.trans n41))))))))))))
    have B2 : ∀ v ∈ ([.ref u3, .ref u6, .ref u9, .ref v4] : List V), BadV K ws ls G40 H41 v := fun v hv => by
      have x36 := n37.trans (n38.trans (n39.trans (n40.trans n41)))
      have x33 := n34.trans (n35.trans (n36.trans x36))
      have x30 := n31.trans (n32.trans (n33.trans x33))
      simp only [List.mem_cons, List.not_mem_nil, or_false] at hv
      rcases hv with rfl | rfl | rfl | rfl
      · exact bad_ring (dp_mono x30.gg e3) (by decide +kernel) (ring_one (x := .tuple [.int 0]) (by simp) rfl)
      · refine bad_ring (dp_mono x33.gg e6) (by decide +kernel) (ring_one (x := .tuple [.int 99, .bool true]) (by simp) ?_)
        show decide ((0 : Int) ≤ 99 ∧ (99 : Int) ≤ (ls.length : Int) - 1) = false
        exact decide_eq_false (by omega)
      · exact bad_ring (dp_mono x36.gg e9) (by decide +kernel) (ring_one (x := .tuple [.int (-1), .bool true]) (by simp) (decide_eq_false (by omega)))
      · exact bad_ring (dp_mono n41.gg f4) (by decide +kernel) (ring_one (x := .tuple [.int 0, .int 1]) (by simp) rfl)
    refine g_cat (m2.fr b1 _ (by simp) hb1) hb2 (by rw [l0]; show 13 ≤ sizeLine; decide) m2.gh fun c1 H42 n42 _ hc1 _ => ?_
    walk_at "sx"
    clear n28 n29 n30 n31 n32 n33 n34 n35 n36 n37 n38 n39 n40 n41 e1 e2 e3 e4 e5 e6 e7 e8 e9 f1 f2 f3 f4 hb1 hb2
    have m3 := m2.trans n42
    have nB := m3
    have C1 : ∀ v ∈ (L0 ++ [.ref u3, .ref u6, .ref u9, .ref v4] : List V), BadV K ws ls G40 H42 v := fun v hv => by
      rcases List.mem_append.mp hv with h | h
      · exact (B1 v h).go m3
      · exact (B2 v h).go n42
    clear B1 B2
    have l1 : (L0 ++ [.ref u3, .ref u6, .ref u9, .ref v4] : List V).length = 13 := by rw [List.length_append, l0]; rfl
    generalize (L0 ++ [.ref u3, .ref u6, .ref u9, .ref v4] : List V) = L1 at C1 hc1 l1
    -- the third list
    refine g_tupD (K := K) (ds := [.int 0, .bool true]) n42.gh (.cons (.int _) (.cons (.bl _) .nil)) (by show 2 ≤ sizeLine; decide) fun u1 G43 H43 n43 e1 => ?_
    walk_at "sx"
    refine g_tupD (K := K) (ds := [.int 0, .bool false]) n43.gh (.cons (.int _) (.cons (.bl _) .nil)) (by show 2 ≤ sizeLine; decide) fun u2 G44 H44 n44 e2 => ?_
    walk_at "sx"
    refine g_lstD (K := K) (ds := [.tuple [.int 0, .bool true], .tuple [.int 0, .bool false]]) n44.gh (.cons (dp_mono n44.gg e1) (.cons e2 .nil)) (by show 2 ≤ sizeLine; decide) fun u3 G45 H45 n45 e3 => ?_
    walk_at "sx"
    refine g_tupD (K := K) (ds := [.str "ring", .list [.tuple [.int 0, .bool true], .tuple [.int 0, .bool false]]]) n45.gh (.cons (.str _) (.cons e3 .nil)) (by show 2 ≤ sizeLine; decide) fun u4 G46 H46 n46 e4 => ?_
    walk_at "sx"
    refine g_lstM n46.gh (by show 1 ≤ sizeLine; decide) fun u5 H47 n47 _ h5 _ => ?_
    walk_at "sx"
    refine g_tupRaw (K := K) n47.gh (by show 2 ≤ sizeLine; decide) fun u6 G48 H48 n48 _ hT6 => ?_
    walk_at "sx"
    refine g_tupD (K := K) (ds := [.str "laid"]) n48.gh (.cons (.str _) .nil) (by show 1 ≤ sizeLine; decide) fun u7 G49 H49 n49 e7 => ?_
    walk_at "sx"
    refine g_tupRaw (K := K) n49.gh (by show 2 ≤ sizeLine; decide) fun u8 G50 H50 n50 _ hT8 => ?_
    walk_at "sx"
    refine g_tupD (K := K) (ds := [.str "ring", .int 5]) n50.gh (.cons (.str _) (.cons (.int _) .nil)) (by show 2 ≤ sizeLine; decide) fun u9 G51 H51 n51 e9 => ?_
    walk_at "sx"
    refine g_lstM n51.gh (by show 4 ≤ sizeLine; decide) fun b3 H52 n52 _ hb3 _ => ?_
    walk_at "sx"
    have m4 : Nx [] G40 H42 G51 H52 := n43.trans (n44.trans (n45.trans (n46.trans (n47.trans (n48.trans (n49.trans (n50.trans (n51.trans n52))))))))
    have B3 : ∀ v ∈ ([.ref u4, .ref u6, .ref u8, .ref u9] : List V), BadV K ws ls G51 H52 v := fun v hv => by
      have x50 := n51.trans n52
      have x49 := n50.trans x50
      have x48 := n49.trans x49
      have x47 := n48.trans x48
      have x46 := n47.trans x47
      simp only [List.mem_cons, List.not_mem_nil, or_false] at hv
      rcases hv with rfl | rfl | rfl | rfl
      · exact bad_ring (dp_mono x46.gg e4) (by decide +kernel) rfl
      · exact .inr (.inl ⟨u6, u5, _, rfl, x48.gg.seqT hT6, x47.fr u5 _ (by simp) h5⟩)
      · exact .inr (.inr (.inr (.inr (.inl ⟨u8, _, _, _, rfl, x50.gg.seqT hT8, dp_mono x49.gg e7, fun _ => (fun z => nomatch z)⟩))))
      · exact bad_ring (dp_mono n52.gg e9) (by decide +kernel) rfl
    refine g_cat (m4.fr c1 _ (by simp) hc1) hb3 (by rw [l1]; show 17 ≤ sizeLine; decide) m4.gh fun c2 H53 n53 _ hc2 _ => ?_
    walk_at "sx"
    clear n43 n44 n45 n46 n47 n48 n49 n50 n51 n52 e1 e2 e3 e4 h5 hT6 e7 hT8 e9 hb3 hc1
    have m5 := m4.trans n53
    have nC := nB.trans m5
    have C2 : ∀ v ∈ (L1 ++ [.ref u4, .ref u6, .ref u8, .ref u9] : List V), BadV K ws ls G51 H53 v := fun v hv => by
      rcases List.mem_append.mp hv with h | h
      · exact (C1 v h).go m5
      · exact (B3 v h).go n53
    clear C1 B3
    have l2 : (L1 ++ [.ref u4, .ref u6, .ref u8, .ref u9] : List V).length = 17 := by rw [List.length_append, l1]; rfl
    generalize (L1 ++ [.ref u4, .ref u6, .ref u8, .ref u9] : List V) = L2' at C2 hc2 l2
    exact hR4 _ a pl p r al d l tv rv2 ly2 le mo c2 y8 y15 y16 y17 y18 y19 nm ls ws PF G51 H53 _ (W.go nC) hc2 l2 C2 q
theorem rest3_law (T : Tx fa fn bx K mg) {cdv : Value} {A : Around} {outer : List Env} {s : Shared} {H : Hp} {E : XK} (hr : Room 8 (A.deeper (envOfC "law" (defScope s_law) s.heap.objs.size (He.ga K "law") cdv))) : ∃ t, PSs (cxOf CX0 P w K mg base ["script", "pool", "names", "links", "album", "told", "ring", "laying", "k", "less", "more", "values", "flat", "part", "value", "name", "changed", "due", "first", "other"] "law" (defScope s_law) (He.ga K "law") cdv A outer s H E).nox ((defBody s_law).drop 10) t ∧ ∀ (D : Ends), ∀ (a pl p r al d l : Addr) (tv rv2 : V) (ly2 : Addr) (y8 y15 y16 y17 y18 y19 : Option V) (nm : List Str) (ls ws : List PyData) (PF : Str → Four) (G13 H13 : Hp), W35 K al d l p r ly2 nm ls ws PF G13 H13 → (∀ H', D.rt (.bl true) H') →
  t D [some (.ref a), some (.ref pl), some (.ref p), some (.ref r), some (.ref al), some tv, some rv2, some (.ref ly2), y8, none, none, none, none, none, none, y15, y16, y17, y18, y19] H13 := by
    obtain ⟨tR, pR, hR3⟩ := rest4_law (P := P) (w := w) (base := base) (E := E) (cdv := cdv) (A := A) (outer := outer) (s := s) (H := H) T hr
    refine ⟨_, ((pss_cons (ps_set (i := 9) sc_law.nd rfl (Or.inl rfl) (pe_callTy Y.call_dictC (by rfl) (T.free 15) (by decide +kernel) (pa_cons (pv 7) pa_nil)))
      (pss_cons (ps_expr (pe_dpop1 (pv 9) (pe_ix (Y.ix_listK (K := K) rfl) (pv 2) pe_int (fun _ _ => rfl)) ⟨rfl, rfl, rfl, rfl⟩))
      (pss_cons (ps_set (i := 10) sc_law.nd rfl (Or.inl rfl) (pe_callTy Y.call_dictC (by rfl) (T.free 15) (by decide +kernel) (pa_cons (pv 7) pa_nil)))
      (pss_cons (ps_dput (hu_of hr) (pv 10) pe_str (pe_tup (pa_cons pe_int (pa_cons pe_int (pa_cons pe_int (pa_cons pe_int pa_nil))))) rfl)
      (pss_cons (ps_set (i := 11) sc_law.nd rfl (Or.inl rfl) (pe_lst (pa_cons pe_non (pa_cons pe_int (pa_cons (pe_tup pa_nil) (pa_cons (pe_tup (pa_cons pe_str pa_nil)) (pa_cons (pe_lst (pa_cons pe_str (pa_cons (pv 7) pa_nil))) (pa_cons (pe_tup (pa_cons pe_str (pa_cons (pv 7) pa_nil))) (pa_cons (pe_tup (pa_cons pe_str (pa_cons (pv 9) pa_nil))) (pa_cons (pe_tup (pa_cons pe_str (pa_cons (pv 10) pa_nil))) (pa_cons (pe_tup (pa_cons pe_str (pa_cons (pe_tup pa_nil) pa_nil))) pa_nil)))))))))))
      pR)))))), ?_⟩
    intro D a pl p r al d l tv rv2 ly2 y8 y15 y16 y17 y18 y19 nm ls ws PF G13 H13 W q
    have hlk2 : ∀ d ∈ ls, linkOk d = true := fun d hd => (W.ok.lo d hd).1
    obtain ⟨hL13, hK13, hA13, hLy13⟩ : LstAt K p G13 H13 (nm.map .str) ∧ LstAt K r G13 H13 ls ∧ AlbAt K al d l G13 H13 ws ls ∧ DctAt K ly2 G13 H13 (frM nm PF) := ⟨W.hL, W.hK, W.hA, W.hLy⟩
    obtain ⟨hl1, hnl, hlsl, hss, evn, ok, hall, hok⟩ : 1 ≤ nm.length ∧ nm.length ≤ 6 ∧ ls.length ≤ 8 ∧ (∀ s ∈ nm, nameOk s = true ∧ s ≠ "zz9") ∧ ws.map nmOf = nm ∧ AOk ws ls ∧ num 0 ls = lkB nm ls ∧ nlOk nm (num 0 ls) := ⟨W.hl1, W.hnl, W.hlsl, W.hss, W.evn, W.ok, W.hall, W.hok⟩
    have n1a : nlOk (ws.map nmOf) (lkB (ws.map nmOf) ls) := by rw [evn, ← hall]; exact hok
    have n1b : num 0 ls = lkB (ws.map nmOf) ls := by rw [evn]; exact hall
    have wsl : ws.length = nm.length := by rw [← evn, List.length_map]
    have n13 : Nx [] G13 H13 G13 H13 := Nx.refl W.ex
    obtain ⟨n0, hn0⟩ : ∃ n0, nm[0]? = some n0 := ⟨nm[0], by rw [List.getElem?_eq_getElem]⟩
    have hn0m : n0 ∈ nm := List.mem_of_getElem? hn0
    have zz : (Sum.inr ("zz9" : Str) : Key) ∉ (frM nm PF).map (·.1) := fun hm => by
      unfold frM at hm
      rw [List.map_map] at hm
      obtain ⟨y, hy, ey⟩ := List.mem_map.mp hm
      exact (hss y hy).2 (Sum.inr.inj ey)
    have lenP : (frM nm PF).length = ws.length := by simp [frM, wsl]
    walk_at "sx"
    obtain ⟨kvs, hk, gk, hkm, hdd⟩ := id hLy13
    refine g_dictC hk fun le hle => ?_
    have n14 : Nx [] G13 H13 G13 (upd H13 le (.dK kvs)) := Nx.own n13.gh hle
    have hC14 : DctAt K le G13 (upd H13 le (.dK kvs)) (frM nm PF) := ⟨kvs, upd_same, n13.gh.free hle, hkm, hdd⟩
    generalize upd H13 le (.dK kvs) = H14 at n14 hC14 ⊢
    walk_at "sx"
    refine g_dpo ?_
    walk_at "sx"
    refine g_dpoW hC14 ?_
    walk_at "sx"
    refine g_ixLs (k := 0) (d := .str n0) (hL13.go n14 (by simp)) (by rw [List.getElem?_map, hn0]; rfl) rfl fun v1 d1 => ?_
    cases dp_str d1
    walk_at "sx"
    refine g_dcPop n14.gh hC14 (k := Sum.inr n0) rfl (gt_fr hn0m) fun v2 H15 n15 hC15 => ?_
    walk_at "sx"
    have n1315 : Nx [] G13 H13 G13 H15 := (n14.pure.trans n15).drop hle
    -- more
    have hLy15 := hLy13.go n1315 (by simp)
    obtain ⟨kvs2, hk2, gk2, hkm2, hdd2⟩ := id hLy15
    refine g_dictC hk2 fun mo hmo => ?_
    have n16 : Nx [] G13 H15 G13 (upd H15 mo (.dK kvs2)) := Nx.own n1315.gh hmo
    have hM16 : DctAt K mo G13 (upd H15 mo (.dK kvs2)) (frM nm PF) := ⟨kvs2, upd_same, n1315.gh.free hmo, hkm2, hdd2⟩
    generalize upd H15 mo (.dK kvs2) = H16 at n16 hM16 ⊢
    walk_at "sx"
    refine g_tupD (K := K) (ds := [.int 0, .int 0, .int 0, .int 0]) n16.gh (.cons (.int _) (.cons (.int _) (.cons (.int _) (.cons (.int _) .nil)))) (by show 4 ≤ sizeLine; decide) fun tz G17 H17 n17 dz => ?_
    walk_at "sx"
    refine g_dcPut n17.gh (hM16.go n17 (by simp)) (k := Sum.inr "zz9") rfl dz (by rw [lenP]; omega) fun H18 n18 hM18 => ?_
    rw [ptM_new zz] at hM18
    have n1518 : Nx [] G13 H15 G17 H18 := ((n16.trans n17).pure.trans n18).drop hmo
    have n1318 := n1315.trans n1518
    have hC18 := hC15.go n1518 (by simp)
    have hLy18 := hLy13.go n1318 (by simp)
    walk_at "sx"
    -- the values
    refine g_tupD (K := K) n18.gh .nil (Nat.zero_le _) fun t3 G19 H19 n19 d3 => ?_
    walk_at "sx"
    refine g_tupD (K := K) (ds := [.str "laid"]) n19.gh (.cons (.str _) .nil) (by show 1 ≤ sizeLine; decide) fun t4 G20 H20 n20 d4 => ?_
    walk_at "sx"
    refine g_lstM n20.gh (by show 2 ≤ sizeLine; decide) fun l5 H21 n21 _ h5 _ => ?_
    walk_at "sx"
    refine g_tupRaw (K := K) n21.gh (by show 2 ≤ sizeLine; decide) fun t6 G22 H22 n22 _ hT6 => ?_
    walk_at "sx"
    refine g_tupRaw (K := K) n22.gh (by show 2 ≤ sizeLine; decide) fun t7 G23 H23 n23 _ hT7 => ?_
    walk_at "sx"
    refine g_tupRaw (K := K) n23.gh (by show 2 ≤ sizeLine; decide) fun t8 G24 H24 n24 _ hT8 => ?_
    walk_at "sx"
    refine g_tupD (K := K) n24.gh .nil (Nat.zero_le _) fun t9 G25 H25 n25 d9 => ?_
    walk_at "sx"
    refine g_tupD (K := K) (ds := [.str "ring", .tuple []]) n25.gh (.cons (.str _) (.cons d9 .nil)) (by show 2 ≤ sizeLine; decide) fun t10 G26 H26 n26 d10 => ?_
    walk_at "sx"
    refine g_lstM n26.gh (by show 9 ≤ sizeLine; decide) fun b1 H27 n27 _ hb1 gb1 => ?_
    walk_at "sx"
    have m1 : Nx [] G17 H18 G26 H27 := n19.trans (n20.trans (n21.trans (n22.trans (n23.trans (n24.trans (n25.trans (n26.trans n27)))))))
    have shl : SeqAt.shaped (.str "lay") = true := by decide +kernel
    have B1 : ∀ v ∈ ([.non, .int 5, .ref t3, .ref t4, .ref l5, .ref t6, .ref t7, .ref t8, .ref t10] : List V), BadV K ws ls G26 H27 v := fun v hv => by
      have x25 := n26.trans n27
      have x24 := n25.trans x25
      have x23 := n24.trans x24
      have x22 := n23.trans x23
      have x21 := n22.trans x22
      have x20 := n21.trans x21
      have x19 := n20.trans x20
      simp only [List.mem_cons, List.not_mem_nil, or_false] at hv
      rcases hv with rfl | rfl | rfl | rfl | rfl | rfl | rfl | rfl | rfl
      · exact .inr (.inr (.inl ⟨.none, .non, rfl, fun _ => (fun z => nomatch z), rfl⟩))
      · exact .inr (.inr (.inl ⟨.int 5, .int _, rfl, fun _ => (fun z => nomatch z), rfl⟩))
      · exact .inr (.inr (.inl ⟨_, dp_mono x19.gg d3, rfl, fun _ => (fun z => nomatch z), rfl⟩))
      · exact .inr (.inr (.inl ⟨_, dp_mono x20.gg d4, by decide +kernel, fun _ => (fun z => nomatch z), rfl⟩))
      · exact .inr (.inr (.inr (.inr (.inr ⟨l5, _, rfl, x21.fr l5 _ (by simp) h5⟩))))
      · exact .inr (.inr (.inr (.inl ⟨t6, "lay", _, rfl, x22.gg.seqT hT6, shl, by decide +kernel, by decide +kernel⟩)))
      · refine .inl ⟨t7, le, _, rfl, x23.gg.seqT hT7, hC18.go m1 (by simp), lay_len ?_⟩
        rw [← lenP]
        cases hnm : nm with
        | nil => rw [hnm] at hn0; cases hn0
        | cons y rest =>
          rw [hnm] at hn0
          cases hn0
          have e1 : (frM (n0 :: rest) PF).filter (fun e => decide (e.1 ≠ (Sum.inr n0 : Key))) = (frM rest PF).filter (fun e => decide (e.1 ≠ (Sum.inr n0 : Key))) := List.filter_cons_of_neg (by simp)
          rw [e1]
          have e2 := List.length_filter_le (fun e => decide (e.1 ≠ (Sum.inr n0 : Key))) (frM rest PF)
          have e3 : (frM (n0 :: rest) PF).length = (frM rest PF).length + 1 := by simp [frM]
          omega
      · refine .inl ⟨t8, mo, _, rfl, x24.gg.seqT hT8, hM18.go m1 (by simp), lay_len ?_⟩
        rw [List.length_append, lenP]
        simp
      · exact bad_ring (dp_mono n27.gg d10) (by decide +kernel) rfl
    clear n19 n20 n21 n22 n23 n24 n25 n26 d3 d4 h5 hT6 hT7 hT8 d9 d10 n14 n15 n16 n17 hC14 hC15 hM16
    have hLy27 := hLy18.go m1 (by simp)
    have nA := n1318.trans m1
    exact hR3 _ a pl p r al d l tv rv2 ly2 le mo b1 y8 y15 y16 y17 y18 y19 nm ls ws PF G26 H27 _ (W.go nA) hb1 rfl B1 q
theorem rest2_law (T : Tx fa fn bx K mg) {cdv : Value} {A : Around} {outer : List Env} {s : Shared} {H : Hp} {E : XK} (hr : Room 8 (A.deeper (envOfC "law" (defScope s_law) s.heap.objs.size (He.ga K "law") cdv))) : ∃ t, PSs (cxOf CX0 P w K mg base ["script", "pool", "names", "links", "album", "told", "ring", "laying", "k", "less", "more", "values", "flat", "part", "value", "name", "changed", "due", "first", "other"] "law" (defScope s_law) (He.ga K "law") cdv A outer s H E).nox ((defBody s_law).drop 9) t ∧ ∀ (D : Ends), ∀ (a pl p r al d l : Addr) (tv rv2 : V) (ly2 : Addr) (y15 y18 y19 : Option V) (nm : List Str) (ls ws : List PyData) (w : Way) (PF : Str → Four) (G12 H12 : Hp), Y.Ex G12 H12 → LstAt K p G12 H12 (nm.map .str) → LstAt K r G12 H12 ls → AlbAt K al d l G12 H12 ws ls → PoolAt K pl G12 H12 → DctAt K ly2 G12 H12 (frM nm PF) → Dp K G12 rv2 (wayD w) → wayOk ls w → w.length ≤ 200 → p ≠ pl → r ≠ pl → (al ≠ pl ∧ d ≠ pl ∧ l ≠ pl) → nm.Nodup → 1 ≤ nm.length → nm.length ≤ 6 → ls.length ≤ 8 → (∀ s ∈ nm, nameOk s = true ∧ s ≠ "zz9") → ws.map nmOf = nm → AOk ws ls → num 0 ls = lkB nm ls → nlOk nm (num 0 ls) → (∀ H', D.rt (.bl true) H') →
  t D [some (.ref a), some (.ref pl), some (.ref p), some (.ref r), some (.ref al), some tv, some rv2, some (.ref ly2), none, none, none, none, none, none, none, y15, none, none, y18, y19] H12 := by
    obtain ⟨tR, pR, hR2⟩ := rest3_law (P := P) (w := w) (base := base) (E := E) (cdv := cdv) (A := A) (outer := outer) (s := s) (H := H) T hr
    refine ⟨_, ((pss_cons (ps_for PassesOwn.never rfl (pi_range1 (by rfl) (T.free 16) (pa_cons pe_int pa_nil)) (pg_name (i := 8) sc_law.nd rfl (Or.inl rfl))
      (pss_cons (ps_set (i := 16) sc_law.nd rfl (Or.inl rfl) (Y.pe_callC (ok__law_changed T) (cal__law_changed T) (hr.mono (by decide)) (by rfl) pass0 (pa_cons (pv 1) (pa_cons (pv 2) (pa_cons (pv 7) pa_nil)))))
      (pss_cons (ps_set (i := 17) sc_law.nd rfl (Or.inl rfl) (Y.pe_callC (ok__law_is_laying T) (cal__law_is_laying T) (hr.mono (by decide)) (by rfl) pass0 (pa_cons (pv 2) (pa_cons (pv 3) (pa_cons (pv 16) pa_nil)))))
      (pss_cons (ps_if (PW.pt (pw_or (pt_cmpR op_ne (Y.pe_callC (ok_judges T) (cal_judges T) (hr.mono (by decide)) (by rfl) pass0 (pa_cons (pv 4) (pa_cons (pe_tup (pa_cons pe_str (pa_cons (pv 16) pa_nil))) pa_nil))) (pv 17) (nomark _)) (pw_or1 (pt_cmpR op_ne (Y.pe_callC (ok_judges T) (cal_judges T) (hr.mono (by decide)) (by rfl) pass0 (pa_cons (pv 4) (pa_cons (pe_tup (pa_cons pe_str (pa_cons (Y.pe_callC (ok__law_turned T) (cal__law_turned T) (hr.mono (by decide)) (by rfl) pass0 (pa_cons (pv 16) pa_nil)) pa_nil))) pa_nil))) (pv 17) (nomark _)))))
      (pss_one (ps_ret pe_bl))
      pss_nil)
      (pss_one (ps_if (Y.pt_truthK (K := K) rfl (pv 3) (by intro _; rfl))
      (pss_cons (ps_set (i := 19) sc_law.nd rfl (Or.inl rfl) (Y.pe_callC (ok__law_ring_like T) (cal__law_ring_like T) (hr.mono (by decide)) (by rfl) pass0 (pa_cons (pv 1) (pa_cons (pv 3) (pa_cons (pv 6) pa_nil)))))
      (pss_one (ps_if (pt_cmpR op_ne (Y.pe_callC (ok_judges T) (cal_judges T) (hr.mono (by decide)) (by rfl) pass0 (pa_cons (pv 4) (pa_cons (pe_tup (pa_cons pe_str (pa_cons (pv 19) pa_nil))) pa_nil))) (Y.pe_callC (ok__law_is_ring T) (cal__law_is_ring T) (hr.mono (by decide)) (by rfl) pass0 (pa_cons (pv 3) (pa_cons (pv 19) pa_nil))) (nomark _))
      (pss_one (ps_ret pe_bl))
      pss_nil)))
      pss_nil))))))
      pR)), ?_⟩
    intro D a pl p r al d l tv rv2 ly2 y15 y18 y19 nm ls ws w PF G12 H12 e12 hL12 hK12 hA12 hp12 hLy12 hrv hwo hwl hppl hrpl hap hnd hl1 hnl hlsl hss evn ok hall hok q
    have hlk2 : ∀ d ∈ ls, linkOk d = true := fun d hd => (ok.lo d hd).1
    have hokn : ∀ s ∈ nm, nameOk s = true := fun s hs => (hss s hs).1
    have n1a : nlOk (ws.map nmOf) (lkB (ws.map nmOf) ls) := by rw [evn, ← hall]; exact hok
    have n1b : num 0 ls = lkB (ws.map nmOf) ls := by rw [evn]; exact hall
    have wsl : ws.length = nm.length := by rw [← evn, List.length_map]
    walk_at "sx"
    refine g_walkR (by decide) (by decide) ?_
    refine g_forS (K := K) (M := [pl]) (src_rng 0 _) e12 (fun i σ G' H' => ∃ y8 y16 y17 y19, σ = [some (.ref a), some (.ref pl), some (.ref p), some (.ref r), some (.ref al), some tv, some rv2, some (.ref ly2), y8, none, none, none, none, none, none, y15, y16, y17, y18, y19] ∧ PoolAt K pl G' H') ⟨_, _, _, _, rfl, hp12⟩ ?_ ?_
    · rintro i z w' σ' G13 H13 G14 H14 hi n13 ⟨y8, y16, y17, y19, rfl, hp13⟩ n14 dv
      obtain ⟨hic, rfl⟩ := rng_get hi
      cases dp_int dv
      have n1214 : Nx [pl] G12 H12 G14 H14 := n13.trans n14.pure
      have hL14 := hL12.go n1214 (by simp [hppl])
      have hK14 := hK12.go n1214 (by simp [hrpl])
      have hA14 := hA12.go n1214 (by simp [hap.1]) (by simp [hap.2.1]) (by simp [hap.2.2])
      have hp14 := hp13.go n14 (by simp)
      have hLy14 := hLy12.go n1214 (by simp [dct_pool hp12 hLy12])
      have hrv14 := dp_mono n1214.gg hrv
      walk_at "sx"
      refine ⟨G14, pl, p, ly2, nm, PF, rfl, n14.gh, hp14, hL14, hLy14, hppl, dct_pool hp14 hLy14, hnd, by omega, by omega, fun o G15 H15 P' n15 ho hp15 hO => ?_⟩
      walk_at "sx"
      have hL15 := hL14.go n15 (by simp [hppl])
      have hK15 := hK14.go n15 (by simp [hrpl])
      have hA15 := hA14.go n15 (by simp [hap.1]) (by simp [hap.2.1]) (by simp [hap.2.2])
      refine ⟨G15, p, r, o, nm, ls, ws, P', rfl, n15.gh, hL15, hK15, hO, evn.symm, hnd, by omega, by omega, hok, hlk2, hokn, fun G16 H16 n16 => ?_⟩
      walk_at "sx"
      have hA16 := hA15.go n16 (by simp) (by simp) (by simp)
      have hO16 := hO.go n16 (by simp)
      refine g_tupRaw (K := K) n16.gh (by show 2 ≤ sizeLine; decide) fun t G17 H17 n17 ht hT => ?_
      walk_at "sx"
      refine ⟨G17, al, d, l, ws, ls, .ref t, rfl, n17.gh, hA16.go n17 (by simp) (by simp) (by simp), n1a, n1b, .inl ⟨t, o, _, rfl, hT, hO16.go n17 (by simp), fun G18 H18 n18 => ?_⟩⟩
      rw [lay_law (P := P') (evn ▸ hok) n1b hlk2 (by simp [frM, wsl]) (fun s hs => gt_fr (evn ▸ hs))]
      walk_at "sx"
      refine g_ne rfl ?_
      refine ⟨_, rfl, ?_⟩
      refine g_ndec (fun z => absurd rfl z) (fun _ => ?_)
      walk_at "sx"
      have hO18 := (hO16.go n17 (by simp)).go n18 (by simp)
      have n1518 := n16.trans (n17.trans n18)
      refine ⟨G18, o, nm, P', rfl, n18.gh, hO18, hnd, by omega, fun o2 G19 H19 n19 ho2 hO2 => ?_⟩
      walk_at "sx"
      refine g_tupRaw (K := K) n19.gh (by show 2 ≤ sizeLine; decide) fun t2 G20 H20 n20 ht2 hT2 => ?_
      walk_at "sx"
      have n1520 := n1518.trans (n19.trans n20)
      refine ⟨G20, al, d, l, ws, ls, .ref t2, rfl, n20.gh, hA15.go n1520 (by simp) (by simp) (by simp), n1a, n1b, .inl ⟨t2, o2, _, rfl, hT2, hO2.go n20 (by simp), fun G21 H21 n21 => ?_⟩⟩
      rw [lay_law (P := P') (evn ▸ hok) n1b hlk2 (by simp [frM, wsl]) (fun s hs => gt_fr (List.mem_reverse.mpr (evn ▸ hs)))]
      walk_at "sx"
      refine g_ne rfl ?_
      refine ⟨_, rfl, ?_⟩
      refine g_ndec (fun z => absurd rfl z) (fun _ => ?_)
      walk_at "sx"
      have n1521 := n1520.trans n21
      have hK21 := hK15.go n1521 (by simp)
      have hp21 := hp15.go n1521 (by simp)
      have hA21 := hA15.go n1521 (by simp) (by simp) (by simp)
      have n1421 : Nx [pl] G14 H14 G21 H21 := n15.trans n1521.pure
      have hrv21 := dp_mono n1421.gg hrv14
      obtain ⟨xs, hxs, _, dxs⟩ := id hK21
      have xsl : xs.length = ls.length := dpAll_len dxs
      refine g_truL (.of hxs) ?_
      refine g_bool (fun hne => ?_) (fun hne => ?_)
      rotate_left
      · walk_at "sx"
        exact ⟨G21, n1214.trans n1421, _, _, _, _, rfl, hp21⟩
      walk_at "sx"
      have ls1 : 1 ≤ ls.length := by
        rw [← xsl]
        cases xs with
        | nil => cases hne
        | cons _ _ => simp
      refine ⟨G21, pl, r, rv2, ls, w, rfl, n21.gh, hp21, hK21, hrpl, ls1, by omega, hrv21, hwo, hwl, fun u G22 H22 w' n22 hp22 du hwo' hwl' => ?_⟩
      walk_at "sx"
      refine g_tupD (K := K) (ds := [.str "ring", wayD w']) n22.gh (.cons (.str _) (.cons du .nil)) (by show 2 ≤ sizeLine; decide) fun t3 G23 H23 n23 d23 => ?_
      walk_at "sx"
      have hA23 := (hA21.go n22 (by simp [hap.1]) (by simp [hap.2.1]) (by simp [hap.2.2])).go n23 (by simp) (by simp) (by simp)
      refine ⟨G23, al, d, l, ws, ls, .ref t3, rfl, n23.gh, hA23, n1a, n1b, .inr (.inr (.inl ⟨_, d23, fit_tuple (by show 2 ≤ 100000; decide) fun x hx => ?_, fun z hz => ?_, fun G24 H24 n24 => ?_⟩))⟩
      · simp only [List.mem_cons, List.not_mem_nil, or_false] at hx
        rcases hx with rfl | rfl
        · exact by decide +kernel
        · exact fit_way (by omega)
      · have h2 : (PyData.str "ring") = .str "laid" := by
          injection hz with hz
          injection hz
        injection h2 with h2
        exact absurd h2 (by decide +kernel)
      · have ej : judB ls (.tuple [.str "ring", wayD w']) = judR ls (wayD w') := by
          show (decide (("ring" : Str) = "ring") && judR ls (wayD w')) = _
          simp
        rw [ej]
        walk_at "sx"
        have n2224 := n23.trans n24
        have hK24 := (hK21.go n22 (by simp [hrpl])).go n2224 (by simp)
        refine ⟨G24, r, u, ls, w', rfl, n24.gh, hK24, hlk2, dp_mono n2224.gg du, hwo', by omega, fun G25 H25 n25 => ?_⟩
        walk_at "sx"
        refine g_ne rfl ?_
        refine ⟨_, rfl, ?_⟩
        refine g_ndec (fun z => absurd rfl z) (fun _ => ?_)
        walk_at "sx"
        exact ⟨G25, n1214.trans (n1421.trans (n22.trans (n2224.trans n25).pure)), _, _, _, _, rfl, (hp22.go n2224 (by simp)).go n25 (by simp)⟩
    · rintro σ' G13 H13 n13 ⟨y8, y16, y17, y19, rfl, hp13⟩
      walk_at "sx"
      exact hR2 _ a pl p r al d l tv rv2 ly2 y8 y15 y16 y17 y18 y19 nm ls ws PF G13 H13 ⟨n13.gh, hL12.go n13 (by simp [hppl]), hK12.go n13 (by simp [hrpl]), hA12.go n13 (by simp [hap.1]) (by simp [hap.2.1]) (by simp [hap.2.2]), hLy12.go n13 (by simp [dct_pool hp12 hLy12]), hnd, hl1, hnl, hlsl, hss, evn, ok, hall, hok⟩ q
theorem rest_law (T : Tx fa fn bx K mg) {cdv : Value} {A : Around} {outer : List Env} {s : Shared} {H : Hp} {E : XK} (hr : Room 8 (A.deeper (envOfC "law" (defScope s_law) s.heap.objs.size (He.ga K "law") cdv))) : ∃ t, PSs (cxOf CX0 P w K mg base ["script", "pool", "names", "links", "album", "told", "ring", "laying", "k", "less", "more", "values", "flat", "part", "value", "name", "changed", "due", "first", "other"] "law" (defScope s_law) (He.ga K "law") cdv A outer s H E).nox ((defBody s_law).drop 6) t ∧ ∀ (D : Ends), ∀ (a pl p r al d l : Addr) (tv : V) (nm : List Str) (ls ws : List PyData) (G8 H8 : Hp), Y.Ex G8 H8 → LstAt K p G8 H8 (nm.map .str) → LstAt K r G8 H8 ls → AlbAt K al d l G8 H8 ws ls → PoolAt K pl G8 H8 → AnsAt K tv G8 H8 (layAns ws ls) → p ≠ pl → r ≠ pl → (al ≠ pl ∧ d ≠ pl ∧ l ≠ pl) → nm.Nodup → 1 ≤ nm.length → nm.length ≤ 6 → ls.length ≤ 8 → (∀ s ∈ nm, nameOk s = true ∧ s ≠ "zz9") → ws.map nmOf = nm → AOk ws ls → num 0 ls = lkB nm ls → nlOk nm (num 0 ls) → (∀ s ∈ nm, nlOk (grp nm (num 0 ls) s) (lkB (grp nm (num 0 ls) s) ls)) → (∀ H', D.rt (.bl true) H') →
  t D [some (.ref a), some (.ref pl), some (.ref p), some (.ref r), some (.ref al), some tv, none, none, none, none, none, none, none, none, none, none, none, none, none, none] H8 := by
    obtain ⟨tR, pR, hR2⟩ := rest2_law (P := P) (w := w) (base := base) (E := E) (cdv := cdv) (A := A) (outer := outer) (s := s) (H := H) T hr
    refine ⟨_, ((pss_cons (ps_set (i := 6) sc_law.nd rfl (Or.inl rfl) (pe_tup pa_nil))
      (pss_cons (ps_set (i := 7) sc_law.nd rfl (Or.inl rfl) pe_dnewK)
      (Evl.pss_cut (ps_if (pt_cmpR op_eq (pe_ix (Y.ix_tupK (K := K) rfl) (pv 5) pe_int (fun _ _ => rfl)) pe_str (nomark _))
      (pss_cons (ps_set (i := 6) sc_law.nd rfl (Or.inl rfl) (pe_ix (Y.ix_tupK (K := K) rfl) (pv 5) pe_int (fun _ _ => rfl)))
      (pss_one (ps_for PassesOwn.never rfl (Y.pi_listK (K := K) rfl (pv 2)) (pg_name (i := 15) sc_law.nd rfl (Or.inr rfl))
      (pss_cons (ps_set (i := 18) sc_law.nd rfl (Or.inl rfl) (pe_ix (Y.ix_listK (K := K) rfl) (pe_lc (own := [("other", 19)]) rfl sc_law.nd (Y.pi_listK (K := K) rfl (pv 2)) (blkOk_by (own := [("other", 19)]) (by kernel_rfl)) (fun _ _ _ _ _ => (pg_name (i := 19) sc_law.nd rfl (Or.inl rfl))) (fun _ _ _ _ _ => (pts_one (pt_cmpR (Y.op_inK (K := K) rfl) (pv 19) (Y.pe_callC (ok__law_group T) (cal__law_group T) (hr.mono (by decide)) (by rfl) pass0 (pa_cons (pv 3) (pa_cons (pv 15) pa_nil))) (by rfl)))) (fun _ _ _ _ _ => (pv 19))) pe_int (fun _ _ => rfl)))
      (pss_one (ps_dput (hu_of hr) (pv 7) (pv 15) (pe_op (Y.op_catAK (K := K) rfl) (pe_tup (pa_cons (Y.pe_bmK (K := K) rfl PySem.F.plainAttrs_list PySem.F.slot_list_index PySem.F.type_list_index mt_index (pv 2) (pa_cons (pv 18) pa_nil)) pa_nil)) (pe_dget (hu_of hr) (pe_ix (Y.ix_listK (K := K) rfl) (Y.pe_callC (ok__law_ways T) (cal__law_ways T) (hr.mono (by decide)) (by rfl) pass0 (pa_cons (pv 3) (pa_cons (pv 18) pa_nil))) pe_int (fun _ _ => rfl)) (pv 15) (fun _ _ => rfl))) rfl))))))
      (pss_one (ps_set (i := 7) sc_law.nd rfl (Or.inl rfl) (pe_ix (Y.ix_tupK (K := K) rfl) (pv 5) pe_int (fun _ _ => rfl)))))
      pR)))), ?_⟩
    intro D a pl p r al d l tv nm ls ws G8 H8 e8 hL8 hK8 hA8 hp8 htold hppl hrpl hap hnd hl1 hnl hlsl hss evn ok hall hok okg q
    have hlk2 : ∀ d ∈ ls, linkOk d = true := fun d hd => (ok.lo d hd).1
    have n9 : Nx [] G8 H8 G8 H8 := Nx.refl e8
    walk_at "sx"
    refine g_tupD (K := K) n9.gh .nil (Nat.zero_le _) fun rv G10 H10 n10 d10 => ?_
    walk_at "sx"
    refine g_newD (K := K) n10.gh fun ly H11 n11 hly hLy => ?_
    walk_at "sx"
    have n911 := n9.trans (n10.trans n11)
    have hL11 := hL8.go n911 (by simp)
    have hK11 := hK8.go n911 (by simp)
    have hA11 := hA8.go n911 (by simp) (by simp) (by simp)
    have hp11 := hp8.go n911 (by simp)
    refine ⟨fun σ' H' => ∃ G', Nx [] G8 H8 G' H' ∧ ∃ rv ly y15 y18 y19, ∃ w : Way, ∃ P : Str → Four, σ' = [some (.ref a), some (.ref pl), some (.ref p), some (.ref r), some (.ref al), some tv, some rv, some (.ref ly), none, none, none, none, none, none, none, y15, none, none, y18, y19] ∧ Dp K G' rv (wayD w) ∧ wayOk ls w ∧ w.length ≤ 200 ∧ DctAt K ly G' H' (frM nm P), ?_, ?_⟩
    · have htold11 := htold.go n911 (fun _ _ z => nomatch z)
      generalize hla : layAns ws ls = la at htold11
      obtain ⟨tt, tx, rfl, htold11⟩ := htold11
      cases la with
      | ring w =>
        obtain ⟨hT, hW⟩ := htold11
        obtain ⟨hj, hwo⟩ := told_judR hok evn.symm hall okg hnd hlk2 hla
        have hwl := told_len hok evn.symm hall okg hnd hla
        walk_at "sx"
        refine g_ixTR (k := 0) n911.gh hT rfl rfl ?_
        walk_at "sx"
        refine g_dec (fun _ => ?_) (fun z => absurd rfl z)
        walk_at "sx"
        refine g_ixTR (k := 1) n911.gh hT rfl rfl ?_
        walk_at "sx"
        have lyp : p ≠ ly := fun z => (hL8.go (n9.trans n10) (by simp)).live (z ▸ hly)
        have lyr : r ≠ ly := fun z => (hK8.go (n9.trans n10) (by simp)).live (z ▸ hly)
        have ly8 : H8 ly = none := (n9.trans n10).fresh hly
        refine g_walkLs hL11 fun S => ?_
        refine g_forS (K := K) (M := [ly]) (S [ly] (by simp [lyp, lyp.symm])) n911.gh (fun i σ G' H' => ∃ y15 y18, ∃ P : Str → Four, σ = [some (.ref a), some (.ref pl), some (.ref p), some (.ref r), some (.ref al), some (.ref tt), some tx, some (.ref ly), none, none, none, none, none, none, none, y15, none, none, y18, none] ∧ DctAt K ly G' H' (frM (nm.take i) P)) ⟨_, _, fun _ => (0, 0, 0, 0), rfl, hLy⟩ ?_ ?_
        · rintro i z w' σ' G12 H12 G13 H13 hi n12 ⟨y15, y18, P, rfl, hLy12⟩ n13 dv
          rw [List.getElem?_map] at hi
          obtain ⟨x, hx, rfl⟩ := Option.map_eq_some_iff.mp hi
          cases dp_str dv
          have hxm := List.mem_of_getElem? hx
          have n1213 : Nx [ly] G10 H11 G13 H13 := n12.trans n13.pure
          have hL13 := hL11.go n1213 (by simp [lyp])
          have hK13 := hK11.go n1213 (by simp [lyr])
          have hLy13 := hLy12.go n13 (by simp)
          walk_at "sx"
          refine g_walkLs hL13 fun S3 => ?_
          intro A hA
          refine g_lcS (K := K) (M := []) (S3 [] (by simp)) n13.gh hA (by simp) (by rw [List.length_map]; exact szl (by omega)) (fun j acc => acc = ((nm.take j).filter fun o => decide (o ∈ keysOf nm (num 0 ls) x)).map .str) rfl (fun j d2 w2 acc G5 H5 hj dw2 n5 _ hjj QE QN k1 k2 => ?_) (fun G14 H14 ys2 acc hjj n14 g5 h5 da => ?_)
          · rw [List.getElem?_map] at hj
            obtain ⟨z, hz, rfl⟩ := Option.map_eq_some_iff.mp hj
            cases dp_str dw2
            have tk2 : nm.take (j + 1) = nm.take j ++ [z] := by rw [List.take_add_one, hz]; rfl
            walk_at "sx"
            refine ⟨G5, r, ls, nm, x, rfl, n5.gh, hK13.go n5 (by simp), by omega, hnd, by omega, hok, hxm, fun o gl G6 H6 n6 ho hO hgl => ?_⟩
            refine g_inSsF hO ?_
            have hiff : decide (z ∈ gl) = decide (z ∈ keysOf nm (num 0 ls) x) := by rw [decide_eq_decide, hgl, keys_rch hok hxm]
            rw [hiff]
            walk_at "sx"
            refine g_dec (fun hin => ?_) (fun hout => ?_) <;> walk_at "sx"
            · refine k1 _ G6 H6 _ n6 (.str z) ?_
              rw [hjj, tk2, List.filter_append, List.filter_cons_of_pos (by exact decide_eq_true hin)]
              simp
            · refine k2 G6 H6 n6 ?_
              rw [hjj, tk2, List.filter_append, List.filter_cons_of_neg (by rw [decide_eq_true_eq]; exact hout)]
              simp
          rw [List.length_map, List.take_length] at hjj
          have hG14 : LstAt K A G14 H14 ((grp nm (num 0 ls) x).map .str) := ⟨ys2, h5, g5, by rw [hjj] at da; exact da⟩
          obtain ⟨x0, gr, hgr⟩ : ∃ x0 gr, grp nm (num 0 ls) x = x0 :: gr := by
            have := grp_own hok hxm
            cases hg : grp nm (num 0 ls) x with
            | nil => rw [hg] at this; cases this
            | cons y t => exact ⟨y, t, rfl⟩
          obtain ⟨_, hin, hx0m⟩ := law_place hok evn.symm hall okg hxm (x := x0) (by rw [hgr]; rfl)
          obtain ⟨j, hj⟩ := List.mem_iff_getElem?.mp hx0m
          have hjm : ∀ m, m < j → nm[m]? ≠ some x0 := fun m hm hm2 => by
            obtain ⟨a1, b1⟩ := (List.getElem?_eq_some_iff.mp hj)
            obtain ⟨a2, b2⟩ := (List.getElem?_eq_some_iff.mp hm2)
            have := (List.getElem_inj hnd).mp (b2.trans b1.symm)
            omega
          walk_at "sx"
          refine g_ixLs (k := 0) (d := .str x0) hG14 (by rw [hgr]; rfl) rfl fun v2 d2 => ?_
          cases dp_str d2
          walk_at "sx"
          obtain ⟨vs, hvs, _, dvs⟩ := id (hL13.go n14 (by simp))
          rw [dpAll_str_inv dvs] at hvs
          refine g_tyL hvs ?_
          walk_at "sx"
          refine g_index hvs hj hjm ?_
          walk_at "sx"
          refine g_tupD (K := K) (ds := [.int (j : Int)]) n14.gh (.cons (.int _) .nil) (by show 1 ≤ sizeLine; decide) fun t1 G15 H15 n15 d15 => ?_
          walk_at "sx"
          have n1315 := n14.trans n15
          refine ⟨G15, r, ls, nm, x0, rfl, n15.gh, hK13.go n1315 (by simp), by omega, hnd, by omega, hok, hx0m, fun o w1 pl2 G16 H16 n16 hw0 hp0 ho0 hne ho go hW1 hPl => ?_⟩
          walk_at "sx"
          refine g_ixM (k := 1) ho rfl rfl ?_
          walk_at "sx"
          have hget : gtM (lawTab nm ls x0) x = some (wyAt (lawTab nm ls x0) x) := (wy_get hin).1
          have gP : gtM (plcM (lawTab nm ls x0)) (Sum.inr x : Key) = some (plD (wyAt (lawTab nm ls x0) x).2) := by unfold plcM; rw [gtM_mapV (f := fun e => plD e.2), hget]; rfl
          have hPl : DctAt K pl2 G16 H16 (plcM (lawTab nm ls x0)) := hPl
          refine g_dcGet hPl (k := Sum.inr x) rfl gP fun v5 d5 => ?_
          refine g_catA n16.gh (dp_mono n16.gg d15) d5 (by show 4 ≤ sizeLine; decide) fun t3 G17 H17 n17 d17 => ?_
          walk_at "sx"
          have n1317 := n1315.trans (n16.trans n17)
          have d17 : Dp K G17 t3 (frD ((j : Int), (wyAt (lawTab nm ls x0) x).2)) := d17
          have hnew : (Sum.inr x : Key) ∉ (frM (nm.take i) P).map (·.1) := fun hm => by
            unfold frM at hm
            rw [List.map_map] at hm
            obtain ⟨y, hy, ey⟩ := List.mem_map.mp hm
            have ey : y = x := Sum.inr.inj ey
            subst ey
            obtain ⟨jj, hjj, hj2⟩ := List.mem_take_iff_getElem.mp hy
            obtain ⟨h1, h2⟩ := List.getElem?_eq_some_iff.mp hx
            have := (List.getElem_inj hnd).mp (hj2.trans h2.symm)
            omega
          refine g_dcPut n17.gh (hLy13.go n1317 (by simp)) (k := Sum.inr x) rfl d17 (by simp [frM]; omega) fun H18 n18 hD18 => ?_
          rw [ptM_new hnew] at hD18
          refine ⟨G17, (n1213.trans n1317.pure).trans n18, _, _, (fun s => if s = x then ((j : Int), (wyAt (lawTab nm ls x0) x).2) else P s), rfl, ?_⟩
          have el : frM (nm.take (i + 1)) (fun s => if s = x then ((j : Int), (wyAt (lawTab nm ls x0) x).2) else P s) = frM (nm.take i) P ++ [(Sum.inr x, frD ((j : Int), (wyAt (lawTab nm ls x0) x).2))] := by
            rw [List.take_add_one, hx]
            unfold frM
            rw [List.map_append]
            congr 1
            · refine List.map_congr_left fun s hs => ?_
              have hsx : s ≠ x := fun z => by
                subst z
                exact hnew (List.mem_map.mpr ⟨(Sum.inr s, frD (P s)), List.mem_map.mpr ⟨s, hs, rfl⟩, rfl⟩)
              show ((Sum.inr s : Key), frD (if s = x then _ else P s)) = _
              rw [if_neg hsx]
            · show [((Sum.inr x : Key), frD (if x = x then _ else _))] = _
              rw [if_pos rfl]
          rw [el]
          exact hD18
        · rintro σ' G12 H12 n12 ⟨y15, y18, P, rfl, hLy12⟩
          rw [List.length_map, List.take_length] at hLy12
          walk_at "sx"
          exact ⟨G12, (n911.pure.trans n12).drop ly8, tx, ly, y15, y18, none, w, P, rfl, dp_mono n12.gg hW, hwo, by omega, hLy12⟩
      | laid md =>
        obtain ⟨dd, rfl, hT, hD⟩ := htold11
        obtain ⟨rfl, hlw⟩ := told_laid hok evn.symm hall okg hnd hlk2 hla
        have eM : layM (nm.map fun n => (n, plOf ws ls n)) = frM nm (plOf ws ls) := by
          unfold layM frM
          rw [List.map_map]
          rfl
        rw [eM] at hD
        walk_at "sx"
        refine g_ixTR (k := 0) n911.gh hT rfl rfl ?_
        walk_at "sx"
        refine g_dec (fun z => absurd z (by decide)) (fun _ => ?_)
        walk_at "sx"
        refine g_ixTR (k := 1) n911.gh hT rfl rfl ?_
        walk_at "sx"
        exact ⟨_, n911, _, _, _, _, _, [], _, rfl, dp_mono n11.gg d10, fun x hx => (nomatch hx), Nat.zero_le _, hD⟩
    rintro σ' H12 ⟨G12, n12, rv2, ly2, y15, y18, y19, w, PF, rfl, hrv, hwo, hwl, hLy12⟩
    exact hR2 _ a pl p r al d l tv rv2 ly2 y15 y18 y19 nm ls ws w PF G12 H12 n12.gh (hL8.go n12 (by simp)) (hK8.go n12 (by simp)) (hA8.go n12 (by simp) (by simp) (by simp)) (hp8.go n12 (by simp)) hLy12 hrv hwo hwl hppl hrpl hap hnd (by omega) hnl hlsl hss evn ok hall hok q
theorem ok_law (T : Tx fa fn bx K mg) : FnOk P w K mg base CX0 9 (He.ga K "law") (fdOf K (He.ga K "law")) ["script"] (sp_law K) := by
  refine FunD.ok (F_law T) sc_law (fun vs H Q E h => ?_) (fun cdv A outer s H vs Q E hr h => ?_)
  · obtain ⟨_, _, _, rfl, _⟩ := h
    rfl
  · obtain ⟨G, a, ns, rfl, e, hs, q⟩ := h
    obtain ⟨tR, pR, hR⟩ := rest_law (P := P) (w := w) (base := base) (E := E) (cdv := cdv) (A := A) (outer := outer) (s := s) (H := H) T hr
    refine ⟨_, PSs.nox ((pss_cons (ps_set (i := 1) sc_law.nd rfl (Or.inl rfl) (Y.pe_callC (ok__law_pool T) (cal__law_pool T) (hr.mono (by decide)) (by rfl) pass0 (pa_cons (pv 0) pa_nil)))
      (pss_cons (ps_set (i := 2) sc_law.nd rfl (Or.inl rfl) (Y.pe_callC (ok__law_names T) (cal__law_names T) (hr.mono (by decide)) (by rfl) pass0 (pa_cons (pv 1) (pa_cons (pe_op op_add pe_int (Y.pe_callC (ok__law_take T) (cal__law_take T) (hr.mono (by decide)) (by rfl) pass0 (pa_cons (pv 1) (pa_cons pe_int pa_nil)))) pa_nil))))
      (pss_cons (ps_set (i := 3) sc_law.nd rfl (Or.inr rfl) (Y.pe_callC (ok__law_links T) (cal__law_links T) (hr.mono (by decide)) (by rfl) pass0 (pa_cons (pv 1) (pa_cons (pv 2) (pa_cons pe_int pa_nil)))))
      (pss_cons (ps_set (i := 4) sc_law.nd rfl (Or.inl rfl) (Y.pe_callC (ok__law_album T) (cal__law_album T) (hr.mono (by decide)) (by rfl) pass0 (pa_cons (pv 2) (pa_cons (pe_lc (own := [("name", 15)]) (tt := tYes) rfl sc_law.nd (Y.pi_listK (K := K) rfl (pv 2)) (blkOk_by (own := [("name", 15)]) (by kernel_rfl)) (fun _ _ _ _ _ => (pg_name (i := 15) sc_law.nd rfl (Or.inl rfl))) (fun _ _ _ _ _ => pts_nil) (fun _ _ _ _ _ => (pe_tup (pa_cons (pe_tup (pa_cons pe_int pa_nil)) pa_nil)))) (pa_cons (pv 3) pa_nil)))))
      (pss_cons (ps_set (i := 5) sc_law.nd rfl (Or.inl rfl) (Y.pe_callC (ok_lay T) (cal_lay T) (hr.mono (by decide)) (by rfl) pass0 (pa_cons (pv 4) pa_nil)))
      (Evl.pss_cut (ps_if (pt_cmpR op_notBl (Y.pe_callC (ok_judges T) (cal_judges T) (hr.mono (by decide)) (by rfl) pass0 (pa_cons (pv 4) (pa_cons (pv 5) pa_nil))) pe_bl (nomark _))
      (pss_one (ps_ret pe_bl))
      pss_nil)
      pR))))))), ?_⟩
    walk_at "sx"
    refine ⟨G, a, ns, rfl, e, hs, fun pl G1 H1 n1 hpl hp1 => ?_⟩
    walk_at "sx"
    refine ⟨G1, pl, 6, rfl, n1.gh, hp1, by decide, by decide, fun c6 H2 c0 c1 n2 hp2 => ?_⟩
    walk_at "sx"
    refine ⟨G1, pl, 1 + c6, rfl, n2.gh, hp2, by omega, by omega, fun p nm G3 H3 hss ⟨hl, hnd⟩ hp hL n3 hp3 => ?_⟩
    walk_at "sx"
    have hppl : p ≠ pl := fun z => hp2.live (z ▸ hp)
    refine ⟨G3, pl, p, nm, 8, rfl, n3.gh, hp3, hL, hppl, by omega, by omega, by decide, by decide, fun r ls G5 H5 n5 hp5 hr hK hll hlk => ?_⟩
    walk_at "sx"
    have hL5 := hL.go n5 (by simp [hppl])
    have hrp : r ≠ p := fun z => hL.live (z ▸ hr)
    have hrpl : r ≠ pl := fun z => hp3.live (z ▸ hr)
    refine g_walkLs hL5 fun S => ?_
    intro A hA
    refine g_lcMap (K := K) (M := []) (es := nm.map fun _ => PyData.tuple [.tuple [.int 1]]) (S [] (by simp)) n5.gh hA (by simp) (by rw [List.length_map]; exact szl (by omega)) (by simp) (fun i d1 d' v G' H' hi hi' dv n QE k => ?_) (fun G6 H6 ys n6 g6 h6 da6 => ?_)
    · rw [List.getElem?_map] at hi'
      obtain ⟨_, _, rfl⟩ := Option.map_eq_some_iff.mp hi'
      walk_at "sx"
      refine g_tupD (K := K) n.gh (.cons (.int 1) .nil) (by show 1 ≤ sizeLine; decide) fun t1 G2 H2 n2 d2 => ?_
      walk_at "sx"
      refine g_tupD (K := K) n2.gh (.cons d2 .nil) (by show 1 ≤ sizeLine; decide) fun t2 G3 H3 n3 d3 => ?_
      exact k _ _ _ (n2.trans n3) d3
    have hrl : (nm.map fun _ => PyData.tuple [.tuple [.int 1]]).length = nm.length := by simp
    have hro : ∀ x ∈ (nm.map fun _ => PyData.tuple [.tuple [.int 1]]), rowsOk x = true ∧ fit x = true := fun x hx => by
      obtain ⟨_, _, rfl⟩ := List.mem_map.mp hx
      exact ⟨by decide, by decide⟩
    generalize (nm.map fun _ => PyData.tuple [.tuple [.int 1]]) = rs at da6 hrl hro
    have hR6 : LstAt K A G6 H6 rs := ⟨ys, h6, g6, da6⟩
    have hL6 := hL5.go n6 (by simp)
    have hK6 := hK.go n6 (by simp)
    walk_at "sx"
    refine ⟨G6, p, nm, A, rs, r, ls, rfl, n6.gh, hL6, hR6, hK6, hrl, hnd, by omega, fun s hs => (hss s hs).1, hro, by omega, hlk, fun al d l G7 H7 n7 hal hd hll2 hAl => ?_⟩
    have hL7 := hL6.go n7 (by simp)
    have hK7 := hK6.go n7 (by simp)
    have evn : (viewsOf nm rs).map nmOf = nm := viewsOf_nm hrl
    have ok := hAl.2.2.2.1
    have nok := fun g : List Str => (nlOk_of (nm := g) ok.ll fun v hv => (ok.lo v hv).1).1
    have hp6 := hp5.go n6 (by simp)
    have hp7 := hp6.go n7 (by simp)
    have hap : al ≠ pl ∧ d ≠ pl ∧ l ≠ pl := ⟨fun z => hp6.live (z ▸ hal), fun z => hp6.live (z ▸ hd), fun z => hp6.live (z ▸ hll2)⟩
    clear hp6
    clear hL hL5 hL6 hK hK6 hR6 hp1 hp2 hp3 hp5 S
    have hall : num 0 ls = lkB nm ls := all_links fun d hd => by
      obtain ⟨s, t, x, y, z, e, h1, h2, _⟩ := hlk d hd
      rw [e]
      exact ⟨h1, h2⟩
    have hok : nlOk nm (num 0 ls) := hall ▸ nok nm
    have okg : ∀ s ∈ nm, nlOk (grp nm (num 0 ls) s) (lkB (grp nm (num 0 ls) s) ls) := fun s _ => nok _
    have hnl : nm.length ≤ 6 := by omega
    have hlsl : ls.length ≤ 8 := by omega
    generalize hws : viewsOf nm rs = ws at *
    have hlk2 : ∀ d ∈ ls, linkOk d = true := fun d hd => (ok.lo d hd).1
    have hokn : ∀ s ∈ nm, nameOk s = true := fun s hs => (hss s hs).1
    have n1a : nlOk (ws.map nmOf) (lkB (ws.map nmOf) ls) := by rw [evn, ← hall]; exact hok
    have n1b : num 0 ls = lkB (ws.map nmOf) ls := by rw [evn]; exact hall
    have wsl : ws.length = nm.length := by rw [← evn, List.length_map]
    walk_at "sx"
    refine ⟨G7, al, d, l, ws, ls, rfl, n7.gh, hAl, fun tv G8 H8 n8 htold => ?_⟩
    have hL8 := hL7.go n8 (by simp)
    have hK8 := hK7.go n8 (by simp)
    have hA8 := hAl.go n8 (by simp) (by simp) (by simp)
    have hp8 := hp7.go n8 (by simp)
    walk_at "sx"
    refine ⟨fun σ' H' => ∃ G', Nx [] G8 H8 G' H' ∧ σ' = [some (.ref a), some (.ref pl), some (.ref p), some (.ref r), some (.ref al), some tv, none, none, none, none, none, none, none, none, none, none, none, none, none, none], ?_, ?_⟩
    · walk_at "sx"
      refine ⟨G8, al, d, l, ws, ls, tv, rfl, n8.gh, hA8, n1a, n1b, ?_⟩
      generalize hla : layAns ws ls = la at htold
      obtain ⟨tt, tx, rfl, htold⟩ := htold
      cases la with
      | ring w =>
        obtain ⟨hT, hW⟩ := htold
        obtain ⟨hj, hwo⟩ := told_judR hok evn.symm hall okg hnd hlk2 hla
        have hwl := told_len hok evn.symm hall okg hnd hla
        refine .inr (.inr (.inl ⟨.tuple [.str "ring", wayD w], .tup hT (.cons (.str _) (.cons hW .nil)), fit_tuple (by show 2 ≤ 100000; decide) fun x hx => ?_, fun z hz => ?_, fun G' H' n => ?_⟩))
        · simp only [List.mem_cons, List.not_mem_nil, or_false] at hx
          rcases hx with rfl | rfl
          · exact by decide +kernel
          · exact fit_way (by omega)
        · have h2 : (PyData.str "ring") = .str "laid" := by
            injection hz with hz
            injection hz
          injection h2 with h2
          exact absurd h2 (by decide +kernel)
        · have : judB ls (.tuple [.str "ring", wayD w]) = true := by
            show (decide (("ring" : Str) = "ring") && judR ls (wayD w)) = true
            rw [hj]
            simp
          rw [this]
          walk_at "sx"
          refine g_ndec (fun z => absurd rfl z) (fun _ => ?_)
          walk_at "sx"
          exact ⟨G', n, rfl⟩
      | laid md =>
        obtain ⟨dd, rfl, hT, hD⟩ := htold
        obtain ⟨rfl, hlw⟩ := told_laid hok evn.symm hall okg hnd hlk2 hla
        have eM : layM (nm.map fun n => (n, plOf ws ls n)) = frM nm (plOf ws ls) := by
          unfold layM frM
          rw [List.map_map]
          rfl
        rw [eM] at hD
        refine .inl ⟨tt, dd, _, rfl, hT, hD, fun G' H' n => ?_⟩
        rw [lay_law (P := plOf ws ls) (evn ▸ hok) n1b hlk2 (by simp [frM, wsl]) (fun s hs => gt_fr (evn ▸ hs)), hlw]
        walk_at "sx"
        refine g_ndec (fun z => absurd rfl z) (fun _ => ?_)
        walk_at "sx"
        exact ⟨G', n, rfl⟩
    rintro σ' H9 ⟨G9, n9, rfl⟩
    exact hR _ a pl p r al d l tv nm ls ws G9 H9 n9.gh (hL8.go n9 (by simp)) (hK8.go n9 (by simp)) (hA8.go n9 (by simp) (by simp) (by simp)) (hp8.go n9 (by simp)) (htold.go n9 (fun _ _ z => nomatch z)) hppl hrpl hap hnd (by omega) hnl hlsl hss evn ok hall hok okg q
end
end A
set_option maxHeartbeats 0
namespace A
open PySem PySem.Spec PyProof.Rows L2 Y
theorem tx {K : PySem.W.Frag} {w : World} {h : Heap} {mg : Str → Option Value} (X : K.In h) (G : h.Ns mainGlobals mg) (c : He.SaysX fa fn [] [] bx w h K) : Tx fa fn bx K mg := ⟨congrArg Prod.fst c.t, c.more, h, X, G⟩
theorem bindsLaw {K : PySem.W.Frag} {mg : Str → Option Value} (T : Tx fa fn bx K mg) (s : Shared) (v : Value) : BindsTo s (fdOf K (He.ga K "law")) ⟨[v], []⟩ [("script", v)] :=
  FunD.bindsA (ps := ["script"]) (F_law T) (fun _ _ _ _ _ _ us hl => match us, hl with | [_], _ => rfl) s [v] rfl
end A
open PySem PySem.W PySem.Calls PyProof.Rows
theorem PySem.Challenge.cw_laidviews_k35_papers_of_layings_holds : PySem.Challenge.rw_laidviews_k35_papers_of_layings.Holds := by
  w_on; o_law
  refine HandSHeadRun.head_any (r := A.R) (q := view A.R.prog [75]) (H := A.hk) (ob := A.ob) (M := 6000) (loose := A.loose) (d := HandSHeadRun.topDef A.R.prog 75) (kwd := []) A.ob_eq
    (by kernel_rfl) (fun s => by kernel_rfl) A.run (by kernel_rfl) (by kernel_rfl) (by kernel_rfl) (by rfl) (by first | assumption | decide +kernel) (by decide +kernel) ⟨rfl, rfl, rfl, rfl, rfl, by decide +kernel⟩ ?hw ?hc
  case hw => w_witness2
  case hc =>
    refine L2.walk_ofE (l := PySem.Challenge.rw_laidviews_k35_papers_of_layings) (n := 63) (k := 9) (x := "script") (CX := L2.CX0) rfl (by decide) (by kernel_rfl) ⟨rfl, by decide, by decide⟩ ?F (fun _ _ _ _ z => z)
    intro w mg f h Z G hmg0
    obtain ⟨K, KX, c⟩ := Z
    have T := A.tx KX G c
    have hmg : mg ("law" : PySem.Str) = some (.ref f) := by
      have e : (HandSHeadRun.topDef A.R.prog 75).name = ("law" : PySem.Str) := by kernel_rfl
      rw [← e]
      exact hmg0
    have e := hmg.symm.trans (A.cal_law T).g
    cases e
    exact ⟨K, _, A.sp_law K, KX, A.bindsLaw T, fun H a ns hl _ hS => ⟨H, a, ns, rfl, Y.Ex.refl H, hS,  fun _ => rfl⟩, fun base _ _ => A.ok_law T⟩

