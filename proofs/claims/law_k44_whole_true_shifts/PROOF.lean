import PyProof.Rows.All
import Wide.All
import OpenK.AllK
import Wide.FinOn
import PySem.Challenge.RW_laidviews_k44_whole_true_shifts
import HandS.ForMost
import HandS.Exc
import HandS.TryOnly
import HandS.TryMany
import HandS.ExcInit
import HandS.ExcInitHot
import HandS.ExcField
import HandS.ExcIs
import HandS.RaiseFrom
import HandS.SuiteRaise
import HandS.Style
import HandS.IsInst
import HandS.TupMul
import HandS.TupAny
import HandS.Flow
import HandS.FStr
import HandS.More
import HandS.Deep
import HandS.WordsExc
import HandS.Defaults
import HandS.Head0
import HandS.Head1
import HandS.Head2
import HandS.HeadEnd
import HandS.HeadHook1
import HandS.HeadHook2
import HandS.HeadHook3
import HandS.HeadHook4
import HandS.HeadWalk
import KE.GoesEnum
import KE.GoesMore
import HandS.SortInts
import HandS.Zip
import KE.GoesComp
import KE.GoesRaise
import HandS.Evl
import HandS.Conv
import HandS.Dict
import HandS.Iter
import HandS.ListItems
import HandS.Sort
import KE.KDictList
import HandS.WordsDict
import PyProof.StrLawsAffix
import PyProof.StrLawsTight
import PyProof.Rows.StrItems
import KE.IntText
import HandS.RaiseMore
import HandS.Star
import HandS.StrMore
import HandS.DictComp
import PyProof.DictUpdate
import HandS.SortKw
import HandS.Slots
import HandS.Rev
import KE.KMinBuiltin
import HandS.DictEq
import HandS.DeepEq
import HandS.OwnEq
import HandS.RevTup
import PyProof.ListNew
import PyProof.CollectWalk
import HandS.Strs
import HandS.Lambda
import KE.SortUse
import KE.SortKeyHeap
import KE.KDictCopyH
import HandS.TupLen
import HandS.EndTab
import KE.KDictWalk
import HandS.DictTup
import KE.KDictSum
import HandS.SetFor
import HandS.SetBool
import HandS.ExcOwn
import KE.SortData
set_option Elab.async false
set_option linter.all false
set_option maxRecDepth 100000
set_option maxHeartbeats 4000000
namespace Y
open PySem PySem.Spec PyProof.Rows L2
/-- what the text says of such a class -/
def exB (K : PySem.W.Frag) (C : Addr) (f : Str) : Bool :=
  (match K.lookup C with
    | some ⟨.type "type", _, .cls cd, sl⟩ => (match cd.mro, sl.toList with
      | .ref D :: bm, [_, _, _, _, some (.builtin n), _] => D == C && n == "ValueError.__new__" && !cd.hasDel && cd.hasDict && HandSPX.refsVE bm
      | _, _ => false)
    | _ => false) &&
  (decide (PySem.W.findIn K (.ref C) "__setattr__" = some (some (.builtin "object.__setattr__"))) && decide (PySem.W.subIn K (.ref C) (.type "BaseException") = some true) && decide (PySem.W.typeIn K (.ref C) = some (.type "type")) && PySem.W.keepIn K (.ref C)) &&
  (decide (PySem.W.findIn K (.ref C) "__getattribute__" = some (some (.builtin "BaseException.__getattribute__"))) && decide (PySem.W.findIn K (.ref C) "__getattr__" = some none) && PySem.W.hasDictIn K C) &&
  (decide (PySem.W.findIn K (.ref C) f = some none) && decide (PySem.W.findIn K (.ref C) "__init__" = some (some (.ref (He.ma K C "__init__")))) && decide (PySem.W.typeIn K (.ref (He.ma K C "__init__")) = some (.type "function"))) &&
  (decide (PySem.W.findIn K (.ref C) "__class__" = some (some (.builtin "object.__class__"))) && decide (PySem.W.specialIn K (.builtin "object.__class__") "__get__" = some (some (.builtin "getset_descriptor.__get__"))) &&
    decide (PySem.W.takesIn K (.builtin "object.__class__") = some true) && decide (PySem.W.mroIn K C (.type "object") = some true))

def tupB (K : PySem.W.Frag) (a : Addr) (ns : List Int) : Bool := match K.lookup a with
  | some ⟨.type "tuple", none, .seq its _, _⟩ => decide (its.toList.map (fun v => match v with | .int i _ => some i | _ => none) = ns.map some)
  | _ => false
end Y
namespace A
open PySem PySem.Spec PyProof.Rows L2 Y
def topS (i : Nat) : Stmt := PySem.Challenge.pw_laidviews_k44_whole_true_shifts.main.body.getD i (.Pass ⟨0, 0, 0, 0⟩)
abbrev s_is_whole : Stmt := topS 8
theorem sc_is_whole : FnScope ["value"] ["value"] (defScope s_is_whole) := ⟨rfl, rfl, rfl, by decide +kernel, rfl, by decide +kernel, by decide +kernel⟩
def d_is_whole : He.DefD := ⟨("is_whole", none), "is_whole", "is_whole", defArgs s_is_whole, defBody s_is_whole, defScope s_is_whole, [], []⟩
abbrev s_is_within : Stmt := topS 9
theorem sc_is_within : FnScope ["value", "least", "greatest"] ["value", "least", "greatest"] (defScope s_is_within) := ⟨rfl, rfl, rfl, by decide +kernel, rfl, by decide +kernel, by decide +kernel⟩
def d_is_within : He.DefD := ⟨("is_within", none), "is_within", "is_within", defArgs s_is_within, defBody s_is_within, defScope s_is_within, [], []⟩
abbrev s_is_reading : Stmt := topS 19
theorem sc_is_reading : FnScope ["value"] ["value"] (defScope s_is_reading) := ⟨rfl, rfl, rfl, by decide +kernel, rfl, by decide +kernel, by decide +kernel⟩
def d_is_reading : He.DefD := ⟨("is_reading", none), "is_reading", "is_reading", defArgs s_is_reading, defBody s_is_reading, defScope s_is_reading, [], []⟩
abbrev s__is_row : Stmt := topS 20
theorem sc__is_row : FnScope ["value", "reading"] ["value"] (defScope s__is_row) := ⟨rfl, rfl, rfl, by decide +kernel, rfl, by decide +kernel, by decide +kernel⟩
def d__is_row : He.DefD := ⟨("_is_row", none), "_is_row", "_is_row", defArgs s__is_row, defBody s__is_row, defScope s__is_row, [], []⟩
abbrev s__is_rows : Stmt := topS 21
theorem sc__is_rows : FnScope ["value", "row"] ["value"] (defScope s__is_rows) := ⟨rfl, rfl, rfl, by decide +kernel, rfl, by decide +kernel, by decide +kernel⟩
def d__is_rows : He.DefD := ⟨("_is_rows", none), "_is_rows", "_is_rows", defArgs s__is_rows, defBody s__is_rows, defScope s__is_rows, [], []⟩
abbrev s_is_name : Stmt := topS 18
theorem sc_is_name : FnScope ["value", "sign"] ["value"] (defScope s_is_name) := ⟨rfl, rfl, rfl, by decide +kernel, rfl, by decide +kernel, by decide +kernel⟩
def d_is_name : He.DefD := ⟨("is_name", none), "is_name", "is_name", defArgs s_is_name, defBody s_is_name, defScope s_is_name, [], []⟩
abbrev s_is_tuple_of : Stmt := topS 10
theorem sc_is_tuple_of : FnScope ["value", "length"] ["value", "length"] (defScope s_is_tuple_of) := ⟨rfl, rfl, rfl, by decide +kernel, rfl, by decide +kernel, by decide +kernel⟩
def d_is_tuple_of : He.DefD := ⟨("is_tuple_of", none), "is_tuple_of", "is_tuple_of", defArgs s_is_tuple_of, defBody s_is_tuple_of, defScope s_is_tuple_of, [], []⟩
abbrev s_is_view : Stmt := topS 22
theorem sc_is_view : FnScope ["value"] ["value"] (defScope s_is_view) := ⟨rfl, rfl, rfl, by decide +kernel, rfl, by decide +kernel, by decide +kernel⟩
def d_is_view : He.DefD := ⟨("is_view", none), "is_view", "is_view", defArgs s_is_view, defBody s_is_view, defScope s_is_view, [], []⟩
abbrev s_is_link : Stmt := topS 29
theorem sc_is_link : FnScope ["value", "one", "two", "dx", "dy", "light"] ["value"] (defScope s_is_link) := ⟨rfl, rfl, rfl, by decide +kernel, rfl, by decide +kernel, by decide +kernel⟩
def d_is_link : He.DefD := ⟨("is_link", none), "is_link", "is_link", defArgs s_is_link, defBody s_is_link, defScope s_is_link, [], []⟩
abbrev s_Album___init__ : Stmt := inClass (topS 30) 0
theorem sc_Album___init__ : FnScope ["self"] ["self"] (defScope s_Album___init__) := ⟨rfl, rfl, rfl, by decide +kernel, rfl, by decide +kernel, by decide +kernel⟩
def d_Album___init__ : He.DefD := ⟨("Album", some "__init__"), "__init__", "Album.__init__", defArgs s_Album___init__, defBody s_Album___init__, defScope s_Album___init__, [], []⟩
abbrev s_Unknown___init__ : Stmt := inClass (topS 3) 0
theorem sc_Unknown___init__ : FnScope ["self", "name"] ["self", "name"] (defScope s_Unknown___init__) := ⟨rfl, rfl, rfl, by decide +kernel, rfl, by decide +kernel, by decide +kernel⟩
def d_Unknown___init__ : He.DefD := ⟨("Unknown", some "__init__"), "__init__", "Unknown.__init__", defArgs s_Unknown___init__, defBody s_Unknown___init__, defScope s_Unknown___init__, [], []⟩
abbrev s_Album__check_known : Stmt := inClass (topS 30) 11
theorem sc_Album__check_known : FnScope ["self", "name"] ["self", "name"] (defScope s_Album__check_known) := ⟨rfl, rfl, rfl, by decide +kernel, rfl, by decide +kernel, by decide +kernel⟩
def d_Album__check_known : He.DefD := ⟨("Album", some "_check_known"), "_check_known", "Album._check_known", defArgs s_Album__check_known, defBody s_Album__check_known, defScope s_Album__check_known, [], []⟩
abbrev s_Misused___init__ : Stmt := inClass (topS 6) 0
theorem sc_Misused___init__ : FnScope ["self", "why"] ["self", "why"] (defScope s_Misused___init__) := ⟨rfl, rfl, rfl, by decide +kernel, rfl, by decide +kernel, by decide +kernel⟩
def d_Misused___init__ : He.DefD := ⟨("Misused", some "__init__"), "__init__", "Misused.__init__", defArgs s_Misused___init__, defBody s_Misused___init__, defScope s_Misused___init__, [], []⟩
abbrev s_Oversized___init__ : Stmt := inClass (topS 5) 0
theorem sc_Oversized___init__ : FnScope ["self", "limit"] ["self", "limit"] (defScope s_Oversized___init__) := ⟨rfl, rfl, rfl, by decide +kernel, rfl, by decide +kernel, by decide +kernel⟩
def d_Oversized___init__ : He.DefD := ⟨("Oversized", some "__init__"), "__init__", "Oversized.__init__", defArgs s_Oversized___init__, defBody s_Oversized___init__, defScope s_Oversized___init__, [], []⟩
abbrev s_Album_add_link : Stmt := inClass (topS 30) 2
theorem sc_Album_add_link : FnScope ["self", "link", "name"] ["self", "link"] (defScope s_Album_add_link) := ⟨rfl, rfl, rfl, by decide +kernel, rfl, by decide +kernel, by decide +kernel⟩
def d_Album_add_link : He.DefD := ⟨("Album", some "add_link"), "add_link", "Album.add_link", defArgs s_Album_add_link, defBody s_Album_add_link, defScope s_Album_add_link, [], []⟩
abbrev s_Clashing___init__ : Stmt := inClass (topS 4) 0
theorem sc_Clashing___init__ : FnScope ["self", "name"] ["self", "name"] (defScope s_Clashing___init__) := ⟨rfl, rfl, rfl, by decide +kernel, rfl, by decide +kernel, by decide +kernel⟩
def d_Clashing___init__ : He.DefD := ⟨("Clashing", some "__init__"), "__init__", "Clashing.__init__", defArgs s_Clashing___init__, defBody s_Clashing___init__, defScope s_Clashing___init__, [], []⟩
abbrev s_Album_add_view : Stmt := inClass (topS 30) 1
theorem sc_Album_add_view : FnScope ["self", "view", "name"] ["self", "view"] (defScope s_Album_add_view) := ⟨rfl, rfl, rfl, by decide +kernel, rfl, by decide +kernel, by decide +kernel⟩
def d_Album_add_view : He.DefD := ⟨("Album", some "add_view"), "add_view", "Album.add_view", defArgs s_Album_add_view, defBody s_Album_add_view, defScope s_Album_add_view, [], []⟩
abbrev s__law_wide : Stmt := topS 48
theorem sc__law_wide : FnScope ["script", "k", "cell", "mixed"] ["script", "k"] (defScope s__law_wide) := ⟨rfl, rfl, rfl, by decide +kernel, rfl, by decide +kernel, by decide +kernel⟩
def d__law_wide : He.DefD := ⟨("_law_wide", none), "_law_wide", "_law_wide", defArgs s__law_wide, defBody s__law_wide, defScope s__law_wide, [], []⟩
abbrev s__law_take : Stmt := topS 49
theorem sc__law_take : FnScope ["pool", "most", "taken"] ["pool", "most"] (defScope s__law_take) := ⟨rfl, rfl, rfl, by decide +kernel, rfl, by decide +kernel, by decide +kernel⟩
def d__law_take : He.DefD := ⟨("_law_take", none), "_law_take", "_law_take", defArgs s__law_take, defBody s__law_take, defScope s__law_take, [], []⟩
abbrev s__law_name : Stmt := topS 51
theorem sc__law_name : FnScope ["pool", "letters", "name", "k"] ["pool"] (defScope s__law_name) := ⟨rfl, rfl, rfl, by decide +kernel, rfl, by decide +kernel, by decide +kernel⟩
def d__law_name : He.DefD := ⟨("_law_name", none), "_law_name", "_law_name", defArgs s__law_name, defBody s__law_name, defScope s__law_name, [], []⟩
abbrev s__law_names : Stmt := topS 52
theorem sc__law_names : FnScope ["pool", "count", "names", "k", "name"] ["pool", "count"] (defScope s__law_names) := ⟨rfl, rfl, rfl, by decide +kernel, rfl, by decide +kernel, by decide +kernel⟩
def d__law_names : He.DefD := ⟨("_law_names", none), "_law_names", "_law_names", defArgs s__law_names, defBody s__law_names, defScope s__law_names, [], []⟩
abbrev s__law_pool : Stmt := topS 50
theorem sc__law_pool : FnScope ["script"] ["script"] (defScope s__law_pool) := ⟨rfl, rfl, rfl, by decide +kernel, rfl, by decide +kernel, by decide +kernel⟩
def d__law_pool : He.DefD := ⟨("_law_pool", none), "_law_pool", "_law_pool", defArgs s__law_pool, defBody s__law_pool, defScope s__law_pool, [], []⟩
abbrev s_Album_names : Stmt := inClass (topS 30) 8
theorem sc_Album_names : FnScope ["self"] ["self"] (defScope s_Album_names) := ⟨rfl, rfl, rfl, by decide +kernel, rfl, by decide +kernel, by decide +kernel⟩
def d_Album_names : He.DefD := ⟨("Album", some "names"), "names", "Album.names", defArgs s_Album_names, defBody s_Album_names, defScope s_Album_names, [], []⟩
abbrev s_Album_links : Stmt := inClass (topS 30) 9
theorem sc_Album_links : FnScope ["self"] ["self"] (defScope s_Album_links) := ⟨rfl, rfl, rfl, by decide +kernel, rfl, by decide +kernel, by decide +kernel⟩
def d_Album_links : He.DefD := ⟨("Album", some "links"), "links", "Album.links", defArgs s_Album_links, defBody s_Album_links, defScope s_Album_links, [], []⟩
abbrev s__links_between : Stmt := topS 38
theorem sc__links_between : FnScope ["album", "names", "links", "number", "link"] ["album", "names"] (defScope s__links_between) := ⟨rfl, rfl, rfl, by decide +kernel, rfl, by decide +kernel, by decide +kernel⟩
def d__links_between : He.DefD := ⟨("_links_between", none), "_links_between", "_links_between", defArgs s__links_between, defBody s__links_between, defScope s__links_between, [], []⟩
abbrev s__steps_at : Stmt := topS 39
theorem sc__steps_at : FnScope ["names", "links", "steps", "number", "link", "name", "one", "two"] ["names", "links"] (defScope s__steps_at) := ⟨rfl, rfl, rfl, by decide +kernel, rfl, by decide +kernel, by decide +kernel⟩
def d__steps_at : He.DefD := ⟨("_steps_at", none), "_steps_at", "_steps_at", defArgs s__steps_at, defBody s__steps_at, defScope s__steps_at, [], []⟩
abbrev s__place_behind : Stmt := topS 37
theorem sc__place_behind : FnScope ["place", "link", "forward", "x", "y", "light", "dx", "dy", "more"] ["place", "link", "forward"] (defScope s__place_behind) := ⟨rfl, rfl, rfl, by decide +kernel, rfl, by decide +kernel, by decide +kernel⟩
def d__place_behind : He.DefD := ⟨("_place_behind", none), "_place_behind", "_place_behind", defArgs s__place_behind, defBody s__place_behind, defScope s__place_behind, [], []⟩
abbrev s__walks_from : Stmt := topS 40
theorem sc__walks_from : FnScope ["start", "links", "steps", "walks", "found", "further", "name", "way", "place", "number", "forward", "other"] ["start", "links", "steps"] (defScope s__walks_from) := ⟨rfl, rfl, rfl, by decide +kernel, rfl, by decide +kernel, by decide +kernel⟩
def d__walks_from : He.DefD := ⟨("_walks_from", none), "_walks_from", "_walks_from", defArgs s__walks_from, defBody s__walks_from, defScope s__walks_from, [], []⟩
abbrev s__law_reading : Stmt := topS 53
theorem sc__law_reading : FnScope ["pool"] ["pool"] (defScope s__law_reading) := ⟨rfl, rfl, rfl, by decide +kernel, rfl, by decide +kernel, by decide +kernel⟩
def d__law_reading : He.DefD := ⟨("_law_reading", none), "_law_reading", "_law_reading", defArgs s__law_reading, defBody s__law_reading, defScope s__law_reading, [], []⟩
abbrev s__law_rows : Stmt := topS 54
theorem sc__law_rows : FnScope ["pool", "most", "width", "height", "y", "x"] ["pool", "most"] (defScope s__law_rows) := ⟨rfl, rfl, rfl, by decide +kernel, rfl, by decide +kernel, by decide +kernel⟩
def d__law_rows : He.DefD := ⟨("_law_rows", none), "_law_rows", "_law_rows", defArgs s__law_rows, defBody s__law_rows, defScope s__law_rows, [], []⟩
abbrev s_groups : Stmt := topS 43
theorem sc_groups : FnScope ["album", "names", "links", "steps", "found", "placed", "name", "walks", "other"] ["album"] (defScope s_groups) := ⟨rfl, rfl, rfl, by decide +kernel, rfl, by decide +kernel, by decide +kernel⟩
def d_groups : He.DefD := ⟨("groups", none), "groups", "groups", defArgs s_groups, defBody s_groups, defScope s_groups, [], []⟩
abbrev s_joined : Stmt := topS 45
theorem sc_joined : FnScope ["names", "answers", "rings", "places", "_", "laying", "kind", "told", "name"] ["names", "answers"] (defScope s_joined) := ⟨rfl, rfl, rfl, by decide +kernel, rfl, by decide +kernel, by decide +kernel⟩
def d_joined : He.DefD := ⟨("joined", none), "joined", "joined", defArgs s_joined, defBody s_joined, defScope s_joined, [], []⟩
abbrev s_Album_index : Stmt := inClass (topS 30) 6
theorem sc_Album_index : FnScope ["self", "name"] ["self", "name"] (defScope s_Album_index) := ⟨rfl, rfl, rfl, by decide +kernel, rfl, by decide +kernel, by decide +kernel⟩
def d_Album_index : He.DefD := ⟨("Album", some "index"), "index", "Album.index", defArgs s_Album_index, defBody s_Album_index, defScope s_Album_index, [], []⟩
abbrev s__backwards : Stmt := topS 41
theorem sc__backwards : FnScope ["way", "number", "forward"] ["way"] (defScope s__backwards) := ⟨rfl, rfl, rfl, by decide +kernel, rfl, by decide +kernel, by decide +kernel⟩
def d__backwards : He.DefD := ⟨("_backwards", none), "_backwards", "_backwards", defArgs s__backwards, defBody s__backwards, defScope s__backwards, [], []⟩
abbrev s__rings_from : Stmt := topS 42
theorem sc__rings_from : FnScope ["start", "links", "steps", "walks", "rings", "number", "link", "way", "place", "other_way", "other_place"] ["start", "links", "steps"] (defScope s__rings_from) := ⟨rfl, rfl, rfl, by decide +kernel, rfl, by decide +kernel, by decide +kernel⟩
def d__rings_from : He.DefD := ⟨("_rings_from", none), "_rings_from", "_rings_from", defArgs s__rings_from, defBody s__rings_from, defScope s__rings_from, [], []⟩
abbrev s_lay_group : Stmt := topS 44
theorem sc_lay_group : FnScope ["album", "names", "ordered", "links", "steps", "rings", "name", "first", "number", "walks"] ["album", "names"] (defScope s_lay_group) := ⟨rfl, rfl, rfl, by decide +kernel, rfl, by decide +kernel, by decide +kernel⟩
def d_lay_group : He.DefD := ⟨("lay_group", none), "lay_group", "lay_group", defArgs s_lay_group, defBody s_lay_group, defScope s_lay_group, [], []⟩
abbrev s_lay : Stmt := topS 46
theorem sc_lay : FnScope ["album", "names"] ["album"] (defScope s_lay) := ⟨rfl, rfl, rfl, by decide +kernel, rfl, by decide +kernel, by decide +kernel⟩
def d_lay : He.DefD := ⟨("lay", none), "lay", "lay", defArgs s_lay, defBody s_lay, defScope s_lay, [], []⟩
abbrev s_readings : Stmt := topS 23
theorem sc_readings : FnScope ["view", "found", "y", "row", "x", "reading"] ["view"] (defScope s_readings) := ⟨rfl, rfl, rfl, by decide +kernel, rfl, by decide +kernel, by decide +kernel⟩
def d_readings : He.DefD := ⟨("readings", none), "readings", "readings", defArgs s_readings, defBody s_readings, defScope s_readings, [], []⟩
abbrev s_link_of : Stmt := topS 34
theorem sc_link_of : FnScope ["one", "two", "fit"] ["one", "two", "fit"] (defScope s_link_of) := ⟨rfl, rfl, rfl, by decide +kernel, rfl, by decide +kernel, by decide +kernel⟩
def d_link_of : He.DefD := ⟨("link_of", none), "link_of", "link_of", defArgs s_link_of, defBody s_link_of, defScope s_link_of, [], []⟩
abbrev s__tallies : Stmt := topS 32
theorem sc__tallies : FnScope ["one", "two", "tallies", "x", "y", "reading", "other_x", "other_y", "other_reading", "tally", "light"] ["one", "two"] (defScope s__tallies) := ⟨rfl, rfl, rfl, by decide +kernel, rfl, by decide +kernel, by decide +kernel⟩
def d__tallies : He.DefD := ⟨("_tallies", none), "_tallies", "_tallies", defArgs s__tallies, defBody s__tallies, defScope s__tallies, [], []⟩
abbrev s_fits : Stmt := topS 33
theorem sc_fits : FnScope ["one", "two", "reach", "errors", "least", "found", "tally", "many", "wrongs", "dx", "dy", "light"] ["one", "two", "reach", "errors", "least"] (defScope s_fits) := ⟨rfl, rfl, rfl, by decide +kernel, rfl, by decide +kernel, by decide +kernel⟩
def d_fits : He.DefD := ⟨("fits", none), "fits", "fits", defArgs s_fits, defBody s_fits, defScope s_fits, [], []⟩
abbrev s_law : Stmt := topS 55
theorem sc_law : FnScope ["script", "pool", "truth", "k", "names", "places", "views", "one", "two", "moves", "shared", "wrong", "y", "fit", "found", "album", "due", "width", "height", "rows", "row", "x", "j", "right", "below"] ["script"] (defScope s_law) := ⟨rfl, rfl, rfl, by decide +kernel, rfl, by decide +kernel, by decide +kernel⟩
def d_law : He.DefD := ⟨("law", none), "law", "law", defArgs s_law, defBody s_law, defScope s_law, [], []⟩
def fn : List He.DefD := [d_is_whole, d_is_within, d_is_reading, d__is_row, d__is_rows, d_is_name, d_is_tuple_of, d_is_view, d_is_link, d_Album___init__, d_Unknown___init__, d_Album__check_known, d_Misused___init__, d_Oversized___init__, d_Album_add_link, d_Clashing___init__, d_Album_add_view, d__law_wide, d__law_take, d__law_name, d__law_names, d__law_pool, d_Album_names, d_Album_links, d__links_between, d__steps_at, d__place_behind, d__walks_from, d__law_reading, d__law_rows, d_groups, d_joined, d_Album_index, d__backwards, d__rings_from, d_lay_group, d_lay, d_readings, d_link_of, d__tallies, d_fits, d_law]
def fa : List He.Fa := [He.Fa.free "isinstance", He.Fa.free "bool", He.Fa.free "int", He.Fa.free "len", He.Fa.free "tuple", He.Fa.free "str", He.Fa.int "LONGEST_NAME" (8), He.Fa.free "all", He.Fa.str "DIGITS" "0123456789", He.Fa.str "LETTERS" "abcdefghijklmnopqrstuvwxyz", He.Fa.int "GREATEST_READING" (999), He.Fa.int "MOST_COLUMNS" (12), He.Fa.int "MOST_ROWS" (12), He.Fa.free "enumerate", He.Fa.int "FARTHEST" (99), He.Fa.int "GREATEST_LIGHT" (999), He.Fa.glo "Misused", He.Fa.glo "Clashing", He.Fa.int "MOST_VIEWS" (30), He.Fa.glo "Oversized", He.Fa.cls "Album", He.Fa.meth "Album" "_check_known", He.Fa.int "MOST_LINKS" (60), He.Fa.meth "Album" "names", He.Fa.free "list", He.Fa.glo "Unknown", He.Fa.free "sum", He.Fa.free "max", He.Fa.free "abs", He.Fa.free "sorted", He.Fa.meth "Album" "links", He.Fa.glo "ORIGIN", He.Fa.free "reversed", He.Fa.free "min", He.Fa.meth "Album" "index", He.Fa.free "range", He.Fa.mkr "Album", He.Fa.glo "Album", He.Fa.meth "Album" "add_view", He.Fa.meth "Album" "add_link", He.Fa.noat "Album" "_views", He.Fa.noat "Album" "_links", He.Fa.glo "is_whole", He.Fa.glo "is_within", He.Fa.glo "is_reading", He.Fa.glo "_is_row", He.Fa.glo "_is_rows", He.Fa.glo "is_name", He.Fa.glo "is_tuple_of", He.Fa.glo "is_view", He.Fa.glo "is_link", He.Fa.glo "_law_wide", He.Fa.glo "_law_take", He.Fa.glo "_law_name", He.Fa.glo "_law_names", He.Fa.glo "_law_pool", He.Fa.glo "_links_between", He.Fa.glo "_steps_at", He.Fa.glo "_place_behind", He.Fa.glo "_walks_from", He.Fa.glo "_law_reading", He.Fa.glo "_law_rows", He.Fa.glo "groups", He.Fa.glo "joined", He.Fa.glo "_backwards", He.Fa.glo "_rings_from", He.Fa.glo "lay_group", He.Fa.glo "lay", He.Fa.glo "readings", He.Fa.glo "link_of", He.Fa.glo "_tallies", He.Fa.glo "fits", He.Fa.glo "law"]
def bxs (K : PySem.W.Frag) : List Bool := [exB K (He.ga K "Clashing") "name", exB K (He.ga K "Misused") "why", exB K (He.ga K "Oversized") "limit", exB K (He.ga K "Unknown") "name", Y.tupB K (He.ga K "ORIGIN") [(0), (0), (0)]]
def bx (K : PySem.W.Frag) : Bool := (bxs K).all id
set_option maxHeartbeats 0
abbrev R : PySem.W.OpenRow := PySem.W.OpenLaw.row PySem.Challenge.rw_laidviews_k44_whole_true_shifts
abbrev hk : PySem.W.Hook := He.hookX 4 fa fn [] [] bx
def ob (s : PySem.W.SharedT) : He.AlX := He.obsX 4 fa fn [] [] bx (HandSHeadRun.getT s)
theorem ob_eq (s : PySem.W.SharedT) : ob s = hk.obs s.abs := He.obsX_eq (HandSHeadRun.getT_eq s)
def loose : List Str := (["_wall", "Refused", "Unknown", "Clashing", "Oversized", "Misused", "is_whole", "is_within", "is_tuple_of", "LETTERS", "DIGITS", "LONGEST_NAME", "GREATEST_READING", "MOST_ROWS", "MOST_COLUMNS"] : List Str) ++ (["is_name", "is_reading", "_is_row", "_is_rows", "is_view", "readings", "MOST_VIEWS", "MOST_LINKS", "FARTHEST", "GREATEST_LIGHT", "is_link", "Album", "_tallies", "fits", "link_of"] : List Str) ++ (["ORIGIN", "_place_behind", "_links_between", "_steps_at", "_walks_from", "_backwards", "_rings_from", "groups", "lay_group", "joined", "lay", "_law_wide", "_law_take", "_law_pool", "_law_name"] : List Str) ++ (["_law_names", "_law_reading", "_law_rows"] : List Str)
theorem run (w : World) : HandSHeadRun.RunEq R (PySem.W.view R.prog [55]) hk ob 6000 loose w := by
  intro os
  kernel_rfl
set_option maxHeartbeats 4000000
end A

namespace Y
open PySem PySem.Spec PyProof.Rows L2

/-! ### what is known, and the heap -/
abbrev Ex (G H : Hp) : Prop := ∀ a o, G a = some o → H a = some o
theorem Ex.refl (H : Hp) : Ex H H := fun _ _ h => h
theorem Ex.trans {A B C : Hp} (a : Ex A B) (b : Ex B C) : Ex A C := fun x o h => b x o (a x o h)
theorem Ex.new {H : Hp} {p : Addr} {o : HO} (h : H p = none) : Ex H (upd H p o) := fun a u e => by
  rw [upd_ne (ne_of_none e h)]; exact e
theorem Ex.both {G H : Hp} {p : Addr} {o : HO} (e : Ex G H) : Ex (upd G p o) (upd H p o) := fun a u h => by
  by_cases q : a = p
  · subst q; rw [upd_same] at h ⊢; exact h
  · rw [upd_ne q] at h ⊢; exact e a u h
theorem Ex.out {G H : Hp} {p : Addr} {o : HO} (e : Ex G H) (h : G p = none) : Ex G (upd H p o) := fun a u q => by
  rw [upd_ne (ne_of_none q h)]; exact e a u q
theorem Ex.put {G H : Hp} {p : Addr} {o : HO} (e : Ex G H) (h : H p = some o) : Ex (upd G p o) H := fun a u q => by
  by_cases z : a = p
  · subst z; rw [upd_same] at q; rw [h]; exact q
  · rw [upd_ne z] at q; exact e a u q
theorem Ex.free {G H : Hp} (e : Ex G H) {p : Addr} (h : H p = none) : G p = none := by
  cases q : G p with
  | none => rfl
  | some o => rw [e p o q] at h; cases h
theorem Ex.seqL {K : PySem.W.Frag} {G H : Hp} (e : Ex G H) {a : Addr} {xs : List V} (h : SqL K G a xs) : SqL K H a xs := by
  rcases h with (h | ⟨o, h⟩) | h
  · exact .inl (.inl (e _ _ h))
  · exact .inl (.inr ⟨o, e _ _ h⟩)
  · exact .inr h
theorem Ex.seqT {K : PySem.W.Frag} {G H : Hp} (e : Ex G H) {a : Addr} {xs : List V} (h : SqT K G a xs) : SqT K H a xs := by
  rcases h with (h | ⟨o, h⟩) | h
  · exact .inl (.inl (e _ _ h))
  · exact .inl (.inr ⟨o, e _ _ h⟩)
  · exact .inr h

/-- a thing that may change: no tuple -/
def Own (H : Hp) (b : Addr) : Prop := ∃ o, H b = some o ∧ ∀ xs, o ≠ .tup xs
/-- a step: known part and heap, before and after; M: the cells that may change. What may change stays unknown; tuples may become known at any time. -/
structure Nx (M : List Addr) (G H G' H' : Hp) : Prop where
  gg : Ex G G'
  gh : Ex G' H'
  old : ∀ b, G b = none → Own H b → G' b = none
  live : ∀ b, H b ≠ none → H' b ≠ none
  fr : ∀ b o, b ∉ M → H b = some o → H' b = some o
  nt : ∀ b, Own H b → Own H' b
section
variable {M M' : List Addr} {G H G' H' G1 H1 G2 H2 : Hp} {p : Addr} {o : HO}
theorem Own.live (h : Own H p) : H p ≠ none := by
  obtain ⟨o, e, _⟩ := h
  rw [e]; exact fun z => nomatch z
theorem Own.ne (h : Own H p) {b : Addr} (hb : H b = none) : p ≠ b := fun z => h.live (by rw [z]; exact hb)
theorem Nx.refl (e : Ex G H) : Nx M G H G H := ⟨Ex.refl _, e, fun _ h _ => h, fun _ h => h, fun _ _ _ h => h, fun _ h => h⟩
theorem Nx.trans (a : Nx M G H G1 H1) (b : Nx M G1 H1 G2 H2) : Nx M G H G2 H2 :=
  ⟨a.gg.trans b.gg, b.gh, fun c h1 h2 => b.old c (a.old c h1 h2) (a.nt c h2), fun c h => b.live c (a.live c h), fun c o hc h => b.fr c o hc (a.fr c o hc h), fun c h => b.nt c (a.nt c h)⟩
theorem Nx.mono (a : Nx M G H G' H') (h : ∀ x, x ∈ M → x ∈ M') : Nx M' G H G' H' := ⟨a.gg, a.gh, a.old, a.live, fun c o hc q => a.fr c o (fun z => hc (h c z)) q, a.nt⟩
theorem Nx.pure (a : Nx [] G H G' H') : Nx M G H G' H' := a.mono fun _ z => absurd z (by simp)
theorem live_new (h : H p = none) : ∀ b, H b ≠ none → (upd H p o) b ≠ none := fun b q => by
  have z : b ≠ p := fun z => q (by rw [z]; exact h)
  rw [upd_ne z]; exact q
theorem own_new (h : H p = none) : ∀ b, Own H b → Own (upd H p o) b := fun b ⟨u, e, k⟩ => ⟨u, by rw [upd_ne (ne_of_none e h)]; exact e, k⟩
/-- a new object that is known from then on -/
theorem Nx.new (e : Ex G H) (h : H p = none) : Nx [] G H (upd G p o) (upd H p o) :=
  ⟨Ex.new (e.free h), e.both, fun b q1 q2 => by rw [upd_ne (q2.ne h)]; exact q1, live_new h, fun c u _ q => by rw [upd_ne (ne_of_none q h)]; exact q, own_new h⟩
/-- a new object that may change -/
theorem Nx.own (e : Ex G H) (h : H p = none) : Nx [] G H G (upd H p o) :=
  ⟨Ex.refl _, e.out (e.free h), fun _ q _ => q, live_new h, fun c u _ q => by rw [upd_ne (ne_of_none q h)]; exact q, own_new h⟩
/-- a change -/
theorem Nx.set (e : Ex G H) (h : G p = none) (hp : p ∈ M) (ho : ∀ xs, o ≠ .tup xs := by exact fun _ z => nomatch z) : Nx M G H G (upd H p o) :=
  ⟨Ex.refl _, e.out h, fun _ q _ => q, fun b q => by
    by_cases z : b = p
    · subst z; rw [upd_same]; exact fun w => nomatch w
    · rw [upd_ne z]; exact q, fun c u hc q => by rw [upd_ne (fun z => hc (by rw [z]; exact hp))]; exact q, fun b ⟨u, e1, k⟩ => by
    by_cases z : b = p
    · subst z; exact ⟨o, upd_same, ho⟩
    · exact ⟨u, by rw [upd_ne z]; exact e1, k⟩⟩
/-- a cell that was new need not be told -/
theorem Nx.drop (a : Nx (p :: M) G H G' H') (h : H p = none) : Nx M G H G' H' := ⟨a.gg, a.gh, a.old, a.live, fun c u hc q => a.fr c u (fun z => by
  rcases List.mem_cons.mp z with z | z
  · rw [z, h] at q; cases q
  · exact hc z) q, a.nt⟩
/-- what stands is known from now on -/
theorem Nx.know (a : Nx M G H G' H') (h : H p = none) (q : H' p = some o) (g : G' p = none) : Nx M G H (upd G' p o) H' :=
  ⟨a.gg.trans (Ex.new g), a.gh.put q, fun b h1 h2 => by rw [upd_ne (h2.ne h)]; exact a.old b h1 h2, a.live, a.fr, a.nt⟩
/-- a tuple is known from now on -/
theorem Nx.knowT {xs : List V} (a : Nx M G H G' H') (q : H' p = some (.tup xs)) (g : G' p = none) : Nx M G H (upd G' p (.tup xs)) H' :=
  ⟨a.gg.trans (Ex.new g), a.gh.put q, fun b h1 h2 => by
    have z : b ≠ p := fun z => by
      obtain ⟨u, e, k⟩ := a.nt b h2
      rw [z, q] at e
      cases e
      exact k _ rfl
    rw [upd_ne z]; exact a.old b h1 h2, a.live, a.fr, a.nt⟩
theorem Nx.fresh (a : Nx M G H G' H') (h : H' p = none) : H p = none := by
  cases q : H p with
  | none => rfl
  | some o => exact absurd h (a.live p (by rw [q]; exact fun z => nomatch z))
end

/-! ### data -/
section
variable {K : PySem.W.Frag} {G G' H : Hp} {v : V} {vs ws : List V} {d : PyData} {ds es : List PyData}
mutual
theorem dp_mono (e : Ex G G') : ∀ {v : V} {d : PyData}, Dp K G v d → Dp K G' v d
  | _, _, .non => .non
  | _, _, .bl b => .bl b
  | _, _, .int i => .int i
  | _, _, .str x => .str x
  | _, _, .lst h a => .lst (e.seqL h) (dpAll_mono e a)
  | _, _, .tup h a => .tup (e.seqT h) (dpAll_mono e a)
theorem dpAll_mono (e : Ex G G') : ∀ {vs : List V} {ds : List PyData}, DpAll K G vs ds → DpAll K G' vs ds
  | _, _, .nil => .nil
  | _, _, .cons h t => .cons (dp_mono e h) (dpAll_mono e t)
end
theorem dpAll_len : ∀ {vs : List V} {ds : List PyData}, DpAll K G vs ds → vs.length = ds.length
  | _, _, .nil => rfl
  | _, _, .cons _ t => congrArg (· + 1) (dpAll_len t)
theorem dpAll_get : ∀ {vs : List V} {ds : List PyData} {i : Nat} {d : PyData}, DpAll K G vs ds → ds[i]? = some d → ∃ v, vs[i]? = some v ∧ Dp K G v d
  | _, _, 0, _, .cons h _, e => ⟨_, rfl, by cases (Option.some.inj e); exact h⟩
  | _, _, i + 1, _, .cons _ t, e => dpAll_get (i := i) t e
  | _, _, i, _, .nil, e => by simp at e
theorem dpAll_got : ∀ {vs : List V} {ds : List PyData} {i : Nat} {v : V}, DpAll K G vs ds → vs[i]? = some v → ∃ d, ds[i]? = some d ∧ Dp K G v d
  | _, _, 0, _, .cons h _, e => ⟨_, rfl, by cases (Option.some.inj e); exact h⟩
  | _, _, i + 1, _, .cons _ t, e => dpAll_got (i := i) t e
  | _, _, i, _, .nil, e => by simp at e
theorem dpAll_app : ∀ {vs ws : List V} {ds es : List PyData}, DpAll K G vs ds → DpAll K G ws es → DpAll K G (vs ++ ws) (ds ++ es)
  | _, _, _, _, .nil, h => h
  | _, _, _, _, .cons a t, h => .cons a (dpAll_app t h)
theorem dpAll_snoc (h : DpAll K G vs ds) (hv : Dp K G v d) : DpAll K G (vs ++ [v]) (ds ++ [d]) := dpAll_app h (.cons hv .nil)
theorem dpAll_take : ∀ {vs : List V} {ds : List PyData} (n : Nat), DpAll K G vs ds → DpAll K G (vs.take n) (ds.take n)
  | _, _, 0, _ => .nil
  | _, _, _ + 1, .nil => .nil
  | _, _, n + 1, .cons a t => .cons a (dpAll_take n t)
theorem dpAll_drop : ∀ {vs : List V} {ds : List PyData} (n : Nat), DpAll K G vs ds → DpAll K G (vs.drop n) (ds.drop n)
  | _, _, 0, h => h
  | _, _, _ + 1, .nil => .nil
  | _, _, n + 1, .cons _ t => dpAll_drop n t
theorem dp_int {i : Int} (h : Dp K G v (.int i)) : v = .int i := by cases h; rfl
theorem dp_bl {b : Bool} (h : Dp K G v (.bool b)) : v = .bl b := by cases h; rfl
theorem dp_str {x : Str} (h : Dp K G v (.str x)) : v = .str x := by cases h; rfl
theorem dp_non (h : Dp K G v .none) : v = .non := by cases h; rfl
theorem dp_tup (h : Dp K G v (.tuple ds)) : ∃ a vs, v = .ref a ∧ SqT K G a vs ∧ DpAll K G vs ds := by cases h; exact ⟨_, _, rfl, ‹_›, ‹_›⟩
theorem dp_lst (h : Dp K G v (.list ds)) : ∃ a vs, v = .ref a ∧ SqL K G a vs ∧ DpAll K G vs ds := by cases h; exact ⟨_, _, rfl, ‹_›, ‹_›⟩
theorem dp_nodict {kvs : List (PyData × PyData)} (h : Dp K G v (.dict kvs)) : False := by cases h
theorem dpAll_ints : ∀ ns : List Int, DpAll K G (ns.map V.int) (ns.map PyData.int)
  | [] => .nil
  | n :: r => .cons (.int n) (dpAll_ints r)
theorem dpAll_ints_inv : ∀ {ns : List Int} {vs : List V}, DpAll K G vs (ns.map PyData.int) → vs = ns.map V.int
  | [], _, h => by cases h; rfl
  | n :: r, _, h => by
    cases h with
    | cons a t =>
      cases a
      rw [dpAll_ints_inv t]; rfl
theorem dpAll_bools_inv : ∀ {ns : List Bool} {vs : List V}, DpAll K G vs (ns.map PyData.bool) → vs = ns.map V.bl
  | [], _, h => by cases h; rfl
  | n :: r, _, h => by
    cases h with
    | cons a t =>
      cases a
      rw [dpAll_bools_inv t]; rfl
/-- the type's name -/
def tyN : PyData → String
  | .none => "NoneType"
  | .bool _ => "bool"
  | .int _ => "int"
  | .str _ => "str"
  | .list _ => "list"
  | .tuple _ => "tuple"
  | .dict _ => "dict"
/-- isinstance with a built-in type -/
def isA (d : PyData) (n : String) : Bool := (kitB (tyN d) n).getD false
theorem ty_dp (h : Dp K H v d) : TyX K H v (.type (tyN d)) := by
  cases h with
  | non => exact .base .non
  | bl b => exact .base (.bl b)
  | int i => exact .base (.int i)
  | str x => exact .base (.str x)
  | lst hs _ =>
    rcases hs with (hs | ⟨o, hs⟩) | ⟨o, its, n, hs, hc, _⟩
    · exact .base (.lst hs)
    · exact .base (.frz hs)
    · exact .kList hs hc
  | tup hs _ =>
    rcases hs with (hs | ⟨o, hs⟩) | ⟨o, its, n, hs, hc, _⟩
    · exact .base (.tup hs)
    · exact .fTuple hs
    · exact .kTuple hs hc
end
end Y

namespace Y
open PySem PySem.Spec PyProof.Rows L2
section
variable {K : PySem.W.Frag} {σ : L2.St} {G H H' : Hp} {Q : VK} {D : Ends} {v x y : V} {d e : PyData} {ds es : List PyData} {ta tb te tc : TE} {ts tu tw : TS} {tt uu : TT} {ar : TA} {QA : List V → Hp → Prop} {QT : Bool → Hp → Prop} {i j : Int} {n : Nat}
/-! names, constants, statements -/
theorem g_var {k : Nat} (h : σ[k]? = some (some v)) (q : Q v H) : tVar k σ H Q := ⟨v, h, q⟩
theorem g_c (q : Q v H) : tC v σ H Q := q
theorem g_seq (q : ts { D with nx := tu D } σ H) : tSeq ts tu D σ H := q
theorem g_asg {g : TG} (q : te σ H fun x H1 => g x σ H1 D.nx) : tAsg te g D σ H := q
theorem g_name {k : Nat} {R : L2.St → Hp → Prop} (q : R (σ.set k (some v)) H) : gName k v σ H R := q
theorem g_ret (q : te σ H D.rt) : tRet te D σ H := q
theorem g_retN (q : D.rt .non H) : tRetN D σ H := q
theorem g_drop (q : te σ H fun _ H1 => D.nx σ H1) : tDrop te D σ H := q
theorem g_next (q : D.nx σ H) : tNext D σ H := q
theorem g_ifS (q : tt σ H fun b H1 => if b = true then ts D σ H1 else tu D σ H1) : tIfS tt ts tu D σ H := q
theorem g_ifE (q : tt σ H fun b H1 => if b = true then ta σ H1 Q else tb σ H1 Q) : tIf tt ta tb σ H Q := q
theorem g_nil (q : QA [] H) : tNil σ H QA := q
theorem g_cons (q : ta σ H fun x H1 => ar σ H1 fun xs H2 => QA (x :: xs) H2) : tCons ta ar σ H QA := q
theorem g_op {r : R2} (q : ta σ H fun x H1 => tb σ H1 fun y H2 => r x y H2 Q) : tOp r ta tb σ H Q := q
theorem g_un {r : V → Hp → VK → Prop} (q : ta σ H fun x H1 => r x H1 Q) : tUn r ta σ H Q := q
theorem g_cb {r : List V → Hp → VK → Prop} (q : ar σ H fun vs H1 => r vs H1 Q) : tCB r ar σ H Q := q
theorem g_call {sp : Sp} {dvs : List V} {E : XK} (q : ar σ H fun vs H1 => sp (vs ++ dvs) H1 Q E) : tCall sp dvs E ar σ H Q := q
/-! tests -/
theorem g_test (q : te σ H fun x H' => ∃ k, x = .bl k ∧ QT k H') : tTest te σ H QT := q
theorem g_tB (q : te σ H fun x H' => ∃ k, x = .bl k ∧ QT k H') : tB te σ H QT := q
theorem g_isbl {b : Bool} {P : Bool → Prop} (q : P b) : ∃ k, V.bl b = .bl k ∧ P k := ⟨b, rfl, q⟩
theorem g_and (q : tt σ H fun c H1 => if c = true then uu σ H1 QT else QT false H1) : tAnd tt uu σ H QT := q
theorem g_or (q : tt σ H fun c H1 => if c = true then QT true H1 else uu σ H1 QT) : tOr tt uu σ H QT := q
theorem g_not (q : tt σ H fun c H1 => QT (!c) H1) : tNot tt σ H QT := q
theorem g_andV (q : ta σ H fun x H1 => ∃ c, x = .bl c ∧ if c = true then tb σ H1 Q else Q (.bl false) H1) : tAndV ta tb σ H Q := q
theorem g_orV (q : ta σ H fun x H1 => ∃ c, x = .bl c ∧ if c = true then Q (.bl true) H1 else tb σ H1 Q) : tOrV ta tb σ H Q := q
theorem g_notV (q : ta σ H fun x H1 => ∃ c, x = .bl c ∧ Q (.bl (!c)) H1) : tNotV ta σ H Q := q
theorem g_chain {r r' : R2} (q : ta σ H fun x H1 => tb σ H1 fun y H2 => r x y H2 fun z H3 => ∃ k, z = .bl k ∧ (if k = true then tc σ H3 fun w' H4 => r' y w' H4 Q else Q (.bl false) H3)) : tChain r r' ta tb tc σ H Q := q
theorem g_isN (q : ta σ H fun x H1 => Q (.bl (decide (x = .non))) H1) : tIsN ta σ H Q := q
theorem g_notN (q : ta σ H fun x H1 => Q (.bl (!decide (x = .non))) H1) : tNotN ta σ H Q := q
theorem g_I0 {g : Int → Int → V} (q : Q (g i j) H) : rI0 g (.int i) (.int j) H Q := ⟨i, j, rfl, rfl, q⟩
theorem g_I {C : Int → Int → Prop} {g : Int → Int → V} (c : C i j) (q : Q (g i j) H) : rI C g (.int i) (.int j) H Q := ⟨i, j, rfl, rfl, c, q⟩
theorem g_U {g : Int → V} (q : Q (g i) H) : rU g (.int i) H Q := ⟨i, rfl, q⟩
theorem g_eq (h : scal x y = true) (q : Q (.bl (decide (x = y))) H) : rEq x y H Q := ⟨h, q⟩
theorem g_ne (h : scal x y = true) (q : Q (.bl (!decide (x = y))) H) : rNe x y H Q := ⟨h, q⟩
theorem g_eqII (q : Q (.bl (decide (i = j))) H) : rEq (.int i) (.int j) H Q := ⟨rfl, by
  have z : decide (V.int i = V.int j) = decide (i = j) := by simp
  rw [z]; exact q⟩
theorem g_eqSS {a b : Str} (q : Q (.bl (decide (a = b))) H) : rEq (.str a) (.str b) H Q := ⟨rfl, by
  have z : decide (V.str a = V.str b) = decide (a = b) := by simp
  rw [z]; exact q⟩
theorem g_neII (q : Q (.bl (!decide (i = j))) H) : rNe (.int i) (.int j) H Q := ⟨rfl, by
  have z : decide (V.int i = V.int j) = decide (i = j) := by simp
  rw [z]; exact q⟩
theorem g_neSS {a b : Str} (q : Q (.bl (!decide (a = b))) H) : rNe (.str a) (.str b) H Q := ⟨rfl, by
  have z : decide (V.str a = V.str b) = decide (a = b) := by simp
  rw [z]; exact q⟩
/-! over data -/
theorem g_isi {nm : String} {b : Bool} (e : Ex G H) (h : Dp K G x d) (hb : kitB (tyN d) nm = some b) (q : Q (.bl b) H) : rIsi K [x, .ty nm] H Q :=
  ⟨x, .ty nm, _, _, b, rfl, .ty nm, ty_dp (dp_mono e h), kit_ty hb, q⟩
theorem g_eqD (e : Ex G H) (hx : Dp K G x d) (hy : Dp K G y d') (s1 : SeqAt.shaped d = true) (s2 : SeqAt.shaped d' = true) (q : Q (.bl (PyData.eqv d d')) H) : rEqD K x y H Q :=
  ⟨d, d', dp_mono e hx, dp_mono e hy, s1, s2, q⟩
theorem g_neD (e : Ex G H) (hx : Dp K G x d) (hy : Dp K G y d') (s1 : SeqAt.shaped d = true) (s2 : SeqAt.shaped d' = true) (q : Q (.bl (!PyData.eqv d d')) H) : rNeD K x y H Q :=
  ⟨d, d', dp_mono e hx, dp_mono e hy, s1, s2, q⟩
theorem g_ixT {k : Nat} (e : Ex G H) (h : Dp K G x (.tuple ds)) (hi : ds[k]? = some d) (hj : i = (k : Int)) (q : ∀ v, Dp K G v d → Q v H) : rIxT K x (.int i) H Q := by
  obtain ⟨a, vs, rfl, hs, hd⟩ := dp_tup h
  obtain ⟨v, hv, hD⟩ := dpAll_get hd hi
  subst hj
  exact ⟨a, vs, _, v, rfl, rfl, e.seqT hs, atI_nat hv, q v hD⟩
theorem g_ixL {k : Nat} (e : Ex G H) (h : Dp K G x (.list ds)) (hi : ds[k]? = some d) (hj : i = (k : Int)) (q : ∀ v, Dp K G v d → Q v H) : rIxL K x (.int i) H Q := by
  obtain ⟨a, vs, rfl, hs, hd⟩ := dp_lst h
  obtain ⟨v, hv, hD⟩ := dpAll_get hd hi
  subst hj
  exact ⟨a, vs, _, v, rfl, rfl, e.seqL hs, atI_nat hv, q v hD⟩
end
end Y
namespace Y
open PySem PySem.Spec PyProof.Rows L2
theorem g_dec {p A B : Prop} {d : Decidable p} {i : Decidable (decide p = true)} (h1 : p → A) (h2 : ¬ p → B) : @ite Prop (decide p = true) i A B := by
  by_cases h : p
  · rw [if_pos (decide_eq_true h)]; exact h1 h
  · rw [if_neg (by simp [h])]; exact h2 h
theorem g_ndec {p A B : Prop} {d : Decidable p} {i : Decidable ((!decide p) = true)} (h1 : ¬ p → A) (h2 : p → B) : @ite Prop ((!decide p) = true) i A B := by
  by_cases h : p
  · rw [if_neg (by simp [h])]; exact h2 h
  · rw [if_pos (by simp [h])]; exact h1 h
theorem g_iT {A B : Prop} {i : Decidable (true = true)} (h : A) : @ite Prop (true = true) i A B := by rw [if_pos rfl]; exact h
theorem g_iF {A B : Prop} {i : Decidable (false = true)} (h : B) : @ite Prop (false = true) i A B := by rw [if_neg (by simp)]; exact h
theorem g_inT {A B : Prop} {i : Decidable ((!true) = true)} (h : B) : @ite Prop ((!true) = true) i A B := by rw [if_neg (by simp)]; exact h
theorem g_inF {A B : Prop} {i : Decidable ((!false) = true)} (h : A) : @ite Prop ((!false) = true) i A B := by rw [if_pos (by simp)]; exact h
theorem g_bool {b : Bool} {A B : Prop} {i : Decidable (b = true)} (h1 : b = true → A) (h2 : b = false → B) : @ite Prop (b = true) i A B := by
  cases b with
  | true => rw [if_pos rfl]; exact h1 rfl
  | false => rw [if_neg (by simp)]; exact h2 rfl
theorem q_bl {Q : VK} {H : Hp} {a b : Bool} (q : Q (.bl a) H) (e : a = b) : Q (.bl b) H := e ▸ q
theorem q_int {Q : VK} {H : Hp} {a b : Int} (q : Q (.int a) H) (e : a = b) : Q (.int b) H := e ▸ q
theorem q_str {Q : VK} {H : Hp} {a b : Str} (q : Q (.str a) H) (e : a = b) : Q (.str b) H := e ▸ q
end Y

namespace Y
open PySem PySem.Spec PyProof.Rows L2
/-! ### what the head tells, by names -/
def fdOf (K : PySem.W.Frag) (a : Addr) : FuncData := match K.lookup a with
  | some ⟨_, _, .func fd, _⟩ => fd
  | _ => PySem.W.fnOf "" "" (defArgs (.Pass ⟨0, 0, 0, 0⟩)) [] (defScope (.Pass ⟨0, 0, 0, 0⟩)) .none .none .none .none none .none .none
structure Tx (fa : List He.Fa) (fn : List He.DefD) (bx : PySem.W.Frag → Bool) (K : PySem.W.Frag) (mg : Str → Option Value) : Prop where
  says : He.SaysD fa fn K
  more : bx K = true
  ex : ∃ h : Heap, K.In h ∧ h.Ns mainGlobals mg
section
variable {fa : List He.Fa} {fl : List He.DefD} {bx : PySem.W.Frag → Bool} {K : PySem.W.Frag} {mg : Str → Option Value}
theorem Tx.fn (T : Tx fa fl bx K mg) (i : Nat) {d : He.DefD} (h : fl[i]? = some d) : FunD K d.name d.qual d.params d.body d.scope (d.dvs K) (d.kws K) (He.fAd K d.at_) (fdOf K (He.fAd K d.at_)) := by
  obtain ⟨fd, F⟩ := T.says.def_ i h
  have e : fdOf K (He.fAd K d.at_) = fd := by
    obtain ⟨oc, od, dV, kV, doc, pm, an, cdv, ct, osl, rfl, lk, _⟩ := F.ex
    unfold fdOf
    rw [lk]
  rw [e]
  exact F
theorem Tx.glo (T : Tx fa fl bx K mg) (i : Nat) {x : Str} (h : fa[i]? = some (.glo x) := by rfl) : mg x = some (.ref (He.ga K x)) := let ⟨_, X, G⟩ := T.ex; He.glo_ok X G (T.says.fact i h)
theorem Tx.free (T : Tx fa fl bx K mg) (i : Nat) {x : Str} (h : fa[i]? = some (.free x) := by rfl) : mg x = none := let ⟨_, X, G⟩ := T.ex; He.free_ok X G (T.says.fact i h)
theorem Tx.int (T : Tx fa fl bx K mg) (i : Nat) {x : Str} {n : Int} (h : fa[i]? = some (.int x n) := by rfl) : ∃ t, mg x = some (.int n t) := let ⟨_, X, G⟩ := T.ex; He.int_ok X G (T.says.fact i h)
theorem Tx.str (T : Tx fa fl bx K mg) (i : Nat) {x z : Str} (h : fa[i]? = some (.str x z) := by rfl) : ∃ t, mg x = some (.str z t) := let ⟨_, X, G⟩ := T.ex; He.str_ok X G (T.says.fact i h)
theorem Tx.cls (T : Tx fa fl bx K mg) (i : Nat) {x : Str} (h : fa[i]? = some (.cls x) := by rfl) : Cls K (He.ga K x) := He.cls_ok (T.says.fact i h)
theorem Tx.noat (T : Tx fa fl bx K mg) (i : Nat) {x f : Str} (h : fa[i]? = some (.noat x f) := by rfl) : NoAttr K (He.ga K x) f := He.noat_ok (T.says.fact i h)
theorem Tx.meth (T : Tx fa fl bx K mg) (i : Nat) {x m : Str} (h : fa[i]? = some (.meth x m) := by rfl) : Meth K (He.ga K x) m (He.ma K (He.ga K x) m) := He.meth_ok (T.says.fact i h)
theorem Tx.mkr (T : Tx fa fl bx K mg) (i : Nat) {x : Str} (h : fa[i]? = some (.mkr x) := by rfl) : Mk K (He.ga K x) (He.ma K (He.ga K x) "__init__") := He.mkr_ok (T.says.fact i h)
theorem Tx.exm (T : Tx fa fl bx K mg) (i : Nat) {x y : Str} {b : Bool} (h : fa[i]? = some (.exm x y b) := by rfl) : PySem.W.exmOne K (.ref (He.ga K x)) (.ref (He.ga K y)) = some b := He.exm_ok (T.says.fact i h)
theorem Tx.keep (T : Tx fa fl bx K mg) (i : Nat) {x : Str} (h : fa[i]? = some (.keep x) := by rfl) : PySem.W.keepIn K (.ref (He.ga K x)) = true := He.keep_ok (T.says.fact i h)
end
/-- what a call by name wants -/
structure Cal (K : PySem.W.Frag) (mg : Str → Option Value) (x : Str) (ps : List Str) : Prop where
  g : mg x = some (.ref (He.ga K x))
  k : PySem.W.keepIn K (.ref (He.ga K x)) = true
  b : Binds K (fdOf K (He.ga K x)) ps []
structure CalM (K : PySem.W.Frag) (a : Addr) (ps : List Str) : Prop where
  k : PySem.W.keepIn K (.ref a) = true
  b : Binds K (fdOf K a) ps []
/-- a call of a def without defaults -/
def tCall1 (sp : Sp) (E : XK) (t : TA) : TE := fun σ H Q => t σ H fun vs H1 => sp vs H1 Q E
section
variable {X : Cx} {CX : CXT} {k : Nat} {C : Addr} {ps : List Str} {sp : Sp} {E : XK} {x m : Str} {p pos apos : Pos} {e o : Expr} {es : List Expr} {ta : TE} {t : TA}
theorem pe_callC (F : FnOk X.prog X.w X.K X.mg X.base CX k (He.ga X.K x) (fdOf X.K (He.ga X.K x)) ps sp) (c : Cal X.K X.mg x ps) (hr : Room k X.A) (hg : Gl X x) (hx : Passes CX X E)
    (ha : PA X (e :: es) t) (hdb : (x == ("__debug__" : Str)) = false := by decide) (he : starEach (e :: es) X.env = (false, eval e X.env) :: starEach es X.env := by rfl) (hpl : (backTo pos (starEach es X.env)).any (·.1) = false := by rfl) :
    PE X (.Call (.Name x p) (e :: es) [] pos) (tCall1 sp E t) := by
  have h := pe_call (p := p) (pos := pos) (dvs := []) F hr hg c.g c.k c.b .nil hx ha hdb he hpl
  have e1 : tCall sp [] E t = tCall1 sp E t := by
    unfold tCall tCall1
    simp only [List.append_nil]
  rw [← e1]
  exact h
theorem pe_call0C (F : FnOk X.prog X.w X.K X.mg X.base CX k (He.ga X.K x) (fdOf X.K (He.ga X.K x)) ps sp) (c : Cal X.K X.mg x ps) (hr : Room k X.A) (hg : Gl X x) (hx : Passes CX X E)
    (hdb : (x == ("__debug__" : Str)) = false := by decide) : PE X (.Call (.Name x p) [] [] pos) (tCall1 sp E tNil) := pe_call0 (dvs := []) F hr hg c.g c.k c.b .nil hx hdb
/-- o.m(..) -/
def tMeth1 (C : Addr) (m : Str) (sp : Sp) (E : XK) (ta : TE) (t : TA) : TE := fun σ H Q => ta σ H fun x H1 => ∃ a dx fs, x = .ref a ∧ H1 a = some (.ins C dx fs) ∧ fs.lookup m = none ∧ t σ H1 fun vs H2 => sp (.ref a :: vs) H2 Q E
theorem pe_gint {i : Int} {pos : Pos} (h : ∃ t, X.mg x = some (.int i t)) (hg : Gl X x := by rfl) (hd : (x == ("__debug__" : Str)) = false := by decide) : PE X (.Name x pos) (tC (.int i)) := let ⟨t, h⟩ := h; pe_glob hg h ⟨t, rfl⟩ hd
theorem pe_gstr {i : Str} {pos : Pos} (h : ∃ t, X.mg x = some (.str i t)) (hg : Gl X x := by rfl) (hd : (x == ("__debug__" : Str)) = false := by decide) : PE X (.Name x pos) (tC (.str i)) := let ⟨t, h⟩ := h; pe_glob hg h ⟨t, rfl⟩ hd
end
section
variable {σ : L2.St} {H : Hp} {Q : VK}
theorem g_call1 {sp : Sp} {E : XK} {ar : TA} (q : ar σ H fun vs H1 => sp vs H1 Q E) : tCall1 sp E ar σ H Q := q
end
end Y

namespace Y
open PySem PySem.Spec PyProof.Rows L2
/-! ### readings by name -/
def rLen (K : PySem.W.Frag) : List V → Hp → VK → Prop := fun xs H Q => ∃ p ys, xs = [.ref p] ∧ (SqL K H p ys ∨ SqT K H p ys) ∧ Q (.int ys.length) H
def rLenS : List V → Hp → VK → Prop := fun xs H Q => ∃ z, xs = [.str z] ∧ z.length ≤ sizeLine ∧ Q (.int z.length) H
def rAbs : List V → Hp → VK → Prop := fun xs H Q => ∃ i, xs = [.int i] ∧ Q (.int (if i < 0 then -i else i)) H
def rInt1 : List V → Hp → VK → Prop := fun xs H Q => (∃ i, xs = [.int i] ∧ Q (.int i) H) ∨ ∃ k, xs = [.bl k] ∧ Q (.int (if k then 1 else 0)) H
def rStrI : List V → Hp → VK → Prop := fun xs H Q => ∃ i, xs = [.int i] ∧ i.natAbs.log2 < 1920 ∧ Q (.str (toString i)) H
def rListOf (K : PySem.W.Frag) : List V → Hp → VK → Prop := fun xs H Q => ∃ p ys, xs = [.ref p] ∧ (SqL K H p ys ∨ SqT K H p ys) ∧ ∀ l, H l = none → Q (.ref l) (upd H l (.lst ys))
def rTupOf (K : PySem.W.Frag) : List V → Hp → VK → Prop := fun xs H Q => ∃ p ys, xs = [.ref p] ∧ ((SqL K H p ys ∧ ∀ l, H l = none → Q (.ref l) (upd H l (.tup ys))) ∨ (SqT K H p ys ∧ Q (.ref p) H))
def rAddS : R2 := fun x y H Q => ∃ i j, x = .str i ∧ y = .str j ∧ i.length + j.length ≤ sizeLine ∧ Q (.str (i ++ j)) H
def rMin2 : List V → Hp → VK → Prop := fun xs H Q => ∃ i j, xs = [.int i, .int j] ∧ Q (.int (if j < i then j else i)) H
def rMax2 : List V → Hp → VK → Prop := fun xs H Q => ∃ i j, xs = [.int i, .int j] ∧ Q (.int (if j > i then j else i)) H
def rInSign : R2 := fun x y H Q => ∃ (c : Nat) (z : Str), x = .str ⟨#[c]⟩ ∧ y = .str z ∧ Q (.bl (decide (c ∈ z.cps.toList))) H
def rLenD : List V → Hp → VK → Prop := fun xs H Q => ∃ a kvs, xs = [V.ref a] ∧ H a = some (.dK kvs) ∧ Q (.int kvs.length) H
def MkT (xs : List V) (H1 : Hp) (Q : VK) : Prop := xs.length ≤ sizeLine ∧ ∀ p, H1 p = none → Q (.ref p) (upd H1 p (.tup xs))
def MkL (xs : List V) (H1 : Hp) (Q : VK) : Prop := xs.length ≤ sizeLine ∧ ∀ p, H1 p = none → Q (.ref p) (upd H1 p (.lst xs))
section
variable {X : Cx}
theorem call_len : CallR X (.builtin "len") (rLen X.K) := call_len_seq
theorem call_lenS : CallR X (.builtin "len") rLenS := call_len_str
theorem call_lenDk : CallR X (.builtin "len") rLenD := call_lenD
theorem call_abs : CallR X (.builtin "abs") rAbs := L2.call_abs
theorem call_int1 : CallR X (.type "int") rInt1 := L2.call_int1
theorem call_strI : CallR X (.type "str") rStrI := L2.call_str_int
theorem call_list : CallR X (.type "list") (rListOf X.K) := call_list_of
theorem call_tuple : CallR X (.type "tuple") (rTupOf X.K) := call_tuple_of
theorem op_addS : OpR X (binaryOp .Add) rAddS := op_add_str
theorem op_inSign : OpR X (compareOp .In) rInSign := op_in_sign
theorem call_min (hc : X.calm = true) : CallR X (.builtin "min") rMin2 := call_min2 hc
theorem call_max (hc : X.calm = true) : CallR X (.builtin "max") rMax2 := call_max2 hc
end
section
variable {K : PySem.W.Frag} {σ : L2.St} {G H H' : Hp} {Q : VK} {D : Ends} {v x y : V} {d e' : PyData} {ds es : List PyData} {ta tb te tc : TE} {ts tu tw : TS} {tt uu : TT} {ar : TA} {QA : List V → Hp → Prop} {i j : Int} {n : Nat}
theorem g_lenT (e : Ex G H) (h : Dp K G x (.tuple ds)) (q : Q (.int (ds.length : Int)) H) : rLen K [x] H Q := by
  obtain ⟨a, vs, rfl, hs, hd⟩ := dp_tup h
  exact ⟨a, vs, rfl, .inr (e.seqT hs), by rw [dpAll_len hd]; exact q⟩
theorem g_lenL (e : Ex G H) (h : Dp K G x (.list ds)) (q : Q (.int (ds.length : Int)) H) : rLen K [x] H Q := by
  obtain ⟨a, vs, rfl, hs, hd⟩ := dp_lst h
  exact ⟨a, vs, rfl, .inl (e.seqL hs), by rw [dpAll_len hd]; exact q⟩
theorem g_lenM {p : Addr} {xs : List V} (h : H p = some (.lst xs)) (q : Q (.int (xs.length : Int)) H) : rLen K [.ref p] H Q := ⟨p, xs, rfl, .inl (.of h), q⟩
theorem g_lenS {s : Str} (h : s.length ≤ sizeLine) (q : Q (.int (s.length : Int)) H) : rLenS [.str s] H Q := ⟨s, rfl, h, q⟩
theorem g_abs (q : Q (.int (if i < 0 then -i else i)) H) : rAbs [.int i] H Q := ⟨i, rfl, q⟩
theorem g_int1 (q : Q (.int i) H) : rInt1 [.int i] H Q := .inl ⟨i, rfl, q⟩
theorem g_int1b {k : Bool} (q : Q (.int (if k then 1 else 0)) H) : rInt1 [.bl k] H Q := .inr ⟨k, rfl, q⟩
theorem g_addS {a b : Str} (h : a.length + b.length ≤ sizeLine) (q : Q (.str (a ++ b)) H) : rAddS (.str a) (.str b) H Q := ⟨a, b, rfl, rfl, h, q⟩
theorem g_inSign {c : Nat} {z : Str} (q : Q (.bl (decide (c ∈ z.cps.toList))) H) : rInSign (.str ⟨#[c]⟩) (.str z) H Q := ⟨c, z, rfl, rfl, q⟩
theorem g_isB {a b : Bool} (q : Q (.bl (decide (a = b))) H) : rIsB (.bl a) (.bl b) H Q := ⟨a, b, rfl, rfl, q⟩
theorem g_notB {a b : Bool} (q : Q (.bl (!decide (a = b))) H) : rNotB (.bl a) (.bl b) H Q := ⟨a, b, rfl, rfl, q⟩
theorem g_ixS {s : Str} {c k : Nat} (hs : s.length ≤ sizeLine) (hc : s.cps.toList[k]? = some c) (hj : i = (k : Int)) (q : Q (.str ⟨#[c]⟩) H) : rIxS (.str s) (.int i) H Q := by
  subst hj
  exact ⟨s, _, c, rfl, rfl, hs, atI_nat hc, q⟩
/-- a new tuple | a new list -/
theorem g_tup (q : ar σ H fun xs H1 => MkT xs H1 Q) : tTup ar σ H Q := q
theorem g_lst (q : ar σ H fun xs H1 => MkL xs H1 Q) : tLst ar σ H Q := q
theorem nx_tup {G H : Hp} {p : Addr} {xs : List V} (e : Ex G H) (h : DpAll K G xs ds) (hp : H p = none) : Nx [] G H (upd G p (.tup xs)) (upd H p (.tup xs)) ∧ Dp K (upd G p (.tup xs)) (.ref p) (.tuple ds) :=
  ⟨Nx.new e hp, .tup (.of upd_same) (dpAll_mono (Ex.new (e.free hp)) h)⟩
theorem nx_lst {G H : Hp} {p : Addr} {xs : List V} (e : Ex G H) (h : DpAll K G xs ds) (hp : H p = none) : Nx [] G H (upd G p (.lst xs)) (upd H p (.lst xs)) ∧ Dp K (upd G p (.lst xs)) (.ref p) (.list ds) :=
  ⟨Nx.new e hp, .lst (.of upd_same) (dpAll_mono (Ex.new (e.free hp)) h)⟩
/-- a tuple is made and known: what follows, by G' -/
theorem g_tupD {xs : List V} (e : Ex G H) (h : DpAll K G xs ds) (hl : ds.length ≤ sizeLine) (q : ∀ p G' H', Nx [] G H G' H' → Dp K G' (.ref p) (.tuple ds) → Q (.ref p) H') : MkT xs H Q :=
  ⟨by rw [dpAll_len h]; exact hl, fun p hp => let ⟨a, b⟩ := nx_tup e h hp; q p _ _ a b⟩
theorem g_lstD {xs : List V} (e : Ex G H) (h : DpAll K G xs ds) (hl : ds.length ≤ sizeLine) (q : ∀ p G' H', Nx [] G H G' H' → Dp K G' (.ref p) (.list ds) → Q (.ref p) H') : MkL xs H Q :=
  ⟨by rw [dpAll_len h]; exact hl, fun p hp => let ⟨a, b⟩ := nx_lst e h hp; q p _ _ a b⟩
/-- a list is made that may change -/
theorem g_lstM {xs : List V} (e : Ex G H) (hl : xs.length ≤ sizeLine) (q : ∀ p H', Nx [] G H G H' → H p = none → H' p = some (.lst xs) → G p = none → Q (.ref p) H') : MkL xs H Q :=
  ⟨hl, fun p hp => q p _ (Nx.own e hp) hp upd_same (e.free hp)⟩
/-- tuple(list that was just made) -/
theorem g_tupOfM {p : Addr} {ys : List V} (e : Ex G H) (hp : H p = some (.lst ys)) (h : DpAll K G ys ds) (q : ∀ p G' H', Nx [] G H G' H' → Dp K G' (.ref p) (.tuple ds) → Q (.ref p) H') : rTupOf K [.ref p] H Q :=
  ⟨p, ys, rfl, .inl ⟨.of hp, fun l hl => let ⟨a, b⟩ := nx_tup e h hl; q l _ _ a b⟩⟩
theorem g_tupOfL (e : Ex G H) (h : Dp K G x (.list ds)) (q : ∀ p G' H', Nx [] G H G' H' → Dp K G' (.ref p) (.tuple ds) → Q (.ref p) H') : rTupOf K [x] H Q := by
  obtain ⟨a, vs, rfl, hs, hd⟩ := dp_lst h
  exact ⟨a, vs, rfl, .inl ⟨e.seqL hs, fun l hl => let ⟨a, b⟩ := nx_tup e hd hl; q l _ _ a b⟩⟩
theorem g_tupOfT (e : Ex G H) (h : Dp K G x (.tuple ds)) (q : Q x H) : rTupOf K [x] H Q := by
  obtain ⟨a, vs, rfl, hs, hd⟩ := dp_tup h
  exact ⟨a, vs, rfl, .inr ⟨e.seqT hs, q⟩⟩
theorem g_listOf (e : Ex G H) (h : Dp K G x (.list ds) ∨ Dp K G x (.tuple ds)) (q : ∀ p G' H', Nx [] G H G' H' → Dp K G' (.ref p) (.list ds) → Q (.ref p) H') : rListOf K [x] H Q := by
  rcases h with h | h
  · obtain ⟨a, vs, rfl, hs, hd⟩ := dp_lst h
    exact ⟨a, vs, rfl, .inl (e.seqL hs), fun l hl => let ⟨a, b⟩ := nx_lst e hd hl; q l _ _ a b⟩
  · obtain ⟨a, vs, rfl, hs, hd⟩ := dp_tup h
    exact ⟨a, vs, rfl, .inr (e.seqT hs), fun l hl => let ⟨a, b⟩ := nx_lst e hd hl; q l _ _ a b⟩
theorem g_allM {p : Addr} {ys : List V} {bs : List Bool} (hp : H p = some (.lst ys)) (h : DpAll K G ys (bs.map .bool)) (q : Q (.bl (bs.all id)) H) : rAll K [.ref p] H Q :=
  ⟨p, bs, rfl, by rw [dpAll_bools_inv h] at hp; exact .of hp, q⟩
/-- xs.append(e) -/
theorem g_app {p : Addr} {xs : List V} (hp : H p = some (.lst xs)) (hl : xs.length < sizeLine) (q : Q .non (upd H p (.lst (xs ++ [y])))) : rAppend (.ref p) [y] H Q := ⟨p, xs, y, rfl, rfl, hp, hl, q⟩
theorem g_bm {T : String} {r : V → List V → Hp → VK → Prop} (q : ta σ H fun x H1 => tyV K T x H1 ∧ ar σ H1 fun xs H2 => r x xs H2 Q) : tBM K T r ta ar σ H Q := q
theorem g_bm0 {T : String} {r : V → List V → Hp → VK → Prop} (q : ta σ H fun x H1 => tyV K T x H1 ∧ r x [] H1 Q) : tBM0 K T r ta σ H Q := q
theorem g_tyL {p : Addr} {xs : List V} {P : Prop} (hp : H p = some (.lst xs)) (q : P) : tyV K "list" (.ref p) H ∧ P := ⟨.inl ⟨rfl, _, .of hp⟩, q⟩

/-! ### what is walked -/
structure Src (K : PySem.W.Frag) (M : List Addr) (J : It) (G H : Hp) (ds : List PyData) : Prop where
  go : ∀ i G' H', Nx M G H G' H' → i < ds.length → J.go i H'
  stop : ∀ i G' H', Nx M G H G' H' → ds.length ≤ i → J.stop i H'
  yld : ∀ i d G' H' x H'', Nx M G H G' H' → ds[i]? = some d → J.yld i H' x H'' → ∃ G'', Nx [] G' H' G'' H'' ∧ Dp K G'' x d
theorem src_tup {M : List Addr} {a : Addr} {xs : List V} (hs : SqT K G a xs) (hd : DpAll K G xs ds) : Src K M (Itt K a) G H ds where
  go := fun i G' H' n hi => ⟨xs, xs[i]'(by rw [dpAll_len hd]; exact hi), n.gh.seqT (n.gg.seqT hs), by simp [dpAll_len hd, hi]⟩
  stop := fun i G' H' n hi => ⟨xs, n.gh.seqT (n.gg.seqT hs), by rw [dpAll_len hd]; exact hi⟩
  yld := fun i d G' H' x H'' n hi y => by
    obtain ⟨rfl, f⟩ := y
    have hx := f xs (n.gh.seqT (n.gg.seqT hs))
    obtain ⟨v, hv, dv⟩ := dpAll_get hd hi
    rw [hx] at hv
    cases hv
    exact ⟨G', Nx.refl n.gh, dp_mono n.gg dv⟩
theorem src_lst {M : List Addr} {a : Addr} {xs : List V} (hs : SqL K G a xs) (hd : DpAll K G xs ds) : Src K M (Itl K a) G H ds where
  go := fun i G' H' n hi => ⟨xs, xs[i]'(by rw [dpAll_len hd]; exact hi), n.gh.seqL (n.gg.seqL hs), by simp [dpAll_len hd, hi]⟩
  stop := fun i G' H' n hi => ⟨xs, n.gh.seqL (n.gg.seqL hs), by rw [dpAll_len hd]; exact hi⟩
  yld := fun i d G' H' x H'' n hi y => by
    obtain ⟨rfl, f⟩ := y
    have hx := f xs (n.gh.seqL (n.gg.seqL hs))
    obtain ⟨v, hv, dv⟩ := dpAll_get hd hi
    rw [hx] at hv
    cases hv
    exact ⟨G', Nx.refl n.gh, dp_mono n.gg dv⟩
/-- a list that stands in H, not known (it stays while the walk lasts: not in M) -/
theorem src_own {M : List Addr} {a : Addr} {xs : List V} (hs : H a = some (.lst xs)) (ha : a ∉ M) (hd : DpAll K G xs ds) : Src K M (Itl K a) G H ds where
  go := fun i G' H' n hi => ⟨xs, xs[i]'(by rw [dpAll_len hd]; exact hi), .of (n.fr a _ ha hs), by simp [dpAll_len hd, hi]⟩
  stop := fun i G' H' n hi => ⟨xs, .of (n.fr a _ ha hs), by rw [dpAll_len hd]; exact hi⟩
  yld := fun i d G' H' x H'' n hi y => by
    obtain ⟨rfl, f⟩ := y
    have hx := f xs (.of (n.fr a _ ha hs))
    obtain ⟨v, hv, dv⟩ := dpAll_get hd hi
    rw [hx] at hv
    cases hv
    exact ⟨G', Nx.refl n.gh, dp_mono n.gg dv⟩
/-- a text, sign by sign -/
def sgn (s : Str) : List PyData := s.cps.toList.map fun c => .str ⟨#[c]⟩
theorem sgn_len (s : Str) : (sgn s).length = s.length := by unfold sgn; rw [List.length_map]; exact Array.length_toList
theorem sgn_get {s : Str} {i : Nat} {d : PyData} (h : (sgn s)[i]? = some d) : ∃ c, s.cps.toList[i]? = some c ∧ d = .str ⟨#[c]⟩ := by
  simp only [sgn, List.getElem?_map, Option.map_eq_some_iff] at h
  obtain ⟨x, h1, h2⟩ := h
  exact ⟨x, h1, h2.symm⟩
theorem src_str {M : List Addr} (s : Str) : Src K M (Its s) G H (sgn s) where
  go := fun i G' H' n hi => (by simpa [sgn] using hi : i < s.cps.size)
  stop := fun i G' H' n hi => (by simpa [sgn] using hi : s.cps.size ≤ i)
  yld := fun i d G' H' x H'' n hi y => by
    obtain ⟨rfl, c, hc, rfl⟩ := y
    have e1 : s.cps.toList[i]? = some c := by rw [← hc]; simp
    unfold sgn at hi
    rw [List.getElem?_map, e1] at hi
    cases hi
    exact ⟨G', Nx.refl n.gh, .str _⟩
def rng (lo : Int) (n : Nat) : List PyData := (List.range n).map fun (i : Nat) => .int (lo + (i : Int))
theorem src_rng {M : List Addr} (lo : Int) (n : Nat) : Src K M (Itr lo n) G H (rng lo n) where
  go := fun i G' H' _ hi => (by simpa [rng] using hi : i < n)
  stop := fun i G' H' _ hi => (by simpa [rng] using hi : n ≤ i)
  yld := fun i d G' H' x H'' m hi y => by
    obtain ⟨rfl, rfl⟩ := y
    have hl : i < n := by
      have := (List.getElem?_eq_some_iff.mp hi).1
      simpa [rng] using this
    unfold rng at hi
    rw [List.getElem?_map, List.getElem?_range hl] at hi
    cases hi
    exact ⟨G', Nx.refl m.gh, .int _⟩
def prs (k : Nat) : List PyData → List PyData
  | [] => []
  | d :: r => .tuple [.int (k : Int), d] :: prs (k + 1) r
theorem prs_len : ∀ (k : Nat) (ds : List PyData), (prs k ds).length = ds.length
  | _, [] => rfl
  | k, d :: r => congrArg (· + 1) (prs_len (k + 1) r)
theorem prs_get : ∀ (k : Nat) (ds : List PyData) (i : Nat), (prs k ds)[i]? = (ds[i]?).map fun d => .tuple [.int ((k + i : Nat) : Int), d]
  | _, [], i => by simp [prs]
  | k, d :: r, 0 => by simp [prs]
  | k, d :: r, i + 1 => by
    show (prs (k + 1) r)[i]? = _
    rw [prs_get (k + 1) r i]
    simp only [List.getElem?_cons_succ]
    congr 1
    funext d
    congr 4
    omega
theorem src_enumL {M : List Addr} {a : Addr} {xs : List V} (hs : SqL K G a xs) (hd : DpAll K G xs ds) : Src K M (Ite K a) G H (prs 0 ds) where
  go := fun i G' H' n hi => ⟨xs, xs[i]'(by rw [dpAll_len hd, ← prs_len 0 ds]; exact hi), n.gh.seqL (n.gg.seqL hs), by rw [prs_len] at hi; simp [dpAll_len hd, hi]⟩
  stop := fun i G' H' n hi => ⟨xs, n.gh.seqL (n.gg.seqL hs), by rw [dpAll_len hd, ← prs_len 0 ds]; exact hi⟩
  yld := fun i d G' H' x H'' n hi y => by
    obtain ⟨T, u, rfl, hT, rfl, f⟩ := y
    have hx := f xs (n.gh.seqL (n.gg.seqL hs))
    rw [prs_get] at hi
    cases q : ds[i]? with
    | none => rw [q] at hi; cases hi
    | some d0 =>
      rw [q] at hi
      cases hi
      obtain ⟨v, hv, dv⟩ := dpAll_get hd q
      rw [hx] at hv
      cases hv
      have h2 := nx_tup (K := K) n.gh (xs := [.int ((i : Nat) : Int), u]) (ds := [.int ((0 + i : Nat) : Int), d0]) (by rw [Nat.zero_add]; exact .cons (.int _) (.cons (dp_mono n.gg dv) .nil)) hT
      exact ⟨_, h2.1, h2.2⟩
end
end Y

namespace Y
open PySem PySem.Spec PyProof.Rows L2
/-! ### loops -/
/-- what tFor asks behind its walk -/
def ForW (J : It) (g : TG) (tb : TS) (D : Ends) (σ : L2.St) (H1 : Hp) : Prop := ∃ W : Nat → Nat → L2.St → Hp → Prop, (∃ m, W 0 m σ H1) ∧ ∀ i m σ H, W i m σ H →
  (J.stop i H ∧ D.nx σ H) ∨ (J.go i H ∧ ∃ N : L2.St → Hp → Prop, (∀ σ' H', N σ' H' → ∃ m', m' < m ∧ W (i + 1) m' σ' H') ∧ ∀ x H', J.yld i H x H' → g x σ H' fun σ2 H2 => tb { D with nx := N, ct := N, bk := D.nx } σ2 H2)
def LcW (J : It) (g : TG) (tt : TT) (te : TE) (vs : List Nat) (σ : L2.St) (D : Addr) (Q : VK) (H1 : Hp) : Prop := ∃ W : Nat → Nat → Hp → Prop, (∃ m, W 0 m (upd H1 D (.lst []))) ∧ ∀ i m H, W i m H →
  (J.stop i H ∧ Q (.ref D) H) ∨ (J.go i H ∧ ∃ Nx : Hp → Prop, (∀ H', Nx H' → ∃ m', m' < m ∧ W (i + 1) m' H') ∧ ∀ x H', J.yld i H x H' → g x (wipe σ vs) H' fun σ2 H2 => wipe σ2 vs = wipe σ vs ∧ tt σ2 H2 fun b H3 =>
    if b = true then te σ2 H3 fun y H4 => ∃ acc, H4 D = some (.lst acc) ∧ acc.length < sizeLine ∧ Nx (upd H4 D (.lst (acc ++ [y]))) else Nx H3)
section
variable {K : PySem.W.Frag} {σ : L2.St} {G H : Hp} {Q : VK} {D : Ends} {x : V} {ds : List PyData} {tl te : TE} {tb : TS} {tt : TT} {ta : TA} {wi : TI} {g : TG} {J : It} {M : List Addr} {vs : List Nat} {R : It → Hp → Prop}
theorem g_yes {QT : Bool → Hp → Prop} (q : QT true H) : tYes σ H QT := q
theorem g_for (q : wi σ H fun J H1 => ForW J g tb D σ H1) : tFor wi g tb D σ H := q
theorem g_lc (q : wi σ H fun J H1 => ∀ A, H1 A = none → LcW J g tt te vs σ A Q H1) : tLc wi g tt te vs σ H Q := q
theorem g_iTup (q : tl σ H fun x H1 => ∃ a, x = .ref a ∧ (∃ xs, SqT K H1 a xs) ∧ R (Itt K a) H1) : iTup K tl σ H R := q
theorem g_iList (q : tl σ H fun x H1 => ∃ a, x = .ref a ∧ (∃ xs, SqL K H1 a xs) ∧ R (Itl K a) H1) : iList K tl σ H R := q
theorem g_iStr (q : tl σ H fun v H1 => ∃ x, v = .str x ∧ R (Its x) H1) : iStr tl σ H R := q
theorem g_iRng1 (q : ta σ H fun vs H1 => ∃ j : Int, vs = [.int j] ∧ -(2 ^ 62) ≤ j ∧ j < 2 ^ 62 ∧ R (Itr 0 j.toNat) H1) : iRng1 ta σ H R := q
theorem g_iRng2 (q : ta σ H fun vs H1 => ∃ i j : Int, vs = [.int i, .int j] ∧ (-(2 ^ 62) ≤ i ∧ i < 2 ^ 62 ∧ -(2 ^ 62) ≤ j ∧ j < 2 ^ 62) ∧ R (Itr i (j - i).toNat) H1) : iRng2 ta σ H R := q
theorem g_iEnum (q : ta σ H fun vs H1 => ∃ a xs, vs = [.ref a] ∧ SqL K H1 a xs ∧ R (Ite K a) H1) : iEnum K ta σ H R := q
/-- the thing walked is known data -/
theorem g_walkT {P : Addr → Prop} (e : Ex G H) (h : Dp K G x (.tuple ds)) (q : ∀ a, x = .ref a → (∀ M, Src K M (Itt K a) G H ds) → P a) : ∃ a, x = .ref a ∧ (∃ xs, SqT K H a xs) ∧ P a := by
  obtain ⟨a, xs, rfl, hs, hd⟩ := dp_tup h
  exact ⟨a, rfl, ⟨xs, e.seqT hs⟩, q a rfl fun M => src_tup hs hd⟩
theorem g_walkL {P : Addr → Prop} (e : Ex G H) (h : Dp K G x (.list ds)) (q : ∀ a, x = .ref a → (∀ M, Src K M (Itl K a) G H ds) → P a) : ∃ a, x = .ref a ∧ (∃ xs, SqL K H a xs) ∧ P a := by
  obtain ⟨a, xs, rfl, hs, hd⟩ := dp_lst h
  exact ⟨a, rfl, ⟨xs, e.seqL hs⟩, q a rfl fun M => src_lst hs hd⟩
theorem g_walkM {P : Addr → Prop} {a : Addr} {xs : List V} (h : H a = some (.lst xs)) (hd : DpAll K G xs ds) (q : (∀ M, a ∉ M → Src K M (Itl K a) G H ds) → P a) : ∃ b, V.ref a = .ref b ∧ (∃ xs, SqL K H b xs) ∧ P b :=
  ⟨a, rfl, ⟨xs, .of h⟩, q fun M ha => src_own h ha hd⟩
theorem g_walkS {P : Str → Prop} {s : Str} (q : P s) : ∃ x, V.str s = .str x ∧ P x := ⟨s, rfl, q⟩
theorem g_walkR {P : Int → Prop} {j : Int} (h : j < 2 ^ 62) (h0 : -(2 ^ 62) ≤ j) (q : P j) : ∃ i : Int, [V.int j] = [.int i] ∧ -(2 ^ 62) ≤ i ∧ i < 2 ^ 62 ∧ P i := ⟨j, rfl, h0, h, q⟩
theorem g_walkR2 {P : Int → Int → Prop} {i j : Int} (h : -(2 ^ 62) ≤ i ∧ i < 2 ^ 62 ∧ -(2 ^ 62) ≤ j ∧ j < 2 ^ 62) (q : P i j) :
    ∃ k l : Int, [V.int i, V.int j] = [.int k, .int l] ∧ (-(2 ^ 62) ≤ k ∧ k < 2 ^ 62 ∧ -(2 ^ 62) ≤ l ∧ l < 2 ^ 62) ∧ P k l := ⟨i, j, rfl, h, q⟩
theorem g_walkE {P : Addr → Prop} (e : Ex G H) (h : Dp K G x (.list ds)) (q : ∀ a, x = .ref a → (∀ M, Src K M (Ite K a) G H (prs 0 ds)) → P a) : ∃ a xs, [x] = [.ref a] ∧ SqL K H a xs ∧ P a := by
  obtain ⟨a, xs, rfl, hs, hd⟩ := dp_lst h
  exact ⟨a, xs, rfl, e.seqL hs, q a rfl fun M => src_enumL hs hd⟩

/-- THE LOOP: Pv by the turn, the slots, what is known, the heap; M: the cells that it changes -/
theorem g_forS (S : Src K M J G H ds) (e : Ex G H) (Pv : Nat → L2.St → Hp → Hp → Prop) (h0 : Pv 0 σ G H)
    (hs : ∀ i d v σ' G' H' G1 H1, ds[i]? = some d → Nx M G H G' H' → Pv i σ' G' H' → Nx [] G' H' G1 H1 → Dp K G1 v d →
      g v σ' H1 fun σ2 H2 => tb { D with nx := fun σ3 H3 => ∃ G3, Nx M G H G3 H3 ∧ Pv (i + 1) σ3 G3 H3, ct := fun σ3 H3 => ∃ G3, Nx M G H G3 H3 ∧ Pv (i + 1) σ3 G3 H3, bk := D.nx } σ2 H2)
    (hd : ∀ σ' G' H', Nx M G H G' H' → Pv ds.length σ' G' H' → D.nx σ' H') : ForW J g tb D σ H := by
  refine ⟨fun i m σ' H' => m = ds.length - i ∧ i ≤ ds.length ∧ ∃ G', Nx M G H G' H' ∧ Pv i σ' G' H', ⟨ds.length, by simp, Nat.zero_le _, G, Nx.refl e, h0⟩, ?_⟩
  rintro i m σ' H' ⟨rfl, hi, G', n, p⟩
  by_cases hlt : i < ds.length
  · refine .inr ⟨S.go i G' H' n hlt, fun σ3 H3 => ∃ G3, Nx M G H G3 H3 ∧ Pv (i + 1) σ3 G3 H3, fun σ3 H3 ⟨G3, n3, p3⟩ => ⟨ds.length - (i + 1), by omega, rfl, hlt, G3, n3, p3⟩, fun v H1 y => ?_⟩
    have hg : ds[i]? = some ds[i] := by simp [hlt]
    obtain ⟨G1, n1, d1⟩ := S.yld i _ G' H' v H1 n hg y
    exact hs i _ v σ' G' H' G1 H1 hg n p n1 d1
  · have e' : i = ds.length := by omega
    subst e'
    exact .inl ⟨S.stop _ G' H' n (Nat.le_refl _), hd σ' G' H' n p⟩
theorem wipe1 {σ : L2.St} {j : Nat} {v : V} : wipe ((wipe σ [j]).set j (some v)) [j] = wipe σ [j] := by
  show ((σ.set j none).set j (some v)).set j none = σ.set j none
  rw [List.set_set, List.set_set]
/-- THE COMPREHENSION over one name, with tests: Jv tells the items so far and what else holds of the heap -/
theorem g_lcH {A : Addr} {j : Nat} (S : Src K M J G H ds) (e : Ex G H) (hA : H A = none) (hM : ∀ b ∈ M, H b ≠ none) (hz : ds.length < sizeLine) (Jv : Nat → List PyData → Hp → Hp → Prop)
    (jA : ∀ i acc G' H' o, Jv i acc G' H' → Jv i acc G' (upd H' A o)) (jN : ∀ i acc G' H' G1 H1, Nx [] G' H' G1 H1 → Jv i acc G' H' → Jv i acc G1 H1) (j0 : Jv 0 [] G H)
    (hs : ∀ i d v acc G' H', ds[i]? = some d → Dp K G' v d → Nx M G H G' H' → acc.length ≤ i → Jv i acc G' H' → ∀ (QE : VK) (QN : Hp → Prop),
      (∀ y G4 H4 d', Nx M G' H' G4 H4 → Dp K G4 y d' → Jv (i + 1) (acc ++ [d']) G4 H4 → QE y H4) → (∀ G3 H3, Nx M G' H' G3 H3 → Jv (i + 1) acc G3 H3 → QN H3) →
      tt ((wipe σ [j]).set j (some v)) H' fun b H3 => if b = true then te ((wipe σ [j]).set j (some v)) H3 QE else QN H3)
    (hd : ∀ G' H' ys acc, Jv ds.length acc G' H' → Nx M G H G' H' → G' A = none → H' A = some (.lst ys) → DpAll K G' ys acc → Q (.ref A) H') : LcW J (gName j) tt te [j] σ A Q H := by
  have st0 : Nx [] G H G (upd H A (.lst [])) := Nx.own e hA
  refine ⟨fun i m H' => m = ds.length - i ∧ i ≤ ds.length ∧ ∃ G' ys acc, Nx M G H G' H' ∧ G' A = none ∧ H' A = some (.lst ys) ∧ DpAll K G' ys acc ∧ acc.length ≤ i ∧ Jv i acc G' H',
    ⟨ds.length, by simp, Nat.zero_le _, G, [], [], st0.pure, e.free hA, upd_same, .nil, Nat.le_refl _, jA _ _ _ _ _ j0⟩, ?_⟩
  rintro i m H' ⟨rfl, hi, G', ys, acc, n, gA, hys, da, hl, jv⟩
  have hAM : A ∉ M := fun z => hM A z hA
  by_cases hlt : i < ds.length
  · refine .inr ⟨S.go i G' H' n hlt, fun H'' => ∃ G'' ys acc, Nx M G H G'' H'' ∧ G'' A = none ∧ H'' A = some (.lst ys) ∧ DpAll K G'' ys acc ∧ acc.length ≤ i + 1 ∧ Jv (i + 1) acc G'' H'',
      fun H'' ⟨G'', ys', acc', r⟩ => ⟨ds.length - (i + 1), by omega, rfl, hlt, G'', ys', acc', r⟩, fun v H1 y => ?_⟩
    have hg : ds[i]? = some ds[i] := by simp [hlt]
    obtain ⟨G1, n1, d1⟩ := S.yld i _ G' H' v H1 n hg y
    have n2 : Nx M G H G1 H1 := n.trans n1.pure
    have gA1 : G1 A = none := n1.old A gA ⟨_, hys, fun _ z => nomatch z⟩
    have hys1 : H1 A = some (.lst ys) := n1.fr A _ (by simp) hys
    refine ⟨wipe1, hs i _ v acc G1 H1 hg d1 n2 hl (jN _ _ _ _ _ _ n1 jv) _ _ (fun y G4 H4 d' n4 dy jv' => ?_) (fun G3 H3 n3 jv' => ?_)⟩
    · have gA4 : G4 A = none := n4.old A gA1 ⟨_, hys1, fun _ z => nomatch z⟩
      have hys4 : H4 A = some (.lst ys) := n4.fr A _ hAM hys1
      have n5 : Nx M G H G4 H4 := n2.trans n4
      have n6 : Nx [A] G4 H4 G4 (upd H4 A (.lst (ys ++ [y]))) := Nx.set n4.gh gA4 (by simp)
      have n7 : Nx (A :: M) G H G4 (upd H4 A (.lst (ys ++ [y]))) := (n5.mono fun _ z => List.mem_cons_of_mem _ z).trans (n6.mono fun b z => by simp at z; simp [z])
      refine ⟨ys, hys4, ?_, G4, ys ++ [y], acc ++ [d'], n7.drop hA, gA4, upd_same, dpAll_snoc (dpAll_mono (n1.gg.trans n4.gg) da) dy, by simp; omega, jA _ _ _ _ _ jv'⟩
      have := dpAll_len da
      omega
    · exact ⟨G3, ys, acc, n2.trans n3, n3.old A gA1 ⟨_, hys1, fun _ z => nomatch z⟩, n3.fr A _ hAM hys1, dpAll_mono (n1.gg.trans n3.gg) da, by omega, jv'⟩
  · have e' : i = ds.length := by omega
    subst e'
    exact .inl ⟨S.stop _ G' H' n (Nat.le_refl _), hd G' H' ys acc jv n gA hys da⟩
theorem g_lcG {A : Addr} {j : Nat} (S : Src K M J G H ds) (e : Ex G H) (hA : H A = none) (hM : ∀ b ∈ M, H b ≠ none) (hz : ds.length < sizeLine) (P : Hp → Hp → Prop) (p0 : P G H) (pA : ∀ G' H' o, P G' H' → P G' (upd H' A o)) (pN : ∀ G' H' G1 H1, Nx [] G' H' G1 H1 → P G' H' → P G1 H1)
    (Jv : Nat → List PyData → Prop) (j0 : Jv 0 [])
    (hs : ∀ i d v acc G' H', ds[i]? = some d → Dp K G' v d → Nx M G H G' H' → P G' H' → acc.length ≤ i → Jv i acc → ∀ (QE : VK) (QN : Hp → Prop),
      (∀ y G4 H4 d', Nx M G' H' G4 H4 → P G4 H4 → Dp K G4 y d' → Jv (i + 1) (acc ++ [d']) → QE y H4) → (∀ G3 H3, Nx M G' H' G3 H3 → P G3 H3 → Jv (i + 1) acc → QN H3) →
      tt ((wipe σ [j]).set j (some v)) H' fun b H3 => if b = true then te ((wipe σ [j]).set j (some v)) H3 QE else QN H3)
    (hd : ∀ G' H' ys acc, Jv ds.length acc → Nx M G H G' H' → P G' H' → G' A = none → H' A = some (.lst ys) → DpAll K G' ys acc → Q (.ref A) H') : LcW J (gName j) tt te [j] σ A Q H :=
  g_lcH S e hA hM hz (fun i acc G' H' => P G' H' ∧ Jv i acc) (fun _ _ G' H' o h => ⟨pA G' H' o h.1, h.2⟩) (fun _ _ _ _ _ _ n h => ⟨pN _ _ _ _ n h.1, h.2⟩) ⟨p0, j0⟩
    (fun i d v acc G' H' a1 a2 a3 a4 a5 QE QN k1 k2 => hs i d v acc G' H' a1 a2 a3 a5.1 a4 a5.2 QE QN (fun y G4 H4 d' b1 b2 b3 b4 => k1 y G4 H4 d' b1 b3 ⟨b2, b4⟩) fun G3 H3 b1 b2 b3 => k2 G3 H3 b1 ⟨b2, b3⟩) fun G' H' ys acc a1 a2 a3 a4 a5 => hd G' H' ys acc a1.2 a2 a1.1 a3 a4 a5
theorem g_lcS {A : Addr} {j : Nat} (S : Src K M J G H ds) (e : Ex G H) (hA : H A = none) (hM : ∀ b ∈ M, H b ≠ none) (hz : ds.length < sizeLine) (Jv : Nat → List PyData → Prop) (j0 : Jv 0 [])
    (hs : ∀ i d v acc G' H', ds[i]? = some d → Dp K G' v d → Nx M G H G' H' → acc.length ≤ i → Jv i acc → ∀ (QE : VK) (QN : Hp → Prop),
      (∀ y G4 H4 d', Nx M G' H' G4 H4 → Dp K G4 y d' → Jv (i + 1) (acc ++ [d']) → QE y H4) → (∀ G3 H3, Nx M G' H' G3 H3 → Jv (i + 1) acc → QN H3) →
      tt ((wipe σ [j]).set j (some v)) H' fun b H3 => if b = true then te ((wipe σ [j]).set j (some v)) H3 QE else QN H3)
    (hd : ∀ G' H' ys acc, Jv ds.length acc → Nx M G H G' H' → G' A = none → H' A = some (.lst ys) → DpAll K G' ys acc → Q (.ref A) H') : LcW J (gName j) tt te [j] σ A Q H :=
  g_lcG S e hA hM hz (fun _ _ => True) trivial (fun _ _ _ _ => trivial) (fun _ _ _ _ _ _ => trivial) Jv j0 (fun i d v acc G' H' a1 a2 a3 _ a4 a5 QE QN k1 k2 => hs i d v acc G' H' a1 a2 a3 a4 a5 QE QN (fun y G4 H4 d' b1 b2 b3 => k1 y G4 H4 d' b1 trivial b2 b3) fun G3 H3 b1 b2 => k2 G3 H3 b1 trivial b2) fun G' H' ys acc a1 a2 _ a3 a4 a5 => hd G' H' ys acc a1 a2 a3 a4 a5
/-- .. that maps: es by place -/
theorem g_lcMap {A : Addr} {j : Nat} {es : List PyData} (S : Src K M J G H ds) (e : Ex G H) (hA : H A = none) (hM : ∀ b ∈ M, H b ≠ none) (hz : ds.length < sizeLine) (hl : es.length = ds.length)
    (hs : ∀ (i : Nat) d d' v G' H', ds[i]? = some d → es[i]? = some d' → Dp K G' v d → Nx M G H G' H' → ∀ (QE : VK), (∀ y G4 H4, Nx M G' H' G4 H4 → Dp K G4 y d' → QE y H4) → te ((wipe σ [j]).set j (some v)) H' QE)
    (hd : ∀ G' H' ys, Nx M G H G' H' → G' A = none → H' A = some (.lst ys) → DpAll K G' ys es → Q (.ref A) H') : LcW J (gName j) tYes te [j] σ A Q H := by
  refine g_lcS S e hA hM hz (fun i acc => acc = es.take i) (by simp) (fun i d v acc G' H' hi dv n _ hj QE QN k1 k2 => ?_) (fun G' H' ys acc hj n g h da => ?_)
  · show (if true = true then te ((wipe σ [j]).set j (some v)) H' QE else QN H')
    rw [if_pos rfl]
    have hlt : i < es.length := by rw [hl]; exact (List.getElem?_eq_some_iff.mp hi).1
    refine hs i d es[i] v G' H' hi (by simp [hlt]) dv n QE fun y G4 H4 n4 dy => k1 y G4 H4 es[i] n4 dy ?_
    rw [hj, List.take_add_one]
    simp [hlt]
  · refine hd G' H' ys n g h ?_
    rw [hj, ← hl, List.take_length] at da
    exact da
end
end Y

namespace Y
open PySem PySem.Spec PyProof.Rows L2
/-! ### data of a size that the machine takes -/
mutual
def fit : PyData → Bool
  | .none => true
  | .bool _ => true
  | .int _ => true
  | .str s => decide (s.length ≤ 100000) && PyData.strOk s
  | .list xs => decide (xs.length ≤ 100000) && fitAll xs
  | .tuple xs => decide (xs.length ≤ 100000) && fitAll xs
  | .dict _ => false
def fitAll : List PyData → Bool
  | [] => true
  | x :: xs => fit x && fitAll xs
end
theorem fit_get : ∀ {xs : List PyData} {i : Nat} {d : PyData}, fitAll xs = true → xs[i]? = some d → fit d = true
  | [], i, d, _, h => by simp at h
  | x :: xs, 0, d, f, h => by
    rw [fitAll, Bool.and_eq_true] at f
    cases h
    exact f.1
  | x :: xs, i + 1, d, f, h => by
    rw [fitAll, Bool.and_eq_true] at f
    exact fit_get (i := i) f.2 h
theorem fit_str {s : Str} (h : fit (.str s) = true) : s.length ≤ sizeLine := by
  rw [fit, Bool.and_eq_true] at h
  exact Nat.le_trans (of_decide_eq_true h.1) (by decide)
theorem fit_tup {xs : List PyData} (h : fit (.tuple xs) = true) : xs.length ≤ 100000 ∧ fitAll xs = true := by
  rw [fit, Bool.and_eq_true] at h
  exact ⟨of_decide_eq_true h.1, h.2⟩
theorem fit_lst {xs : List PyData} (h : fit (.list xs) = true) : xs.length ≤ 100000 ∧ fitAll xs = true := by
  rw [fit, Bool.and_eq_true] at h
  exact ⟨of_decide_eq_true h.1, h.2⟩
theorem fitAll_iff : ∀ {xs : List PyData}, fitAll xs = true ↔ ∀ d ∈ xs, fit d = true
  | [] => by simp [fitAll]
  | x :: xs => by
    rw [fitAll, Bool.and_eq_true, fitAll_iff (xs := xs)]
    simp
theorem szl {n : Nat} (h : n ≤ 100000) : n < sizeLine := Nat.lt_of_le_of_lt h (by decide)
theorem szle {n : Nat} (h : n ≤ 100000) : n ≤ sizeLine := Nat.le_of_lt (szl h)
theorem canLay_fit : ∀ d : PyData, fit d = true → d.canLay0 = true
  | .none, _ => rfl
  | .bool _, _ => rfl
  | .int _, _ => rfl
  | .str s, h => by
    rw [PyData.canLay0]
    rw [fit, Bool.and_eq_true] at h
    exact h.2
  | .list xs, h => by
    rw [PyData.canLay0]
    exact canLayAll_fit xs (fit_lst h).2
  | .tuple xs, h => by
    rw [PyData.canLay0]
    exact canLayAll_fit xs (fit_tup h).2
  | .dict _, h => by rw [fit] at h; cases h
where canLayAll_fit : ∀ xs : List PyData, fitAll xs = true → PyData.canLayAll0 xs = true
  | [], _ => rfl
  | x :: xs, h => by
    rw [fitAll, Bool.and_eq_true] at h
    rw [PyData.canLayAll0, canLay_fit x h.1, canLayAll_fit xs h.2]
    rfl
/-- shaped: data of a depth that is written -/
theorem shaped_fit {d : PyData} (h : fit d = true) (hd : d.depth ≤ 64) : SeqAt.shaped d = true := by
  unfold SeqAt.shaped
  rw [canLay_fit d h, decide_eq_true hd]
  rfl
end Y

namespace PySem
namespace YEn
open PySem PyProof.Rows
theorem new1 {v : Value} {o : Obj} {H : Heap → Prop} (B : Begins v o H) :
    Meets (Builtin.«enumerate.__new__» ⟨[.type "enumerate", v], []⟩) (fun _ R s => H s.heap ∧
      R (.ok (.ret (.ref (s.heap.push o).objs.size))) { s with heap := (s.heap.push o).push { cls := .type "enumerate", data := .fields #[.none, .bool false, .ref s.heap.objs.size, rawInt 0, .none, .none] } }) :=
  .of_wp fun prog w A R s h => by
    obtain ⟨hp, g, d, tk, os⟩ := s; obtain ⟨h1, h⟩ := h
    have hsub := sub_enumerate
    have q1 : ∀ {A' : Around} {E : Value → Shared → Prop} {Q : Value → Shared → Prop}, Q (.ref hp.objs.size) ⟨hp.push o, g, d, tk, os⟩ → wpAny (model prog w) A' (pyIter v) Q E ⟨hp, g, d, tk, os⟩ :=
      fun q => B.iter prog w _ _ ⟨hp, g, d, tk, os⟩ _ h1 q
    wp_walk using q1
    refine wpAny_stack_any fun st => wpAny_pure ?_
    split
    · rename_i c _ _ _ _ _
      cases (c == Value.type "enumerate")
      · wp_walk using q1
        exact ⟨_, rfl, h⟩
      · wp_walk using q1
        exact ⟨_, rfl, h⟩
    · wp_walk using q1
      exact ⟨_, rfl, h⟩
section
variable {prog : Program} {w : World} {A : Around} {E : Value → Shared → Prop} {s : Shared}
theorem begins1 {v : Value} {o : Obj} {H : Heap → Prop} {Q : Value → Shared → Prop} (B : Begins v o H) (h1 : H s.heap)
    (h : ∀ h', IsEnum h' (s.heap.objs.size + 1) s.heap.objs.size 0 .none → h'.get? s.heap.objs.size = some o → h'.objs.size = s.heap.objs.size + 2 →
      (∀ b o, s.heap.get? b = some o → h'.get? b = some o) → Q (.ref (s.heap.objs.size + 1)) { s with heap := h' }) :
    wpAny (model prog w) A (call (.type "enumerate") [v]) Q E s := by
  refine callType_new F.called_enumerate (by decide) (F.typeCall_enumerate_1 _) (F.newCall_enumerate_1 _) (fun obj => F.args_object_init_2 obj _) F.entry_enumerate_new
    (new1 B) ⟨h1, ?_⟩
  have hz : (s.heap.push o).objs.size = s.heap.objs.size + 1 := Heap.size_push ..
  show _ ∧ _
  rw [hz]
  have he : IsEnum ((s.heap.push o).push { cls := .type "enumerate", data := .fields #[.none, .bool false, .ref s.heap.objs.size, rawInt 0, .none, .none] }) (s.heap.objs.size + 1) s.heap.objs.size 0 .none := by
    have := Heap.get?_push_size (s.heap.push o) (o := { cls := .type "enumerate", data := .fields #[.none, .bool false, .ref s.heap.objs.size, rawInt 0, .none, .none] }) rfl
    rw [hz] at this; exact this
  refine ⟨⟨_, he, rfl⟩, h _ he (Heap.get?_push_of_some _ (Heap.get?_push_size _ B.free)) (by rw [Heap.size_push, hz]) fun b o x => Heap.get?_push_of_some _ (Heap.get?_push_of_some _ x)⟩
end
end YEn
end PySem
namespace Y
open PySem PySem.Spec PyProof.Rows L2
/-- the tuple at a, each item in a new pair -/
def Itu (K : PySem.W.Frag) (a : Addr) : It :=
  ⟨fun i H => ∃ (xs : List V) (x : V), SqT K H a xs ∧ xs[i]? = some x, fun i H v H' => ∃ T x, v = .ref T ∧ H T = none ∧ H' = upd H T (.tup [.int (i : Nat), x]) ∧ ∀ xs, SqT K H a xs → xs[i]? = some x, fun i H => ∃ xs : List V, SqT K H a xs ∧ xs.length ≤ i⟩
theorem turn_enumT {P : Program} {w : World} {K : PySem.W.Frag} {elts : List Expr} {kk : Nat} {tpos : Pos} (a e it : Addr) (items : Array Value) (hae : a ≠ it) :
    Turn P w K (.Tuple elts kk tpos) (Itu K a) [e, it] e (fun i h => (∃ old, IsEnum h e it ((i : Nat) : Int) old) ∧ h.IsTupleIter it a i ∧ e ≠ it) where
  mem := by simp
  obj := fun i h st b hb => by
    obtain ⟨⟨old, he⟩, ⟨o, ho, hc, hd⟩, _⟩ := st
    have e' : b = e ∨ b = it := by simpa using hb
    rcases e' with z | z
    · rw [z]; exact ⟨_, he, fun v q => nomatch q⟩
    · rw [z]; exact ⟨o, ho, fun v q => by rw [hd] at q; cases q⟩
  keep := fun i h h' st k => let ⟨⟨old, he⟩, hi, hne⟩ := st; ⟨⟨old, k e (by simp) _ he⟩, hi.at fun o q => k it (by simp) o q, hne⟩
  item := by
    intro X hP hw hK hc i pins s σ H E I hf st hg
    subst hP hw hK
    obtain ⟨⟨old, he⟩, hit, hne⟩ := st
    obtain ⟨xs, x, hq, hx⟩ := hg
    obtain ⟨its, rv, p, hz⟩ := I.tuple hq
    obtain ⟨u, hu, ru⟩ := rv.get hx
    have hel : e < s.heap.objs.size := Heap.lt_size he
    have D := Draws.tuple (prog := X.prog) (w := X.w) (A := X.A.in1) (I.ok.hd hc) it a hae its.toArray
    have hea : e ≠ a := fun z => by
      obtain ⟨o, ho, ho2, _⟩ := p
      rw [← z, he] at ho; cases ho; injection ho2 with h3; exact absurd h3 (by decide)
    have hlt : i < its.toArray.size := by
      have := (List.getElem?_eq_some_iff.mp hu).1
      simpa using this
    refine wpAny_pyNext_enum_itemD D he ⟨hit, p⟩ hlt hne (by simp [hne, hea]) fun y h' tk hy ho hst' hT hsz hk => ?_
    have ey : y = u := by
      have : its.toArray[i]? = some u := by simpa using hu
      rw [this] at hy
      exact (Option.some.inj hy).symm
    subst ey
    refine ⟨_, rfl, wpAny_letOwnedTupleGo_enum (s := { s with heap := h', toks := tk + 1 }) ho fun h'' he' sb => ?_⟩
    have hT2 : h''.get? s.heap.objs.size = some { cls := .type "tuple", data := .seq #[.int i tk, y] } := (sb.2 _ (Nat.ne_of_gt hel)).trans hT
    have new : ObjOk X.prog X.w (upd H s.heap.objs.size (.tup [.int (i : Nat), x])) h'' s.heap.objs.size (.tup [.int (i : Nat), x]) :=
      ⟨by show 2 ≤ sizeLine; decide, [.int i tk, y], .cons ⟨_, rfl⟩ (.cons ru .nil), ⟨_, hT2, rfl, _, rfl⟩⟩
    have I1 : Inv X pins σ (upd H s.heap.objs.size (.tup [.int (i : Nat), x])) { s with heap := h'', toks := tk + 1 } :=
      I.turnedNew (ch := [e, it]) (fun b ob hb q => (sb.2 b (fun z => hb (by simp [z]))).trans (hk b ob (fun z => hb (by simp [z])) (fun z => hb (by simp [z])) q)) hf (Nat.le_refl _) new
    refine ⟨.ref s.heap.objs.size, _, I1, rfl, ⟨_, x, rfl, I.hok.fresh (Nat.le_refl _), rfl, fun ys hy => by rw [I.tuple_inj hy hq]; exact hx⟩, ⟨⟨y, ?_⟩, hst'.1.at fun o q => (sb.2 it (Ne.symm hne)).trans q, hne⟩, fun b hb => ?_⟩
    · have e1 : ((i + 1 : Nat) : Int) = (i : Int) + 1 := by omega
      rw [e1]; exact he'
    · have hil : it < s.heap.objs.size := by obtain ⟨_, q, _⟩ := hit; exact Heap.lt_size q
      have e' : b = e ∨ b = it := by simpa using hb
      have hb' : b < s.heap.objs.size := by
        rcases e' with z | z
        · rw [z]; exact hel
        · rw [z]; exact hil
      rw [upd_ne (Nat.ne_of_lt hb')]
      exact (hf b hb).1
  done := by
    intro X hP hw hK hc i pins s σ H E I hf st hg
    subst hP hw hK
    obtain ⟨⟨old, he⟩, hit, hne⟩ := st
    obtain ⟨xs, hq, hx⟩ := hg
    obtain ⟨its, rv, p, hz⟩ := I.tuple hq
    obtain ⟨f0, f1, f2, f3, f4, f5⟩ := hf it (by simp)
    have hl := rv.length
    have hT : s.TypeIs (.ref e) "enumerate" := ⟨_, he, rfl⟩
    unfold pyNext
    refine wpAny_bind (wpAny_attempt (wpAny_callSpecial?_slot (name := Str.ofString "__next__") hT F.slot_enumerate_next
      (wpAny_call_entry F.slot_enumerate_next hT F.entry_enumerate_next ?_ (F.args_enumerate_next_1 _))))
    show wpAny _ _ (field (.ref e) 2 >>= _) _ _ _
    refine wpAny_bind (wpAny_field he rfl (x := .ref it) rfl ?_)
    refine wpAny_bind (wpAny_nextOf_tuple_end (I.ok.hd hc) hit p (by simp; omega) fun h' x eb hx' => ?_)
    obtain ⟨o, ho, hcl⟩ := hx'
    refine wpAny_bind (wpAny_isInstance (T := "StopIteration") (b := true) ⟨o, ho, hcl⟩ isSubtype_stop ?_)
    exact wpAny_pure ⟨rfl, I.turned (t' := s.toks) (fun b o hb q => eb b o hb q) f0 f1 f3 f4 f5⟩
  self := fun A i s Q E st h => let ⟨⟨_, he⟩, _⟩ := st; wpAny_pyIter_enum he h
def iEnT (K : PySem.W.Frag) (ta : TA) : TI := fun σ H R => ta σ H fun vs H1 => ∃ a xs, vs = [.ref a] ∧ SqT K H1 a xs ∧ R (Itu K a) H1
theorem pi_enumT {X : Cx} {e : Expr} {ta : TA} {p pos tpos : Pos} {elts : List Expr} {kk : Nat} (hg : Gl X "enumerate") (hm : X.mg "enumerate" = none) (ha : PA X [e] ta) (hs : starEach [e] X.env = [(false, eval e X.env)] := by rfl) :
    PI X (.Tuple elts kk tpos) (.Call (.Name "enumerate" p) [e] [] pos) (iEnT X.K ta) := by
  refine ⟨fun pins s σ H R I h => ?_⟩
  refine Call_ (ld_blt I hg hm boot_enumerate (PyProof.Rows.callWith_type1 (thn (ha.run pos pins s σ H _ I h) fun us s1 ⟨vs, H1, I1, r1, q1⟩ => ?_) hs rfl))
  obtain ⟨a, xs, ex, hq, q⟩ := q1
  subst ex
  cases r1 with
  | cons r rr =>
    cases rr
    cases r
    obtain ⟨its, rv, p', hz⟩ := I1.tuple hq
    have hal : a < s1.heap.objs.size := by obtain ⟨o, ho, _⟩ := p'; exact Heap.lt_size ho
    refine PySem.YEn.begins1 (begins_tuple a its.toArray) p' fun h' he hit hsz hk => wpAny_pyIter_enum he ?_
    have I2 : Inv X pins σ H1 { s1 with heap := h' } := I1.kept (t' := s1.toks) hk
    have hit2 : h'.IsTupleIter s1.heap.objs.size a 0 := ⟨_, hit, rfl, rfl⟩
    refine ⟨s1.heap.objs.size + 1, [s1.heap.objs.size + 1, s1.heap.objs.size], _, _, H1, rfl, I2, turn_enumT a (s1.heap.objs.size + 1) s1.heap.objs.size its.toArray (Nat.ne_of_lt hal), ⟨⟨.none, he⟩, hit2, Nat.succ_ne_self _⟩, fun b hb => ?_, q⟩
    have e' : b = s1.heap.objs.size + 1 ∨ b = s1.heap.objs.size := by simpa using hb
    have hle : s1.heap.objs.size ≤ b := by
      rcases e' with z | z
      · rw [z]; exact Nat.le_add_right _ _
      · rw [z]; exact Nat.le_refl _
    exact I1.fpOk hle (I1.hok.fresh hle)
section
variable {K : PySem.W.Frag} {σ : L2.St} {G H : Hp} {Q : VK} {x : V} {ds : List PyData} {ta : TA} {R : It → Hp → Prop}
theorem src_enumT {M : List Addr} {a : Addr} {xs : List V} (hs : SqT K G a xs) (hd : DpAll K G xs ds) : Src K M (Itu K a) G H (prs 0 ds) where
  go := fun i G' H' n hi => ⟨xs, xs[i]'(by rw [dpAll_len hd, ← prs_len 0 ds]; exact hi), n.gh.seqT (n.gg.seqT hs), by rw [prs_len] at hi; simp [dpAll_len hd, hi]⟩
  stop := fun i G' H' n hi => ⟨xs, n.gh.seqT (n.gg.seqT hs), by rw [dpAll_len hd, ← prs_len 0 ds]; exact hi⟩
  yld := fun i d G' H' x H'' n hi y => by
    obtain ⟨T, u, rfl, hT, rfl, f⟩ := y
    have hx := f xs (n.gh.seqT (n.gg.seqT hs))
    rw [prs_get] at hi
    cases q : ds[i]? with
    | none => rw [q] at hi; cases hi
    | some d0 =>
      rw [q] at hi
      cases hi
      obtain ⟨v, hv, dv⟩ := dpAll_get hd q
      rw [hx] at hv
      cases hv
      have h2 := nx_tup (K := K) n.gh (xs := [.int ((i : Nat) : Int), u]) (ds := [.int ((0 + i : Nat) : Int), d0]) (by rw [Nat.zero_add]; exact .cons (.int _) (.cons (dp_mono n.gg dv) .nil)) hT
      exact ⟨_, h2.1, h2.2⟩
theorem g_iEnT (q : ta σ H fun vs H1 => ∃ a xs, vs = [.ref a] ∧ SqT K H1 a xs ∧ R (Itu K a) H1) : iEnT K ta σ H R := q
theorem g_walkEt {P : Addr → Prop} (e : Ex G H) (h : Dp K G x (.tuple ds)) (q : ∀ a, x = .ref a → (∀ M, Src K M (Itu K a) G H (prs 0 ds)) → P a) : ∃ a xs, [x] = [.ref a] ∧ SqT K H a xs ∧ P a := by
  obtain ⟨a, xs, rfl, hs, hd⟩ := dp_tup h
  exact ⟨a, xs, rfl, e.seqT hs, q a rfl fun M => src_enumT hs hd⟩
end
end Y

namespace Y
open PySem PySem.Spec PyProof.Rows L2
section
variable {K : PySem.W.Frag} {σ : L2.St} {G H : Hp} {R : L2.St → Hp → Prop} {v : V} {d1 d2 d3 d4 d5 : PyData} {i j k l m : Nat}
theorem g_un2 (e : Ex G H) (h : Dp K G v (.tuple [d1, d2])) (q : ∀ v1 v2, Dp K G v1 d1 → Dp K G v2 d2 → R ((σ.set i (some v1)).set j (some v2)) H) : gTup K 2 (gCons (gName i) (gCons (gName j) gNil)) v σ H R := by
  obtain ⟨a, xs, rfl, hs, hd⟩ := dp_tup h
  cases hd with
  | cons h1 t => cases t with
    | cons h2 t => cases t; exact ⟨a, _, rfl, e.seqT hs, rfl, _, _, rfl, _, _, rfl, rfl, q _ _ h1 h2⟩
theorem g_un3 (e : Ex G H) (h : Dp K G v (.tuple [d1, d2, d3])) (q : ∀ v1 v2 v3, Dp K G v1 d1 → Dp K G v2 d2 → Dp K G v3 d3 → R (((σ.set i (some v1)).set j (some v2)).set k (some v3)) H) : gTup K 3 (gCons (gName i) (gCons (gName j) (gCons (gName k) gNil))) v σ H R := by
  obtain ⟨a, xs, rfl, hs, hd⟩ := dp_tup h
  cases hd with
  | cons h1 t => cases t with
    | cons h2 t => cases t with
      | cons h3 t => cases t; exact ⟨a, _, rfl, e.seqT hs, rfl, _, _, rfl, _, _, rfl, _, _, rfl, rfl, q _ _ _ h1 h2 h3⟩
theorem g_un5 (e : Ex G H) (h : Dp K G v (.tuple [d1, d2, d3, d4, d5])) (q : ∀ v1 v2 v3 v4 v5, Dp K G v1 d1 → Dp K G v2 d2 → Dp K G v3 d3 → Dp K G v4 d4 → Dp K G v5 d5 → R (((((σ.set i (some v1)).set j (some v2)).set k (some v3)).set l (some v4)).set m (some v5)) H) :
    gTup K 5 (gCons (gName i) (gCons (gName j) (gCons (gName k) (gCons (gName l) (gCons (gName m) gNil))))) v σ H R := by
  obtain ⟨a, xs, rfl, hs, hd⟩ := dp_tup h
  cases hd with
  | cons h1 t => cases t with
    | cons h2 t => cases t with
      | cons h3 t => cases t with
        | cons h4 t => cases t with
          | cons h5 t => cases t; exact ⟨a, _, rfl, e.seqT hs, rfl, _, _, rfl, _, _, rfl, _, _, rfl, _, _, rfl, _, _, rfl, rfl, q _ _ _ _ _ h1 h2 h3 h4 h5⟩
theorem dp_non_iff {d : PyData} (h : Dp K G v d) : v = .non ↔ d = .none := by
  constructor
  · intro e; subst e; cases h; rfl
  · intro e; subst e; exact dp_non h
end
def isNn : PyData → Bool
  | .none => true
  | _ => false
theorem isNn_iff {d : PyData} : isNn d = true ↔ d = .none := by cases d <;> simp [isNn]
theorem isNn_f {d : PyData} (h : ¬ d = .none) : isNn d = false := by
  cases e : isNn d with
  | true => exact absurd (isNn_iff.mp e) h
  | false => rfl
/-- lengths of data -/
def dlen : PyData → Nat
  | .tuple xs => xs.length
  | .list xs => xs.length
  | .str s => s.length
  | _ => 0
end Y

namespace Y
open PySem PySem.Spec PyProof.Rows L2
/-! ### the rules with the written part by name -/
section
variable {X : Cx} {K : PySem.W.Frag}
theorem ix_listK (h : X.K = K) : IxR X (rIxL K) := h ▸ ix_list
theorem ix_tupK (h : X.K = K) : IxR X (rIxT K) := h ▸ ix_tup
theorem call_lenK (h : X.K = K) : CallR X (.builtin "len") (rLen K) := h ▸ call_len
theorem call_isiK (h : X.K = K) : CallR X (.builtin "isinstance") (rIsi K) := h ▸ call_isi
theorem call_listK (h : X.K = K) : CallR X (.type "list") (rListOf K) := h ▸ call_list
theorem call_tupleK (h : X.K = K) : CallR X (.type "tuple") (rTupOf K) := h ▸ call_tuple
theorem cr_allK (h : X.K = K) (hc : X.calm = true) : CallR X (.builtin "all") (rAll K) := h ▸ cr_all hc
theorem cr_anyK (h : X.K = K) (hc : X.calm = true) : CallR X (.builtin "any") (rAny K) := h ▸ cr_any hc
theorem cr_sumK (h : X.K = K) (hc : X.calm = true) : CallR X (.builtin "sum") (rSum K) := h ▸ cr_sum hc
theorem cr_maxK (h : X.K = K) (hc : X.calm = true) : CallR X (.builtin "max") (rMax K) := h ▸ cr_max hc
theorem cr_minK (h : X.K = K) (hc : X.calm = true) : CallR X (.builtin "min") (rMin K) := h ▸ cr_min hc
theorem op_eqDK (h : X.K = K) (hu : X.A.units + 64 < cLine) : OpR X (compareOp .Eq) (rEqD K) := h ▸ op_eqD hu
theorem op_neDK (h : X.K = K) (hu : X.A.units + 64 < cLine) : OpR X (compareOp .NotEq) (rNeD K) := h ▸ op_neD hu
theorem op_catAK (h : X.K = K) : OpR X (binaryOp .Add) (rCatA K) := h ▸ op_catA
theorem op_repTK (h : X.K = K) : OpR X (binaryOp .Mult) (rRepT K) := h ▸ op_repT
theorem op_inK (h : X.K = K) : OpR X (compareOp .In) (rIn K false) := h ▸ op_in_seq
theorem op_notInK (h : X.K = K) : OpR X (compareOp .NotIn) (rIn K true) := h ▸ op_notIn_seq
theorem sl_listK (h : X.K = K) : SlR X (rSlL K) := h ▸ sl_list
theorem sl_tupAK (h : X.K = K) : SlR X (rSlA K) := h ▸ sl_tupA
variable {l o e e2 value tg : Expr} {es elts : List Expr} {f name : Str} {pos pos' apos cpos p tpos : Pos} {tl ta tv te to : TE} {kk n k : Nat} {t : TA} {ts : TGs} {T id : String} {r : V → List V → Hp → VK → Prop}
theorem pi_listK (h : X.K = K) (hl : PE X l tl) : PI X tg l (iList K tl) := h ▸ pi_list hl
theorem pi_tupK (h : X.K = K) (hl : PE X l tl) : PI X tg l (iTup K tl) := h ▸ pi_tup hl
theorem pi_enumK (h : X.K = K) (hg : Gl X "enumerate") (hm : X.mg "enumerate" = none) (ha : PA X [e] t) (hs : starEach [e] X.env = [(false, eval e X.env)] := by rfl) :
    PI X (.Tuple elts kk tpos) (.Call (.Name "enumerate" p) [e] [] pos) (iEnum K t) := h ▸ pi_enum hg hm ha hs
theorem pi_enumTK (h : X.K = K) (hg : Gl X "enumerate") (hm : X.mg "enumerate" = none) (ha : PA X [e] t) (hs : starEach [e] X.env = [(false, eval e X.env)] := by rfl) :
    PI X (.Tuple elts kk tpos) (.Call (.Name "enumerate" p) [e] [] pos) (iEnT K t) := h ▸ pi_enumT hg hm ha hs
theorem pi_zipK (h : X.K = K) (hg : Gl X "zip") (hm : X.mg "zip" = none) (ha : PA X [e, e2] t)
    (hs : starEach [e, e2] X.env = (false, eval e X.env) :: starEach [e2] X.env := by rfl) (hpl : (backTo pos (starEach [e2] X.env)).any (·.1) = false := by rfl) :
    PI X (.Tuple elts kk tpos) (.Call (.Name "zip" p) [e, e2] [] pos) (iZip K t) := h ▸ pi_zip hg hm ha hs hpl
theorem pi_reversedK (h : X.K = K) (hg : Gl X "reversed") (hm : X.mg "reversed" = none) (ha : PA X [e] t) (hs : starEach [e] X.env = [(false, eval e X.env)] := by rfl) : PI X tg (.Call (.Name "reversed" p) [e] [] pos) (iRev K t) := h ▸ pi_reversed hg hm ha hs
theorem pg_tupK (h : X.K = K) (hc : X.calm = true) (hp : PGs X es ts) (hn : (assignEach es X.env).length = n := by rfl) (hst : (assignEach es X.env).findIdx? (·.1) = none := by rfl) : PG X (.Tuple es k pos) (gTup K n ts) := h ▸ pg_tup hc hp hn hst
theorem pg_lstK (h : X.K = K) (hc : X.calm = true) (hp : PGs X es ts) (hn : (assignEach es X.env).length = n := by rfl) (hst : (assignEach es X.env).findIdx? (·.1) = none := by rfl) : PG X (.Tuple es k pos) (gLst K n ts) := h ▸ pg_lst hc hp hn hst
theorem pe_fldK (h : X.K = K) (he : PE X e ta) (hb : attributeBase e f X.env (eval e X.env) = eval e X.env) : PE X (.Attribute e f pos) (tFld K ta f) := h ▸ pe_fld he hb
theorem ps_fldK (h : X.K = K) (ha : PE X o ta) (hv : PE X value tv) (hs : swapsWith value (some (.Attribute o f pos')) pos.line X.env = pure false) : PS X (.Assign [.Attribute o f pos'] value pos) (sFld K ta tv f) := h ▸ ps_fld ha hv hs
theorem pe_bmK (h : X.K = K) (pa : PlainAttrs T) (slot : Slot T name id) (hty : typeOf (.builtin id) = pure (.type "method_descriptor")) (hm : MtR X id r) (ho : PE X o to) (ha : PA X (e :: es) t)
    (hbase : attributeBase o name X.env (eval o X.env) = eval o X.env := by rfl)
    (hfew : ((backTo cpos (starEach (e :: es) X.env)).all (fun x => !x.1) && (backToKw cpos (keywordEach [] X.env)).all (fun x => x.1.isSome)
      && decide ((e :: es).length + ([] : List Keyword).length + (if ([] : List Keyword).isEmpty then 0 else 1) < 30)) = true := by rfl)
    (hline : (apos.endLine == cpos.line) = true := by rfl) (hs : starEach (e :: es) X.env = (false, eval e X.env) :: starEach es X.env := by rfl) (hplain : (backTo cpos (starEach es X.env)).any (·.1) = false := by rfl) :
    PE X (.Call (.Attribute o name apos) (e :: es) [] cpos) (tBM K T r to t) := h ▸ pe_bm pa slot hty hm ho ha hbase hfew hline hs hplain
theorem pe_bm0K (h : X.K = K) (pa : PlainAttrs T) (slot : Slot T name id) (hty : typeOf (.builtin id) = pure (.type "method_descriptor")) (hm : MtR X id r) (ho : PE X o to)
    (hbase : attributeBase o name X.env (eval o X.env) = eval o X.env := by rfl) (hline : (apos.endLine == cpos.line) = true := by rfl) :
    PE X (.Call (.Attribute o name apos) [] [] cpos) (tBM0 K T r to) := h ▸ pe_bm0 pa slot hty hm ho hbase hline
def rJoin (K : PySem.W.Frag) : V → List V → Hp → VK → Prop := fun x xs H Q => ∃ a p, ∃ ys : List Str, x = .str a ∧ xs = [.ref p] ∧ (SqL K H p (ys.map V.str) ∨ SqT K H p (ys.map V.str)) ∧
      (ys.map (·.length)).sum + ys.length * a.length ≤ 16777216 ∧ Q (.str (Txt.join a ys)) H
theorem pe_joinK (h : X.K = K) (ho : PE X o to) (he : PE X e te) (hs : starEach [e] X.env = [(false, eval e X.env)] := by rfl) (hbase : attributeBase o "join" X.env (eval o X.env) = eval o X.env := by rfl) (hline : (apos.endLine == pos.line) = true := by rfl) :
    PE X (.Call (.Attribute o "join" apos) [e] [] pos) (tM1 (rJoin K) to te) := h ▸ pe_join ho he hs hbase hline
end
theorem dec_ni (a b : Nat) : decide ((a : Int) = (b : Int)) = decide (a = b) := by rw [decide_eq_decide]; omega
end Y

namespace Y
open PySem PySem.Spec PyProof.Rows L2
/-! ### an exception in the air of a body or of a comprehension's block: the frame L that notes it is told -/
def XEL (X : Cx) (E : XK) (L : Addr) (u : Value) (s' : Shared) : Prop :=
  ∃ (a : Addr) (B : Heap) (sI : Shared) (pins : List (Addr × Obj)) (σ : L2.St) (H : Hp) (cls : Value) (d : Option Addr),
    u = .ref a ∧ Inv X pins σ H sI ∧ (∀ b o, sI.heap.get? b = some o → b ∉ frs X.stack → B.get? b = some o) ∧ sI.heap.UpToSlots s'.heap ∧
      Sky B X.stack a (Zc cls d) L s'.heap ∧ H a = none ∧ s'.os = sI.os ∧ AllBare s'.gens ∧ E cls d H
def TakesL (X : Cx) (E : XK) (L : Addr) : Prop := ∀ u s', XEL X E L u s' → X.xe u s'
theorem takesL_of {X : Cx} {E : XK} (t : Takes X fun cls d _ H => E cls d H) : TakesL X E X.env.locals := fun u s' ⟨a, B, sI, pins, σ, H, cls, d, e, I, r⟩ => t u s' ⟨a, B, sI, pins, σ, H, cls, d, e, I, r⟩
theorem takes_ofL {X : Cx} {E : XK} (t : TakesL X E X.env.locals) : Takes X fun cls d _ H => E cls d H := fun u s' ⟨a, B, sI, pins, σ, H, cls, d, e, I, r⟩ => t u s' ⟨a, B, sI, pins, σ, H, cls, d, e, I, r⟩
/-- a call's exception is in flight: it is in our air, whatever frame is told -/
theorem passL {X : Cx} {E : XK} {L : Addr} (t : TakesL X E L) : Passes (L2.CX X.prog X.w) X E := fun pins σ H s u s' I c => by
  obtain ⟨a, B, sI, pins', σ', H', cls, d, rfl, J, nb, up, sky, na, os, ag, w⟩ := XE.of_call (W := fun cls d _ H => E cls d H) I (fun _ _ _ h => h) c
  obtain ⟨a2, B2, H2, cls2, d2, e2, fl, _⟩ := c
  have ea : a2 = a := by injection e2 with z; exact z.symm
  subst ea
  refine t _ _ ⟨a2, B, sI, pins', σ', H', cls, d, rfl, J, nb, up, ?_, na, os, ag, w⟩
  obtain ⟨_, _, _, oe, vs, T, oT, ts, he, _, hd, h1, _, _, hT, hdT, h3⟩ := fl
  rcases sky with ⟨_, _, _, oe', vs', he', _, hd', h1'⟩ | z | ⟨_, _, _, oe', vs', T', oT', ts', he', _, hd', h1', _, _, hT', hdT', h3'⟩
  · rw [he] at he'; cases he'; rw [hd] at hd'; cases hd'; rw [h1] at h1'; cases h1'
  · exact .inr (.inl z)
  · rw [he] at he'; cases he'; rw [hd] at hd'; cases hd'; rw [h1] at h1'; cases h1'; rw [hT] at hT'; cases hT'; rw [hdT] at hdT'; cases hdT'; rw [h3] at h3'; cases h3'

section
variable {X : Cx} {pins : List (Addr × Obj)} {σ : L2.St} {H : Hp} {s : Shared}
/-- an untracked object of ours is not looked at any more -/
theorem inv_hide {C : Addr} (I : Inv X pins σ H s) (hC : H C = none) (h1 : C ∈ X.ex ∨ X.s_0.heap.objs.size ≤ C) (h2 : C ≠ X.env.locals) (h3 : ∀ x c, X.env.cells.lookup x = some c → c ≠ C) (h4 : ∀ p ∈ X.pn ++ pins, p.1 ≠ C) {G : Heap}
    (g : ∀ b, b ≠ C → G.get? b = s.heap.get? b) : Inv X pins σ H { s with heap := G } := by
  refine I.step (g' := s.gens) (d' := s.drawn) (t' := s.toks) (ch := [C]) (fun b hb => ?_) (fun b o _ _ hc q _ => ?_) (fun b o _ _ hc q _ => ⟨o.slots, ?_⟩) (fun _ _ _ _ n => n) (fun b o hc q => ⟨o, ?_⟩) (fun _ _ q => q) (fun _ _ _ q => q) (fun b ps q => ⟨#[], by rw [q]; simp⟩) (fun m hm => ?_) (fun b u q => ?_) I.bare
  · have z : b = C := by simpa using hb
    subst z
    exact ⟨h1, h2, h3, h4⟩
  · rw [g b (by simpa using hc)]; exact q
  · rw [g b (by simpa using hc)]; exact q
  · rw [g b (by simpa using hc)]; exact q
  · obtain ⟨o, es, ep, ho, r⟩ := hm
    exact ⟨o, es, ep, (g _ (Ne.symm h2)).trans ho, r⟩
  · refine (I.hok b u q).stay (fun c v hc z => (g c ?_).trans z) (fun _ z => z) fun _ _ z => z
    intro e
    subst e
    rcases hc with z | z
    · rw [← z, hC] at q; cases q
    · rw [hC] at z; cases z
/-- out of a block with its variables at C: noted by the frame L, the block let go, handed on -/
theorem block_fails {E : XK} {L C : Addr} {env0 ce : Env} {outer0 : List Env} {B : Heap} {sI s' : Shared} {a : Addr} {cls : Value} {d : Option Addr} {m : Str → Option Value} (hst : X.stack = env0 :: outer0) (hf : env0.frame = some L) (hc : ce.frame = some L) (tk : TakesL X E L)
    (hC : ce.locals = C) (I : Inv X pins σ H sI) (nC : H C = none) (h1 : C ∈ X.ex ∨ X.s_0.heap.objs.size ≤ C) (h2 : C ≠ X.env.locals) (h3 : ∀ x c, X.env.cells.lookup x = some c → c ≠ C) (h4 : ∀ p ∈ X.pn ++ pins, p.1 ≠ C) (hn : sI.heap.Ns C m)
    (nb : ∀ b o, sI.heap.get? b = some o → b ∉ frs X.stack → B.get? b = some o) (up : sI.heap.UpToSlots s'.heap) (sky : Sky B X.stack a (Zc cls d) L s'.heap) (na : H a = none) (os : s'.os = sI.os) (ag : AllBare s'.gens) (w : E cls d H) :
    notedBy (model X.prog X.w) X.A ce (CompFails (model X.prog X.w) X.A X.xe ce) (.ref a) s' := by
  have hfr : X.A.frames = some (env0 :: outer0) := by rw [I.ok.frames, hst]
  rw [hst] at sky
  have fin : ∀ hp1, HandSPX.HeldZ B (env0 :: outer0) a (Zc cls d) L hp1 → s'.heap.UpToSlots hp1 → CompFails (model X.prog X.w) X.A X.xe ce (.ref a) { s' with heap := hp1 } := by
    intro hp1 hh up1
    have up01 := up.trans up1
    have hn1 : hp1.Ns C m := by
      obtain ⟨o, es, ep, ho, hd, r⟩ := hn
      obtain ⟨sl, q⟩ := up01 C o ho fun vs z => by rw [hd] at z; cases z
      exact ⟨_, es, ep, q, hd, r⟩
    refine ⟨m, by rw [hC]; exact hn1, fun hp2 m2 hn2 hs2 => ?_⟩
    rw [hC] at hn2 hs2
    obtain ⟨f1, f2, f3, oe, vs, T, oT, ts, q1, q2, q3, q4, q5, q6, q7, q8, q9⟩ := hh
    have notC : ∀ {b : Addr} {o : Obj} {xs : Array Value}, hp1.get? b = some o → o.data = .fields xs → b ≠ C := fun {b o xs} z z2 z3 => by
      obtain ⟨o', es, ep, ho, hd, _⟩ := hn1
      rw [z3, ho] at z; cases z
      rw [hd] at z2; cases z2
    obtain ⟨B2, b1, b2⟩ := restrict B fun b => decide (b ≠ C)
    have bB : ∀ b, b ≠ C → B2.get? b = B.get? b := fun b hb => b1 b (by simp [hb])
    have bC : B2.get? C = none := b2 C (by simp)
    have st2 : B2.StaysIn hp2 := fun b o z => by
      by_cases hb : b = C
      · subst hb; rw [bC] at z; cases z
      · rw [bB b hb] at z
        exact (hs2.2 b hb).trans (f1 b o z)
    have ff2 : hp2.FunFrames B2 (env0 :: outer0) := by
      refine funFrames_none (Heap.FunFrames.sameBut hs2 hn2 f3) fun b hb => ?_
      by_cases z : b = C
      · rw [z]; exact bC
      · rw [bB b z]; exact (f3.mem hb).1
    have tr2 : HandSPX.TracedZ hp2 B2 a (Zc cls d) (rawInt L) := by
      refine ⟨oe, vs, T, oT, ts, (hs2.2 a (notC q1 q3)).trans q1, q2, q3, q4, ?_, q6, (hs2.2 T (notC q7 q8)).trans q7, q8, q9⟩
      rw [bB T (notC q7 q8)]
      exact q5
    have na2 : B2.get? a = none := by rw [bB a (notC q1 q3)]; exact f2
    unfold PySem.passOn
    refine wpAny_bind (wpAny_field ((hs2.2 a (notC q1 q3)).trans q1) q3 q4 ?_)
    rw [if_neg (show ¬ ((Value.ref T == Value.none) = true) from by simp)]
    rw [hc]
    have go : wpAny (model X.prog X.w) X.A (setFlight (.ref a) (some L)) (fun _ s4 => wpAny (model X.prog X.w) X.A (throw (.ref a) : Sem Value) (fun _ _ => False) X.xe s4) X.xe { s' with heap := hp2 } := by
      refine HandSPX.setFlight_anyZ (s := { s' with heap := hp2 }) st2 ff2 tr2 fun hp3 k1 k2 k3 k4 => wpAny_throw (tk _ _ ?_)
      obtain ⟨G, g1, g2⟩ := restrict sI.heap fun b => decide (b ≠ C)
      have gG : ∀ b, b ≠ C → G.get? b = sI.heap.get? b := fun b hb => g1 b (by simp [hb])
      have gC : G.get? C = none := g2 C (by simp)
      refine ⟨a, B2, { sI with heap := G }, pins, σ, H, cls, d, rfl, inv_hide I nC h1 h2 h3 h4 gG, fun b o z hb => ?_, fun b o z hnf => ?_, ?_, na, os, ag, w⟩
      · by_cases q : b = C
        · subst q; rw [show (Shared.heap { sI with heap := G }).get? b = G.get? b from rfl, gC] at z; cases z
        · rw [bB b q]
          exact nb b o ((gG b q).symm.trans z) hb
      · by_cases q : b = C
        · subst q; rw [show (Shared.heap { sI with heap := G }).get? b = G.get? b from rfl, gC] at z; cases z
        · obtain ⟨sl, z1⟩ := up01 b o ((gG b q).symm.trans z) hnf
          obtain ⟨sl2, z2⟩ := k4 b _ ((hs2.2 b q).trans z1) hnf
          exact ⟨sl2, z2⟩
      · rw [hst]
        exact .inr (.inr ⟨k1, na2, k2, k3⟩)
    first
      | exact wpAny_bind (wpAny_pure (wpAny_bind go))
      | exact wpAny_bind go
  show wpAny (model X.prog X.w) X.A (noteFrame (.ref a) ce) _ _ s'
  rw [noteFrame_env _ (hc.trans hf.symm)]
  rcases sky with ⟨hB, hn', hl, oe, vs, he, hz, hd, z1⟩ | fl | hh
  · exact HandSPX.look_newZ Zc.steady hfr hl hf he hB hn' hd z1 hz fin
  · exact HandSPX.looks_onZ Zc.steady hfr hf fl fin
  · exact HandSPX.againZ hf hh.2.2.2 (fin s'.heap hh (Heap.UpToSlots.refl _))
end
end Y

namespace Y
open PySem PySem.Spec PyProof.Rows L2
theorem ends_of_post {M : Model} {A : Around} {E : Value → Shared → Prop} {use : Option (Value → Sem Unit)} {Q : Value → Shared → Prop} {acc : Value} {ce : Env} {s' : Shared} (h : compPost M A E use Q acc ce.locals (.ok .next) s') : compEnds M A E use Q acc ce (.ok .next) s' := by
  cases use <;> exact h
section
variable {X : Cx}
/-- [elt for target in iter if ..] whose element may raise -/
theorem lc_coreX {pins : List (Addr × Obj)} {s : Shared} {σ : L2.St} {H : Hp} {Q : VK} {elt tg iter : Expr} {ifs : List Expr} {scope : Scope} {own : List (Str × Nat)} {pos pos' : Pos} {wi : TI} {g : TG} {tt : TT} {te : TE} {use : Option (Value → Sem Unit)} {Qf : Value → Shared → Prop}
    {E : XK} {L : Addr} {env0 : Env} {outer0 : List Env} (hst : X.stack = env0 :: outer0) (hf0 : env0.frame = some L) (hfE : X.env.frame = some L) (tk : TakesL X E L)
    (hc : X.calm = true) (hN : X.N.Nodup) (I : Inv X pins σ H s) (hi : PI X tg iter wi) (ok : BlkOk X.N X.env.scope scope own)
    (hg : ∀ (s : Shared) (H : Hp) (C : Addr) (cl : List (Str × Addr)) (fp : List Addr), PG (X.blk s H scope (compEnvC scope cl C X.env) fp) tg g) (ht : ∀ (s : Shared) (H : Hp) (C : Addr) (cl : List (Str × Addr)) (fp : List Addr), PTs (X.blk s H scope (compEnvC scope cl C X.env) fp) ifs tt)
    (he : ∀ (s : Shared) (H : Hp) (C : Addr) (cl : List (Str × Addr)) (fp : List Addr) (xe : Value → Shared → Prop), TakesL ((X.blk s H scope (compEnvC scope cl C X.env) fp).wish xe) E L → PE ((X.blk s H scope (compEnvC scope cl C X.env) fp).wish xe) elt te)
    (hs : ∀ x, foldedSetIterable iter X.env x = pure x) (h : tLc wi g tt te (own.map (·.2)) σ H Q)
    (hRR : ∀ D C s' m H', Inv X pins σ H' s' → Q (.ref D) H' → s'.heap.Ns C m → FpOk X pins H' C → compPost (model X.prog X.w) X.A X.xe use Qf (.ref D) C (.ok .next) s') :
    wpAny (model X.prog X.w) X.A (comprehension (.ListComp elt [⟨tg, iter, ifs, 0⟩] scope pos) scope X.env pos' (newList []) false (eval iter X.env) use) Qf X.xe s := by
  have hfree : ∀ y ∈ scope.names, y.2 = .free → ∃ c, X.env.cells.lookup y.1 = some c := fun y hy e => by
    rcases ok.free y hy e with k | k
    · exact I.ok.has _ (.inl k)
    · exact I.ok.has _ (.inr k)
  refine comprehension_at (use := use) rfl hs (closure_ok hfree) ok.kind (fun y hy e => by rw [ok.uniq y hy, e])
    (thn (hi.run pins s σ H _ I h) fun xv s1 hx => thn hx fun itv s2 h2 => ?_)
  obtain ⟨it, fp, tn, J, H2, e, I2, T, st2, f2, q⟩ := h2
  subst e
  refine wpAny_newObj_type (newEnv_comp ?_) (by show 0 ≤ sizeLine; decide)
  generalize hD : s2.heap.objs.size = D
  have hDn : H2 D = none := I2.hok.fresh (Nat.le_of_eq hD)
  obtain ⟨W, ⟨m0, w0⟩, turn⟩ := q D hDn
  generalize hs3 : ({ s2 with heap := s2.heap.push { cls := .type "list", data := .seq ([] : List Value).toArray } } : Shared) = s3
  have h3 : s3.heap = s2.heap.push { cls := .type "list", data := .seq ([] : List Value).toArray } := by rw [← hs3]
  have I3 : Inv X pins σ (upd H2 D (.lst [])) s3 := by
    rw [← hs3]
    refine I2.laid (t' := s2.toks) (fun b o e => Heap.get?_push_of_some _ e) (Nat.le_of_eq hD) ⟨Nat.zero_le _, [], 0, .nil, ?_⟩
    rw [← hD]
    exact Heap.get?_push_size _ rfl
  have f3 : ∀ b ∈ fp, FpOk X pins (upd H2 D (.lst [])) b ∧ b < s3.heap.objs.size := fun b hb => by
    obtain ⟨o, e, _⟩ := T.obj _ _ st2 b hb
    have hlt := Heap.lt_size e
    have nb : b ≠ D := by rw [← hD]; exact Nat.ne_of_lt hlt
    exact ⟨⟨by rw [upd_ne nb]; exact (f2 b hb).1, (f2 b hb).2⟩, by rw [h3, Heap.size_push]; exact Nat.lt_succ_of_lt hlt⟩
  have st3 : tn 0 s3.heap := T.keep _ _ _ st2 fun b _ o e => by rw [h3]; exact Heap.get?_push_of_some _ e
  have I4 := block_start I3 ok hN f3
  generalize hcl : cellsFrom (s3.heap.objs.size + 1) scope.names (cloFrom X.env.cells scope.names []) = cl at I4 ⊢
  have fC : FpOk X pins (upd H2 D (.lst [])) s3.heap.objs.size := I3.fpOk (Nat.le_refl _) (I3.hok.fresh (Nat.le_refl _))
  have pg := hg s3 (upd H2 D (.lst [])) s3.heap.objs.size cl fp
  have pt := ht s3 (upd H2 D (.lst [])) s3.heap.objs.size cl fp
  have pe := he s3 (upd H2 D (.lst [])) s3.heap.objs.size cl fp
  have nfp : ∀ b ∈ fp, (upd H2 D (.lst [])) b = none := fun b hb => (f3 b hb).1.1
  show codeAny _ _ (.compStart (.ListComp elt [⟨tg, iter, ifs, 0⟩] scope pos) 0 (.ref it) (.ref D) (compEnvC scope cl s3.heap.objs.size X.env)) (compEnds (model X.prog X.w) X.A X.xe use Qf (.ref D) (compEnvC scope cl s3.heap.objs.size X.env)) _
  generalize hce : compEnvC scope cl s3.heap.objs.size X.env = ce at I4 pg pt pe ⊢
  have cL : ce.locals = s3.heap.objs.size := by rw [← hce]; rfl
  have cF : ce.frame = some L := by rw [← hce]; exact hfE
  generalize hH3 : upd H2 D (.lst []) = H3 at I3 I4 pg pt pe w0 nfp f3 fC
  generalize hs4 : ({ s3 with heap := pushCells (s3.heap.push { cls := .type "dict", data := .dict #[] }) scope.names } : Shared) = s4 at I4 ⊢
  have st4 : tn 0 s4.heap := T.keep _ _ _ st3 fun b _ o e => by rw [← hs4]; exact pushCells_keeps _ _ _ _ (Heap.get?_push_of_some _ e)
  -- back in the context ahead
  have back : ∀ {pn : List (Addr × Obj)} {σ' : L2.St} {H' : Hp} {s' : Shared}, Inv (X.blk s3 H3 scope ce fp) pn σ' H' s' → Inv X pins σ H' s' ∧ H' s3.heap.objs.size = none := fun {pn σ' H' s'} I' =>
    ⟨I3.call' (ch := fp) I'.os I'.base I'.hok I'.bare fun b hb => ⟨(f3 b hb).1.2.2.2.1, (f3 b hb).1.2.1, (f3 b hb).1.2.2.2.2.1, (f3 b hb).1.2.2.2.2.2⟩, by rw [← cL]; exact I'.free⟩
  have stat : ∀ {σ' : L2.St} {H' : Hp} {s' : Shared}, Inv (X.blk s3 H3 scope ce fp) [] σ' H' s' → (∀ b ∈ fp, H' b = none) → ∀ b ∈ fp, FpOk (X.blk s3 H3 scope ce fp) [] H' b := fun {σ' H' s'} I' hn b hb =>
    ⟨hn b hb, (I'.ok.exf b hb).1, I'.ok.exfs b hb, .inl hb, fun x c e => (I'.ok.exf b hb).2 x c e, fun p hp => absurd (show p ∈ ([] : List (Addr × Obj)) ++ [] from hp) (by simp)⟩
  -- what the element may let out
  have tkB : TakesL ((X.blk s3 H3 scope ce fp).wish (notedBy (model X.prog X.w) X.A ce (CompFails (model X.prog X.w) X.A X.xe ce))) E L := by
    rintro u s' ⟨a, B, sI, pins', σ', H', cls, d, rfl, J', nb, up, sky, na, os, ag, w⟩
    have J0 : Inv (X.blk s3 H3 scope ce fp) pins' σ' H' sI := J'.unwish
    obtain ⟨I7, nC⟩ := back J0
    obtain ⟨m, hn, _⟩ := J0.loc
    have hn : sI.heap.Ns ce.locals m := hn
    rw [cL] at hn
    exact block_fails hst hf0 cF tk cL I7 nC fC.2.2.2.1 fC.2.1 fC.2.2.2.2.1 fC.2.2.2.2.2 hn nb up sky na os ag w
  have pe' := pe _ tkB
  have loop : codeAny (model X.prog X.w) X.A (.compLoop (.ListComp elt [⟨tg, iter, ifs, 0⟩] scope pos) 0 (.ref it) (.ref D) ce) (compEnds (model X.prog X.w) X.A X.xe use Qf (.ref D) ce) s4 := by
    refine compLoop_any (fun n s' => ∃ i H', Inv (X.blk s3 H3 scope ce fp) [] (wipe σ (own.map (·.2))) H' s' ∧ tn i s'.heap ∧ (∀ b ∈ fp, H' b = none) ∧ W i n H') ?_ m0 ⟨0, H3, I4, st4, nfp, w0⟩
    rintro n s5 ⟨i, H5, I5, st5, n5, w5⟩
    rcases turn i n H5 w5 with ⟨stop, qq⟩ | ⟨go, Nx, hNx, step⟩
    · refine thnF (T.done (X.blk s3 H3 scope ce fp) rfl rfl rfl hc i [] s5 _ H5 (fun _ _ => False) I5 (stat I5 n5) st5 stop) fun r s6 ⟨hr, I6⟩ => ?_
      subst hr
      obtain ⟨I7, nC⟩ := back I6
      obtain ⟨m, hn, _⟩ := I6.loc
      have hn : s6.heap.Ns ce.locals m := hn
      rw [cL] at hn
      refine ends_of_post ?_
      rw [cL]
      exact hRR D s3.heap.objs.size s6 m H5 I7 qq hn (I3.fpOk (Nat.le_refl _) nC)
    · refine thnF (T.item (X.blk s3 H3 scope ce fp) rfl rfl rfl hc i [] s5 _ H5 (fun _ _ => False) I5 (stat I5 n5) st5 go) fun r s6 ⟨u, hr, h6⟩ => ?_
      subst hr
      refine thnF h6 fun _ s7 ⟨x, H7, I7, r7, y7, st7, n7⟩ => ?_
      refine thnF (pg.run _ s7 _ H7 x u _ (I7.pinned (stat I7 n7) (T.obj _ _ st7)) r7 (step x H7 y7)) fun _ s8 ⟨σ8, H8, I8, hw8, q8⟩ => ?_
      refine thnF (pt.run _ s8 σ8 H8 _ I8 q8) fun b s9 ⟨H9, I9, q9⟩ => ?_
      have fin : ∀ {s' : Shared} {H' : Hp}, Inv (X.blk s3 H3 scope ce fp) ([] ++ pinsAt fp s7.heap) σ8 H' s' → Nx H' → ∃ m, m < n ∧ ∃ i H', Inv (X.blk s3 H3 scope ce fp) [] (wipe σ (own.map (·.2))) H' s' ∧ tn i s'.heap ∧ (∀ b ∈ fp, H' b = none) ∧ W i m H' := fun {s' H'} I' nx => by
        obtain ⟨m', hm, w'⟩ := hNx H' nx
        have pin' : ∀ b ∈ fp, ∀ o, s7.heap.get? b = some o → s'.heap.get? b = some o ∧ H' b = none := fun b hb o e =>
          let z := I'.pin (b, o) (List.mem_append_right _ (List.mem_append_right _ (mem_pinsAt hb e)))
          ⟨z.1, z.2.1⟩
        refine ⟨m', hm, i + 1, H', (I'.unpinned (pins := [])).weak (by rw [← hw8, wipe_length]) (fun j v e => ?_), T.keep _ _ _ st7 fun b hb o e => (pin' b hb o e).1, fun b hb => ?_, w'⟩
        · rw [← hw8] at e
          exact (wipe_some e).1
        · obtain ⟨o, e, _⟩ := T.obj _ _ st7 b hb
          exact (pin' b hb o e).2
      cases b with
      | false =>
        simp only [Bool.false_eq_true, if_false] at q9 ⊢
        exact fin I9 q9
      | true =>
        simp only [if_true] at q9 ⊢
        refine thn (pe'.run _ s9 σ8 H9 _ (I9.wish _) q9) fun z s10 ⟨yv, H10, I10, r10, acc, hD10, hz10, nx⟩ => ?_
        exact app_ok (X := X.blk s3 H3 scope ce fp) I10.unwish hD10 hz10 r10 fun s11 I11 => fin I11 nx
  exact codeAny_compStart_list loop (T.self X.A 0 _ _ _ st4 loop)
theorem pe_lcX {elt tg iter : Expr} {ifs : List Expr} {scope : Scope} {own : List (Str × Nat)} {pos : Pos} {wi : TI} {g : TG} {tt : TT} {te : TE} {E : XK} {L : Addr} {env0 : Env} {outer0 : List Env} (tk : TakesL X E L) (hst : X.stack = env0 :: outer0) (hf0 : env0.frame = some L) (hfE : X.env.frame = some L)
    (hc : X.calm = true) (hN : X.N.Nodup) (hi : PI X tg iter wi) (ok : BlkOk X.N X.env.scope scope own)
    (hg : ∀ (s : Shared) (H : Hp) (C : Addr) (cl : List (Str × Addr)) (fp : List Addr), PG (X.blk s H scope (compEnvC scope cl C X.env) fp) tg g) (ht : ∀ (s : Shared) (H : Hp) (C : Addr) (cl : List (Str × Addr)) (fp : List Addr), PTs (X.blk s H scope (compEnvC scope cl C X.env) fp) ifs tt)
    (he : ∀ (s : Shared) (H : Hp) (C : Addr) (cl : List (Str × Addr)) (fp : List Addr) (xe : Value → Shared → Prop), TakesL ((X.blk s H scope (compEnvC scope cl C X.env) fp).wish xe) E L → PE ((X.blk s H scope (compEnvC scope cl C X.env) fp).wish xe) elt te)
    (hs : ∀ x, foldedSetIterable iter X.env x = pure x := by intro _; rfl) :
    PE X (.ListComp elt [⟨tg, iter, ifs, 0⟩] scope pos) (tLc wi g tt te (own.map (·.2))) := by
  refine ⟨fun pins s σ H Q I h => ?_⟩
  rw [eval_ListComp]
  refine lc_coreX hst hf0 hfE tk hc hN I hi ok hg ht he hs h fun D C s' m H' I' q hn f => ⟨m, hn, fun h'' sb => ?_⟩
  obtain ⟨f0, f1, f2, f3, f4, f5⟩ := f
  exact ⟨.ref D, H', I'.turned (t' := s'.toks) (fun b o hb e => (sb.2 b hb).trans e) f0 f1 f3 f4 f5, rfl, q⟩
end
end Y

/-! isinstance of a caught error that has fields of its own -/
namespace PySem.W
open PySem PySem.Spec PySem.Calls PyProof.Rows
section
variable {prog : Program} {w : World} {A : Around} {E : Value → Shared → Prop} {s : Shared} {K : Frag} {x D : Addr} {ox od : Obj}
theorem yObj_data {C : Addr} {name : Str} {a g : Value} {o : Option Obj} (hc : (clsIn K C).isSome = true) (ha : findIn K (.ref C) name = some (some a)) (hg : specialIn K a "__get__" = some (some g)) (ht : takesIn K a = some true) : findObj K C o name = some (.bind g a) := by
  obtain ⟨cd, hc⟩ := Option.isSome_iff_exists.mp hc
  unfold findObj
  rw [hc, Option.bind_some, ha, Option.bind_some]
  simp [hg, ht]
theorem yin_class {Q : Option Value → Shared → Prop} (hga : findIn K (.ref D) "__getattribute__" = some (some (.builtin "BaseException.__getattribute__"))) (hgt : findIn K (.ref D) "__getattr__" = some none) (hsub : subIn K (.ref D) (.type "BaseException") = some true)
    (hdct : hasDictIn K D = true) (ha : findIn K (.ref D) "__class__" = some (some (.builtin "object.__class__")))
    (hn : specialIn K (.builtin "object.__class__") "__get__" = some (some (.builtin "getset_descriptor.__get__"))) (htk : takesIn K (.builtin "object.__class__") = some true) (hm : mroIn K D (.type "object") = some true)
    (X : K.In s.heap) (I : InstAt s.heap x ox D (some od)) (h : Q (some (.ref D)) { s with toks := s.toks + 1 }) : wpAny (model prog w) A (getAttr? (.ref x) "__class__") Q E s := by
  have hf : findObj K D (some od) "__class__" = some (.bind (.builtin "getset_descriptor.__get__") (.builtin "object.__class__")) := yObj_data (by obtain ⟨cd, hc, _⟩ := any_some hdct; rw [hc]; rfl) ha hn htk
  obtain ⟨hp, g, d, t, os⟩ := s
  have L0 := I.type (M := model prog w)
  have L1 := looks_findIn (M := model prog w) X hga
  have L2 := looks_findIn (M := model prog w) X hgt
  have L3 := looks_find (M := model prog w) X I hf
  have sub : Looks (model prog w) hp (isInstance (.ref x) (.type "BaseException")) true := L0.andThen (looks_subIn X hsub)
  have z0 : (false && onTheHeap (Value.builtin "BaseException.__getattribute__")) = false := rfl
  have z1 : (onTheHeap (Value.ref D) && Value.builtin "BaseException.__getattribute__" == Value.builtin "object.__getattribute__") = false := by
    rw [show (Value.builtin "BaseException.__getattribute__" == Value.builtin "object.__getattribute__") = false from by decide +kernel, Bool.and_false]
  unfold getAttr? getAttrBy? getAttrBy
  refine wpAny_bind (wpAny_mkText (wpAny_bind (wpAny_attempt (wpAny_holding (wpAny_bind (L0.at (wpAny_bind (L1.at ?_))))))))
  show wpAny _ _ (if (onTheHeap (Value.ref D) && Value.builtin "BaseException.__getattribute__" == Value.builtin "object.__getattribute__") = true then _ else _) _ _ _
  rw [z1, if_neg Bool.false_ne_true]
  unfold getAttrByItsOwn hookBefore
  refine wpAny_bind ?_
  rw [if_pos (show onTheHeap (Value.ref D) = true from rfl)]
  refine L2.at (wpAny_bind (wpAny_attempt (wpAny_holding ?_)))
  unfold callGetattribute
  rw [z0, if_neg Bool.false_ne_true]
  unfold boundAndCalled
  rw [PySem.F.excAttr_ValueError.ga.bind (.ref x)]
  refine wpAny_bind (wpAny_pure ?_)
  show wpAny _ _ (call (.builtin "BaseException.__getattribute__") [.ref x, .str "__class__" t]) _ _ _
  refine wpAny_call (codeAny_call_builtin PySem.F.excAttr_ValueError.ga.plain PySem.F.entry_bexc_ga ?_)
  refine @check_slot (model prog w) _ _ ⟨hp, g, d, t + 1, os⟩ "BaseException.__getattribute__" "BaseException" "__getattribute__" (.ref x) [.str "__class__" t] [] _ (by decide +kernel) (by decide +kernel) sub (PySem.F.args_bexc_ga (.ref x) (.str "__class__" t)) ?_
  unfold Builtin.«object.__getattribute__»
  refine wpAny_bind (wpAny_of_eq (a := ((Value.ref x : Value), [Value.str "__class__" t])) (by first | rfl | (simp only [slotArgs]; rfl)) ?_)
  refine wpAny_bind (wpAny_pure (wpAny_bind (L0.at (wpAny_bind (L3.at ?_)))))
  show wpAny _ _ (holding [Value.builtin "object.__class__"] (call (.builtin "getset_descriptor.__get__") [.builtin "object.__class__", .ref x, .ref D]) >>= ret) _ _ _
  refine wpAny_bind (wpAny_holding (wpAny_call (class_get (s := ⟨hp, g, d, t + 1, os⟩) (ox := ox) (od := some od) X I hm (wpAny_pure ?_))))
  show wpAny _ _ (handedOut (.ref D)) _ _ _
  rw [handedOut_of (v := .ref D) rfl]
  first
    | exact wpAny_pure (wpAny_pure h)
    | exact wpAny_pure h
    | exact wpAny_pure (wpAny_bind (wpAny_pure (wpAny_pure h)))
theorem y_kitx (hga : findIn K (.ref D) "__getattribute__" = some (some (.builtin "BaseException.__getattribute__"))) (hgt : findIn K (.ref D) "__getattr__" = some none) (hsub : subIn K (.ref D) (.type "BaseException") = some true) (hdct : hasDictIn K D = true)
    (ha : findIn K (.ref D) "__class__" = some (some (.builtin "object.__class__")))
    (hn : specialIn K (.builtin "object.__class__") "__get__" = some (some (.builtin "getset_descriptor.__get__"))) (htk : takesIn K (.builtin "object.__class__") = some true) (hm : mroIn K D (.type "object") = some true) :
    KitX K (.ref x) (.ref D) (fun h => ∃ od, InstAt h x ox D (some od)) where
  ty := fun _ _ _ ⟨_, I⟩ => I.type
  it := fun M h X _ A' Q' E' s' k q => by
    obtain ⟨cd, hc, _⟩ := any_some hdct
    unfold clsIn at hc
    split at hc
    · rename_i ho
      unfold isType loadHead
      exact wpAny_bind (wpAny_loadPart (k _ _ (X _ _ ho)) (wpAny_pure q))
    · cases hc
  ne := (handS_kitx_exc (x := x) (ox := ox) hga hgt hsub hdct ha hn htk hm).ne
  ca := fun X ⟨_, I⟩ k => yin_class hga hgt hsub hdct ha hn htk hm X I k
end
end PySem.W
namespace Y
open PySem PySem.Spec PyProof.Rows L2
theorem all_at {l : List Bool} {b : Bool} (h : l.all id = true) (i : Nat) (e : l[i]? = some b) : b = true := List.all_eq_true.mp h b (List.mem_of_getElem? e)
/-! ### own exception classes over ValueError with one field -/
structure ExC (K : PySem.W.Frag) (C : Addr) (f : Str) : Prop where
  oex : OexC K C
  xf : XfC K C
  no : PySem.W.findIn K (.ref C) f = some none
  iC : PySem.W.findIn K (.ref C) "__init__" = some (some (.ref (He.ma K C "__init__")))
  tI : PySem.W.typeIn K (.ref (He.ma K C "__init__")) = some (.type "function")
  ec : ExcC K C
theorem exB_ok {K : PySem.W.Frag} {C : Addr} {f : Str} (h : exB K C f = true) : ExC K C f := by
  unfold exB at h
  simp only [Bool.and_eq_true, decide_eq_true_eq] at h
  obtain ⟨⟨⟨⟨h1, ⟨⟨h2, h3⟩, h4⟩, h5⟩, ⟨h6, h7⟩, h8⟩, ⟨h9, h10⟩, h11⟩, ⟨⟨h12, h13⟩, h14⟩, h15⟩ := h
  refine ⟨⟨?_, h2, h3, h4, h5⟩, ⟨h6, h7, h3, h8⟩, h9, h10, h11, ⟨h6, h7, h3, h8, h12, h13, h14, h15⟩⟩
  split at h1
  · rename_i dd cd sl ho
    split at h1
    · rename_i D bm k0 k1 k2 k3 n k5 hm hs
      simp only [Bool.and_eq_true, beq_iff_eq, Bool.not_eq_true'] at h1
      obtain ⟨⟨⟨⟨rfl, rfl⟩, hdel⟩, hdc⟩, hr⟩ := h1
      obtain ⟨nm, bs, mro, ns, qn, hd, sn, sub, ab, col, del⟩ := cd
      dsimp only at hm hdel hdc
      subst hm hdel hdc
      have hsl : sl = #[k0, k1, k2, k3, some (.builtin "ValueError.__new__"), k5] := by
        obtain ⟨l⟩ := sl
        simp only at hs
        rw [hs]
      subst hsl
      exact ⟨nm, qn, ns, bs, bm, sn, sub, ab, col, dd, k0, k1, k2, k3, k5, ho, hr⟩
    · cases h1
  · cases h1
/-- __init__(self, v): self.f = v -/
def spXi (C : Addr) (f : Str) : Sp := fun vs H Q _ => ∃ a v, vs = [.ref a, v] ∧ H a = some (exo a C none) ∧ ∀ dx, H dx = none → dx ≠ a → Q .non (upd (upd H dx (exd dx [(f, v)])) a (exo a C (some dx)))
/-- raise C(e) -/
def tRaiseI (C : Addr) (f : Str) (E : XK) (ta : TA) : TS := fun _ σ H => ta σ H fun vs H1 => ∃ v, vs = [v] ∧ ∀ d, H1 d = none → E (.ref C) (some d) (upd H1 d (.xd [(f, v)]))
section
variable {X : Cx} {es : List Expr} {ta : TA}
/-- arguments, what they give weakened -/
def upA (ta : TA) : TA := fun σ H Q => ∃ R : List V → Hp → Prop, ta σ H R ∧ ∀ vs H1, R vs H1 → Q vs H1
theorem pa_up (h : PA X es ta) : PA X es (upA ta) := ⟨fun pos pins s σ H Q I ⟨R, hR, hQ⟩ => thn (h.run pos pins s σ H R I hR) fun us s1 ⟨vs, H1, I1, r, q⟩ => ⟨vs, H1, I1, r, hQ vs H1 q⟩⟩
theorem xd_heap {H : Hp} {a d : Addr} {o u : HO} {z : HO} (ha : H a = none) (hd : d ≠ a) : upd (del (upd (upd (upd H a o) d u) a z) a) d (.xd fs) = upd H d (.xd fs) := by
  funext b
  by_cases h1 : b = d
  · rw [h1, upd_same, upd_same]
  · rw [upd_ne h1, upd_ne h1]
    by_cases h2 : b = a
    · rw [h2, del_same, ha]
    · rw [del_ne h2, upd_ne h2, upd_ne h1, upd_ne h2]
theorem mk_read {C : Addr} {f : Str} {E : XK} {σ : L2.St} {H : Hp} (h : ta σ H fun vs H1 => ∃ v, vs = [v] ∧ ∀ d, H1 d = none → E (.ref C) (some d) (upd H1 d (.xd [(f, v)]))) :
    tMkO C (spXi C f) [] (upA ta) σ H fun cls d H' => E cls d H' := by
  refine ⟨_, h, fun vs H1 ⟨v, e, k⟩ => ?_⟩
  subst e
  refine ⟨by show 1 ≤ 1000; decide, fun a ha => ⟨a, v, rfl, upd_same, fun dx hdx hne => ⟨rfl, dx, [(f, v)], upd_same, by rw [upd_ne hne, upd_same], ?_, ?_⟩⟩⟩
  · rw [upd_ne hne] at hdx
    exact hdx
  · rw [xd_heap ha hne]
    rw [upd_ne hne] at hdx
    exact k dx hdx
theorem ps_raiseI {C : Addr} {f x : Str} {k : Nat} {E : XK} {e : Expr} {p pos pos' : Pos} (T : ExC X.K C f) (hm : X.mg x = some (.ref C))
    (F : FnOk X.prog X.w X.K X.mg X.base CX0 k (He.ma X.K C "__init__") (fdOf X.K (He.ma X.K C "__init__")) ["self", f] (spXi C f)) (b : Binds X.K (fdOf X.K (He.ma X.K C "__init__")) ["self", f] []) (hr : Room (k + 1) X.A) (hg : Gl X x) (hc : X.calm = true)
    (tk : Takes X fun cls d _ H => E cls d H) (ha : PA X (e :: es) ta) (hdb : (x == ("__debug__" : Str)) = false := by decide) (he : starEach (e :: es) X.env = (false, eval e X.env) :: starEach es X.env := by rfl) (hpl : (backTo pos (starEach es X.env)).any (·.1) = false := by rfl) :
    PS X (.Raise (some (.Call (.Name x p) (e :: es) [] pos)) none pos') (tRaiseI C f E ta) := by
  have h := ps_raise (pos := pos') hc tk (pmk_oex (p := p) (pos := pos) (dvs := []) T.oex T.iC T.tI F hr b .nil (pass0 : Passes CX0 X E0) hg hm (pa_up ha) hdb he hpl)
  exact ⟨fun pins s σ H D I q => h.run pins s σ H D I (mk_read q)⟩
end
/-- isinstance(e, c) of a caught error with fields -/
theorem call_isEf {X : Cx} {a D dd : Addr} {oe : Obj} {pn : List (Addr × Obj)} {fs : List (Str × V)} (C : ExcC X.K D) (hz : Zc (.ref D) (some dd) oe) (hf : ∃ vs, oe.data = .fields vs) :
    CallR (X.suite a ((a, oe) :: pn)) (.builtin "isinstance") (fun xs H Q => (∃ fs, H dd = some (.xd fs)) ∧ rIsE X.K D a xs H Q) := by
  intro pins s σ H xs us Q I r h
  obtain ⟨⟨fs, hd0⟩, c, cv, b, rfl, hcv, e, q⟩ := h
  cases r with
  | cons rx rr =>
    cases rr with
    | cons rt rr =>
      cases rr
      cases rx
      have ec := hcv _ rt
      subst ec
      obtain ⟨hget, _⟩ := I.pin (a, oe) (List.mem_append.mpr (.inl List.mem_cons_self))
      obtain ⟨vs, hv⟩ := hf
      obtain ⟨mA, ⟨od, es, ep, ho, _⟩, _⟩ := (show ObjOk X.prog X.w H s.heap dd (.xd fs) from I.hok dd _ hd0)
      have J : PySem.W.InstAt s.heap a oe D (some od) := by
        obtain ⟨oc, od', oda, osl⟩ := oe
        obtain ⟨h1, h2⟩ := hz
        dsimp only at h1 h2 hv
        subst h1 h2 hv
        exact ⟨hget, rfl, rfl, ho⟩
      exact PySem.W.kia_one (PySem.W.y_kitx C.hg C.hk C.hs C.hd C.ha C.hn C.ht C.hm) I.kIn ⟨od, J⟩ e (fun z => nomatch z) fun tk => ⟨.bl b, H, I.kept (t' := tk) fun _ _ z => z, rfl, q⟩
end Y

namespace Y
open PySem PySem.Spec PyProof.Rows L2
/-- a tuple times 1 is the tuple itself -/
theorem tuple_mul1 (l : Addr) (items : Array Value) (n : Nat) (dd : Option Addr) (sl : Array (Option Value)) (u : Tok) :
    Meets (Builtin.«tuple.__mul__» ⟨[.ref l, .int 1 u], []⟩) (fun _ R s => s.heap.get? l = some { cls := .type "tuple", dict := dd, data := .seq items n, slots := sl } ∧ R (.ok (.ret (Value.ref l))) s) :=
  .of_wp fun prog w A R s h => by
    obtain ⟨hp, g, d, tk, os⟩ := s
    obtain ⟨hl, h⟩ := h
    have c0 : (decide ((1 : Int) < -(2 ^ 63)) || decide ((1 : Int) ≥ 2 ^ 63)) = false := by decide
    have c1 : (items.isEmpty || ((1 : Int) == 1)) = true := by simp
    have f1 := AutoSeq1.idx_int
    wp_walk using wpAny_loadPart' hl
    repeat (first
      | (refine wpAny_ite_false (decide_eq_false (by rw [c0]; exact Bool.false_ne_true)) ?_; wp_walk using wpAny_loadPart' hl)
      | (refine wpAny_ite_true (decide_eq_true c1) ?_; wp_walk using wpAny_loadPart' hl))
    exact ⟨_, rfl, h⟩
end Y
namespace Y
open PySem PySem.Spec PyProof.Rows L2
/-- tuple * int, from 1 on -/
def rRepU (K : PySem.W.Frag) : R2 := fun x y H Q => rRepT K x y H Q ∨ ∃ l xs, x = .ref l ∧ y = .int 1 ∧ SqT K H l xs ∧ Q (.ref l) H
def rRepS : R2 := fun x y H Q => ∃ z k, x = .str z ∧ y = .int k ∧ 2 ≤ k ∧ k ≤ 1000 ∧ 1 ≤ z.length ∧ z.length ≤ 1000 ∧ Q (.str ⟨(List.replicate k.toNat z.cps).foldl (· ++ ·) #[]⟩) H
section
variable {X : Cx} {K : PySem.W.Frag}
theorem op_repU (hK : X.K = K) : OpR X (binaryOp .Mult) (rRepU K) := by
  subst hK
  intro pins s σ H x y v u Q I rx ry h
  rcases h with h | ⟨l, xs, rfl, rfl, hT, q⟩
  · exact op_repT pins s σ H x y v u Q I rx ry h
  · cases rx
    obtain ⟨t, rfl⟩ := ry
    obtain ⟨its, r, ⟨⟨cls, dd, data, sl⟩, ho, hc, n, hd⟩, hs⟩ := I.tuple hT
    simp only at hc hd
    subst hc hd
    refine wpAny_binaryOp_repeat_ref (T := "tuple") (U := "int") (by decide) ⟨_, ho, rfl⟩ (fun s' => typeIs_int s' 1 t) noFill_tuple_mul F.fills_int_mul F.slot_int_rmul repeat_tuple F.slot_int_index.lookup
      (call_meets F.slot_int_rmul (typeIs_int s 1 t) F.entry_int_rmul (F.args_int_rmul_2 _ _) (int_rmul_tuple 1 t l its.toArray n dd sl)
        ⟨ho, rfl, ⟨_, ho, rfl⟩, call_meets F.slot_tuple_mul ⟨_, ho, rfl⟩ F.entry_tuple_mul (F.args_tuple_mul_2 _ _) (tuple_mul1 l its.toArray n dd sl t) ⟨ho, ?_⟩⟩)
    exact ⟨.ref l, H, I, rfl, q⟩
theorem rep_size (c : Array Nat) : ∀ (n : Nat) (a : Array Nat), ((List.replicate n c).foldl (· ++ ·) a).size = a.size + n * c.size
  | 0, a => by simp
  | n + 1, a => by
    rw [List.replicate_succ, List.foldl_cons, rep_size c n, Array.size_append, Nat.succ_mul]
    omega
theorem op_repS : OpR X (binaryOp .Mult) rRepS := by
  intro pins s σ H x y v u Q I rx ry h
  obtain ⟨z, k, rfl, rfl, h1, h2, h3, h4, q⟩ := h
  obtain ⟨t, rfl⟩ := rx
  obtain ⟨t', rfl⟩ := ry
  have hb : z.length * k.toNat ≤ 1000000 := Nat.le_trans (Nat.mul_le_mul h4 (show k.toNat ≤ 1000 by omega)) (by decide)
  have e1 : ¬ k < 1 := by omega
  have e2 : ¬ (k == 1 || z.length == 0) = true := by simp; omega
  refine PySem.P.mul_str (by rw [decide_eq_false (by omega), decide_eq_false (by omega)]; rfl) (fun _ _ => ?_) (fun _ _ => ?_) ?_
  · have : (9223372036854775807 : Int) / k ≥ 9223372036854775807 / 1000 := by
      apply Int.le_ediv_of_mul_le (by omega)
      calc (9223372036854775807 : Int) / 1000 * k ≤ 9223372036854775807 / 1000 * 1000 := Int.mul_le_mul_of_nonneg_left h2 (by decide)
        _ ≤ 9223372036854775807 := by decide
    have : (2 ^ 63 - 1 : Int) / k ≥ 9223372036854775 := by
      show (9223372036854775807 : Int) / k ≥ _
      exact this
    omega
  · unfold Builtin.Str.tooLong
    rw [sizeLine_eq]
    exact decide_eq_false (by omega)
  · rw [if_neg e1, if_neg e2]
    refine ⟨?_, .str _, H, I.tok _, ⟨_, rfl⟩, q⟩
    show Array.size _ ≤ _
    rw [rep_size, sizeLine_eq]
    show 0 + k.toNat * z.length ≤ _
    rw [Nat.mul_comm] at hb
    omega
end
end Y

namespace Y
open PySem PySem.Spec PyProof.Rows L2
/-! ### a list that changes: read, stored -/
section
variable {K : PySem.W.Frag} {σ : L2.St} {G H H' G' : Hp} {Q : VK} {v x y : V} {d d' : PyData} {ds es : List PyData} {i : Int} {M : List Addr}
theorem g_ixM {p : Addr} {xs : List V} {k : Nat} (h : H p = some (.lst xs)) (hv : xs[k]? = some v) (hj : i = (k : Int)) (q : Q v H) : rIxL K (.ref p) (.int i) H Q := by
  subst hj
  exact ⟨p, xs, _, v, rfl, rfl, .of h, atI_nat hv, q⟩
theorem g_ixK {p : Addr} {xs : List V} {k : Nat} (e : Ex G H) (h : SqL K G p xs) (hv : xs[k]? = some v) (hj : i = (k : Int)) (q : Q v H) : rIxL K (.ref p) (.int i) H Q := by
  subst hj
  exact ⟨p, xs, _, v, rfl, rfl, e.seqL h, atI_nat hv, q⟩
theorem g_lenK {p : Addr} {xs : List V} (e : Ex G H) (h : SqL K G p xs) (q : Q (.int (xs.length : Int)) H) : rLen K [.ref p] H Q := ⟨p, xs, rfl, .inl (e.seqL h), q⟩
theorem g_sub {to ti : TE} {t : TSet} {R : L2.St → Hp → Prop} (q : to σ H fun o H1 => ti σ H1 fun i H2 => t o i v H2 fun H3 => R σ H3) : gSub to ti t v σ H R := q
theorem g_setM {p : Addr} {xs : List V} {k : Nat} {R : Hp → Prop} (h : H p = some (.lst xs)) (hj : i = (k : Int)) (hk : k < xs.length) (q : R (upd H p (.lst (xs.set k v)))) : rSetL (.ref p) (.int i) v H R := by
  subst hj
  exact ⟨p, xs, _, k, rfl, rfl, h, Evl.ixN_nat hk, q⟩
/-- an item at a drawn place -/
theorem g_ixLn (e : Ex G H) (h : Dp K G x (.list ds)) (h0 : 0 ≤ i) (h1 : i < (ds.length : Int)) (q : ∀ v d, d ∈ ds → ds[i.toNat]? = some d → Dp K G v d → Q v H) : rIxL K x (.int i) H Q := by
  have hl : i.toNat < ds.length := by omega
  exact g_ixL e h (k := i.toNat) (d := ds[i.toNat]) (by simp [hl]) (by omega) fun v dv => q v _ (List.getElem_mem hl) (by simp [hl]) dv
theorem g_ixTn (e : Ex G H) (h : Dp K G x (.tuple ds)) (h0 : 0 ≤ i) (h1 : i < (ds.length : Int)) (q : ∀ v d, d ∈ ds → ds[i.toNat]? = some d → Dp K G v d → Q v H) : rIxT K x (.int i) H Q := by
  have hl : i.toNat < ds.length := by omega
  exact g_ixT e h (k := i.toNat) (d := ds[i.toNat]) (by simp [hl]) (by omega) fun v dv => q v _ (List.getElem_mem hl) (by simp [hl]) dv
theorem g_ixSn {s : Str} (hs : s.length ≤ sizeLine) (h0 : 0 ≤ i) (h1 : i < (s.length : Int)) (q : ∀ c, c ∈ s.cps.toList → Q (.str ⟨#[c]⟩) H) : rIxS (.str s) (.int i) H Q := by
  have hl : i.toNat < s.cps.toList.length := by rw [Array.length_toList]; show i.toNat < s.length; omega
  exact g_ixS hs (k := i.toNat) (c := s.cps.toList[i.toNat]) (by simp) (by omega) (q _ (List.getElem_mem hl))
theorem g_cat {p b : Addr} {xs zs : List V} (hp : H p = some (.lst xs)) (hb : H b = some (.lst zs)) (hl : xs.length + zs.length ≤ sizeLine) (e : Ex G H) (q : ∀ r H', Nx [] G H G H' → H r = none → H' r = some (.lst (xs ++ zs)) → G r = none → Q (.ref r) H') : rCat (.ref p) (.ref b) H Q :=
  ⟨p, b, xs, zs, rfl, rfl, hp, hb, hl, fun r hr => q r _ (Nx.own e hr) hr upd_same (e.free hr)⟩
theorem g_pop0 {p : Addr} {xs : List V} (hp : H p = some (.lst (v :: xs))) (hl : xs.length < 100000) (q : Q v (upd H p (.lst xs))) : rPopAt (.ref p) [.int 0] H Q :=
  ⟨p, v :: xs, 0, 0, v, rfl, rfl, hp, by decide, by decide, by simp [seqIndex?], rfl, q⟩
/-! ### tuples joined and cut -/
theorem g_catA (e : Ex G H) (hx : Dp K G x (.tuple ds)) (hy : Dp K G y (.tuple es)) (hz : ds.length + es.length ≤ sizeLine) (q : ∀ v G' H', Nx [] G H G' H' → Dp K G' v (.tuple (ds ++ es)) → Q v H') : rCatA K x y H Q := by
  obtain ⟨a, xs, rfl, ha, da⟩ := dp_tup hx
  obtain ⟨b, ys, rfl, hb, db⟩ := dp_tup hy
  refine ⟨a, b, xs, ys, rfl, rfl, e.seqT ha, e.seqT hb, by rw [dpAll_len da, dpAll_len db]; exact hz, fun hn => ?_, fun _ hn => ?_, fun _ _ p hp => ?_⟩
  · subst hn
    cases da
    exact q _ G H (Nx.refl e) hy
  · subst hn
    cases db
    rw [List.append_nil] at q
    exact q _ G H (Nx.refl e) hx
  · have h2 := nx_tup e (dpAll_app da db) hp
    exact q _ _ _ h2.1 h2.2
theorem cut_lo (xs : List V) (k : Nat) : cutV xs (some (k : Int)) none = xs.drop k := by
  unfold cutV
  rw [HT.sIx_nat, HT.sIx_none]
  by_cases h : k ≤ xs.length
  · rw [Nat.min_eq_left h, List.take_of_length_le (by rw [List.length_drop]; omega)]
  · rw [Nat.min_eq_right (by omega), List.drop_eq_nil_of_le (Nat.le_refl _), List.drop_eq_nil_of_le (by omega)]
    simp
theorem cut_hi (xs : List V) (k : Nat) : cutV xs none (some (k : Int)) = xs.take k := by
  unfold cutV
  rw [HT.sIx_nat, HT.sIx_none, List.drop_zero, Nat.sub_zero]
  by_cases h : k ≤ xs.length
  · rw [Nat.min_eq_left h]
  · rw [Nat.min_eq_right (by omega), List.take_of_length_le (Nat.le_refl _), List.take_of_length_le (by omega)]
theorem cut_all {xs : List V} {lo hi : Option Int} (h : HT.sIx xs.length 0 lo = 0 ∧ HT.sIx xs.length xs.length hi = xs.length) : cutV xs lo hi = xs := by
  unfold cutV
  rw [h.1, h.2, List.drop_zero, Nat.sub_zero, List.take_length]
theorem g_sl {r : V → Option Int → Option Int → Hp → VK → Prop} {te : TE} {tl th : TO} (q : te σ H fun x H1 => tl σ H1 fun l H2 => th σ H2 fun u H3 => r x l u H3 Q) : tSl r te tl th σ H Q := q
theorem g_noPart {R : Option Int → Hp → Prop} (q : R none H) : tNoPart σ H R := q
theorem g_part {t : TE} {R : Option Int → Hp → Prop} (q : t σ H fun x H1 => ∃ i, x = .int i ∧ R (some i) H1) : tPart t σ H R := q
theorem g_isint {P : Int → Prop} (q : P i) : ∃ k, V.int i = .int k ∧ P k := ⟨i, rfl, q⟩
theorem g_slAll {lo hi : Option Int} (e : Ex G H) (hx : Dp K G x (.tuple ds)) (hc : ∀ xs : List V, DpAll K G xs ds → DpAll K G (cutV xs lo hi) es) (q : ∀ v G' H', Nx [] G H G' H' → Dp K G' v (.tuple es) → Q v H') : rSlA K x lo hi H Q := by
  obtain ⟨a, xs, rfl, ha, da⟩ := dp_tup hx
  have dc := hc xs da
  refine ⟨a, xs, rfl, e.seqT ha, fun hw => ?_, fun _ p hp => ?_⟩
  · rw [cut_all hw] at dc
    exact q _ G H (Nx.refl e) (.tup ha dc)
  · have h2 := nx_tup e dc hp
    exact q _ _ _ h2.1 h2.2
theorem g_slHi {k : Nat} (e : Ex G H) (hx : Dp K G x (.tuple ds)) (hj : i = (k : Int)) (q : ∀ v G' H', Nx [] G H G' H' → Dp K G' v (.tuple (ds.take k)) → Q v H') : rSlA K x none (some i) H Q := by
  subst hj
  exact g_slAll e hx (fun xs da => by rw [cut_hi]; exact dpAll_take k da) q
theorem g_slLo {k : Nat} (e : Ex G H) (hx : Dp K G x (.tuple ds)) (hj : i = (k : Int)) (q : ∀ v G' H', Nx [] G H G' H' → Dp K G' v (.tuple (ds.drop k)) → Q v H') : rSlA K x (some i) none H Q := by
  subst hj
  exact g_slAll e hx (fun xs da => by rw [cut_lo]; exact dpAll_drop k da) q
theorem dpAll_rep {xs : List V} (h : DpAll K G xs ds) : ∀ n : Nat, DpAll K G (List.replicate n xs).flatten (List.replicate n ds).flatten
  | 0 => .nil
  | n + 1 => by
    rw [List.replicate_succ, List.flatten_cons, List.replicate_succ, List.flatten_cons]
    exact dpAll_app h (dpAll_rep h n)
theorem g_repU {k : Nat} (e : Ex G H) (hx : Dp K G x (.tuple ds)) (hn : ds ≠ []) (hk : 1 ≤ k ∧ k ≤ 1000) (hl : ds.length ≤ 1000) (hj : i = (k : Int)) (q : ∀ v G' H', Nx [] G H G' H' → Dp K G' v (.tuple (List.replicate k ds).flatten) → Q v H') : rRepU K x (.int i) H Q := by
  subst hj
  obtain ⟨a, xs, rfl, ha, da⟩ := dp_tup hx
  by_cases h1 : k = 1
  · subst h1
    refine .inr ⟨a, xs, rfl, rfl, e.seqT ha, q _ G H (Nx.refl e) ?_⟩
    simpa using hx
  · refine .inl ⟨a, _, xs, rfl, rfl, e.seqT ha, fun z => hn (by
      have := dpAll_len da
      rw [z] at this
      exact List.eq_nil_of_length_eq_zero this.symm), by omega, by omega, by rw [dpAll_len da]; exact hl, fun p hp => ?_⟩
    have h2 := nx_tup e (dpAll_rep da k) hp
    exact q _ _ _ h2.1 h2.2

/-! ### the pool of a law: a drawn number, the script's own list, a place -/
def PoolAt (K : PySem.W.Frag) (a : Addr) (G H : Hp) : Prop := G a = none ∧ ∃ (x k : Int) (l : Addr) (ns : List Int), H a = some (.lst [.int x, .ref l, .int k]) ∧ SqL K G l (ns.map V.int) ∧ 0 ≤ x ∧ -1 ≤ k
theorem PoolAt.go {a : Addr} (p : PoolAt K a G H) (n : Nx M G H G' H') (ha : a ∉ M) : PoolAt K a G' H' := by
  obtain ⟨g, x, k, l, ns, h, hl, r⟩ := p
  exact ⟨n.old a g ⟨_, h, fun _ z => nomatch z⟩, x, k, l, ns, n.fr a _ ha h, n.gg.seqL hl, r⟩
theorem PoolAt.live {a : Addr} (p : PoolAt K a G H) : H a ≠ none := by
  obtain ⟨_, _, _, _, _, h, _⟩ := p
  rw [h]; exact fun z => nomatch z
theorem PoolAt.upd {a A : Addr} {o : HO} (p : PoolAt K a G H) (h : A ≠ a) : PoolAt K a G (upd H A o) := by
  obtain ⟨g, x, k, l, ns, h1, hl, r⟩ := p
  exact ⟨g, x, k, l, ns, by rw [upd_ne h.symm]; exact h1, hl, r⟩
/-- a comprehension whose element draws -/
theorem g_lcPool {J : It} {te : TE} {tt : TT} {σ : L2.St} {a A : Addr} {j : Nat} (S : Src K [a] J G H ds) (e : Ex G H) (hA : H A = none) (hp : PoolAt K a G H) (hz : ds.length < sizeLine) (Jv : Nat → List PyData → Prop) (j0 : Jv 0 [])
    (hs : ∀ i d v acc G' H', ds[i]? = some d → Dp K G' v d → Nx [a] G H G' H' → PoolAt K a G' H' → acc.length ≤ i → Jv i acc → ∀ (QE : VK) (QN : Hp → Prop),
      (∀ y G4 H4 d', Nx [a] G' H' G4 H4 → PoolAt K a G4 H4 → Dp K G4 y d' → Jv (i + 1) (acc ++ [d']) → QE y H4) → (∀ G3 H3, Nx [a] G' H' G3 H3 → PoolAt K a G3 H3 → Jv (i + 1) acc → QN H3) →
      tt ((wipe σ [j]).set j (some v)) H' fun b H3 => if b = true then te ((wipe σ [j]).set j (some v)) H3 QE else QN H3)
    (hd : ∀ G' H' ys acc, Jv ds.length acc → Nx [a] G H G' H' → PoolAt K a G' H' → G' A = none → H' A = some (.lst ys) → DpAll K G' ys acc → Q (.ref A) H') : LcW J (gName j) tt te [j] σ A Q H :=
  g_lcG S e hA (fun b hb => by simp at hb; rw [hb]; exact hp.live) hz (PoolAt K a) hp (fun G' H' o p => by
    by_cases z : A = a
    · exact absurd hA (by rw [z]; exact hp.live)
    · exact p.upd z) (fun G' H' G1 H1 n p => p.go n (by simp)) Jv j0 hs hd
/-- the promise of a helper that draws: φ tells the value -/
def Drawn (K : PySem.W.Frag) (a : Addr) (G H : Hp) (Q : VK) (φ : Hp → V → Prop) : Prop := ∀ v G' H', Nx [a] G H G' H' → PoolAt K a G' H' → φ G' v → Q v H'
end
end Y

namespace Y
open PySem PySem.Spec PyProof.Rows L2
section
variable {X : Cx} {k : Nat} {ps : List Str} {sp : Sp} {W : WX} {x : Str} {p pos : Pos} {e : Expr} {es : List Expr} {t : TA}
/-- a call within a try's body -/
theorem pe_callSC (F : FnOk X.prog X.w X.K X.mg X.base (L2.CX X.prog X.w) k (He.ga X.K x) (fdOf X.K (He.ga X.K x)) ps sp) (c : Cal X.K X.mg x ps) (hr : Room k X.A) (hg : Gl X x) (tk : Takes X W)
    (ha : PA X (e :: es) t) (hdb : (x == ("__debug__" : Str)) = false := by decide) (he : starEach (e :: es) X.env = (false, eval e X.env) :: starEach es X.env := by rfl) (hpl : (backTo pos (starEach es X.env)).any (·.1) = false := by rfl) :
    PE X (.Call (.Name x p) (e :: es) [] pos) (tCallS sp (WE W) t) := pe_callS F hr hg c.g c.k c.b (fun σ => passAt tk σ) ha hdb he hpl
end
/-- isinstance(e, c) of the error that a suite holds -/
def rIsEo (K : PySem.W.Frag) (a : Addr) (cls : Value) (d : Option Addr) : List V → Hp → VK → Prop := fun xs H Q => ∃ (D dd : Addr) (fs : List (Str × V)) (c : V) (cv : Value) (b : Bool),
  cls = .ref D ∧ d = some dd ∧ H dd = some (.xd fs) ∧ ExcC K D ∧ xs = [.ref a, c] ∧ (∀ u, RelV c u → u = cv) ∧ PySem.W.kitOne K (.ref D) cv = some b ∧ Q (.bl b) H
theorem call_isEo {X : Cx} {a : Addr} {oe : Obj} {pn : List (Addr × Obj)} {cls : Value} {d : Option Addr} (hz : Zc cls d oe) (hf : ∃ vs, oe.data = .fields vs) : CallR (X.suite a ((a, oe) :: pn)) (.builtin "isinstance") (rIsEo X.K a cls d) := by
  intro pins s σ H xs us Q I r h
  obtain ⟨D, dd, fs, c, cv, b, rfl, rfl, h1, h2, h3, h4, h5, q⟩ := h
  exact call_isEf (fs := fs) h2 hz hf pins s σ H xs us Q I r ⟨⟨fs, h1⟩, c, cv, b, h3, h4, h5, q⟩
section
variable {K : PySem.W.Frag} {σ : L2.St} {H : Hp} {Q : VK}
theorem g_callS {sp : Sp} {E : L2.St → XK} {ar : TA} (q : ar σ H fun vs H1 => sp vs H1 Q (E σ)) : tCallS sp E ar σ H Q := q
theorem g_isE {a D dd C : Addr} {fs : List (Str × V)} {b : Bool} (h : H dd = some (.xd fs)) (hc : ExcC K D) (hk : PySem.W.kitOne K (.ref D) (.ref C) = some b) (q : Q (.bl b) H) : rIsEo K a (.ref D) (some dd) [.ref a, .ref C] H Q :=
  ⟨D, dd, fs, .ref C, .ref C, b, rfl, rfl, h, hc, rfl, fun u r => r, hk, q⟩
theorem g_xf {a C dd : Addr} {f : Str} {fs : List (Str × V)} {v : V} {i : Nat} (hv : σ[i]? = some (some (.ref a))) (h : H dd = some (.xd fs)) (hl : fs.lookup f = some v) (q : Q v H) : tXf a (.ref C) (some dd) C f (tVar i) σ H Q :=
  ⟨_, hv, rfl, rfl, dd, fs, v, rfl, h, hl, q⟩
end
end Y

namespace Y
open PySem PySem.Spec PyProof.Rows L2
/-! ### list(e.values()) -/
def rListVals : V → Hp → VK → Prop := fun x H Q => ∃ (d : Addr) (kvs : List (Key × V)), x = .ref d ∧ H d = some (.dK kvs) ∧ ∀ p, H p = none → Q (.ref p) (upd H p (.lst (kvs.map (·.2))))
def tListVals (te : TE) : TE := fun σ H Q => te σ H fun x H1 => rListVals x H1 Q
section
variable {X : Cx} {e : Expr} {te : TE} {p apos cpos pos : Pos}
theorem pe_listVals (hc : X.calm = true) (he : PE X e te) (hg : Gl X "list") (hm : X.mg "list" = none) (hv : bootBuiltins "list" = some (.type "list") := by decide +kernel) (hbase : attributeBase e "values" X.env (eval e X.env) = eval e X.env := by rfl) (hline : (apos.endLine == cpos.line) = true := by rfl)
    (hs : starEach [.Call (.Attribute e "values" apos) [] [] cpos] X.env = (false, eval (.Call (.Attribute e "values" apos) [] [] cpos) X.env) :: starEach [] X.env := by rfl) :
    PE X (.Call (.Name "list" p) [.Call (.Attribute e "values" apos) [] [] cpos] [] pos) (tListVals te) := by
  refine ⟨fun pins s σ H Q I hq => ?_⟩
  refine wpAny_Call_Name_kw (ld_blt I hg hm hv ?_)
  refine PyProof.Rows.callWith_type1 ?_ hs rfl
  rw [hs]
  show wpAny _ _ (spliced ((false, eval (.Call (.Attribute e "values" apos) [] [] cpos) X.env) :: backTo pos (starEach [] X.env))) _ _ s
  refine Calls.spliced_cons ?_
  refine wpAny_Call_method (T := "dict") (id := "dict.values") hbase rfl hline F.plainAttrs_dict F.slot_dict_values F.type_dict_values (thn (he.run pins s σ H _ I hq) fun u s1 ⟨x, H1, I1, rx, d, kvs, ex, hd, q⟩ => ?_)
  subst ex
  obtain rfl : u = Value.ref d := rx
  obtain ⟨hz, hs0, vs, kv, hdo⟩ := I1.hok d _ hd
  obtain ⟨ep, hat⟩ := hdo.dictAt
  have lk : kvs.length = vs.length := Paired.length kv
  have I2 : Inv X pins σ H1 { s1 with heap := s1.heap.push { cls := .type "dict_values", data := .fields #[.ref d] } } := I1.kept (t' := s1.toks) fun b ob q => Heap.get?_push_of_some _ q
  refine ⟨hdo.typeIs, hdo.mapOf.noDict, ?_⟩
  show wpAny _ _ (callWith cpos (.builtin "dict.values") [.ref d] [] []) _ X.xe s1
  refine method_meetsIn F.slot_dict_values F.entry_dict_values rfl (PySem.evalArgs_none ⟨rfl, hdo.typeIs, F.args_dict_values_1 _, _, meets_dict_values (mixKind X.prog X.w) d hs0, ⟨vs, hdo⟩, ?_⟩)
  refine Calls.spliced_nil ?_
  refine PySem.W.kdl_call (PySem.W.kdl_values (knd := mixKind X.prog X.w) (kvs := vs) (ep := ep)) (I1.ok.hd hc) ⟨⟨_, Heap.get?_push_size _ rfl, rfl, rfl⟩, hat.push _⟩ (by rw [← lk]; exact hz) fun h' tk acc c hk hS hacc => ?_
  refine ⟨.ref _, upd H1 _ (.lst (kvs.map (·.2))), I2.laid hk (Nat.le_refl _) (show ObjOk X.prog X.w _ _ _ (.lst (kvs.map (·.2))) from ⟨?_, acc.toList, c, ?_, ?_⟩), rfl, q _ (I2.hok.fresh (Nat.le_refl _))⟩
  · rw [List.length_map]; exact hz
  · have el : acc.toList.length = acc.size := by simp
    refine vals_of_at (by rw [List.length_map, el, hacc.1, lk]) fun j x w h1 h2 => ?_
    obtain ⟨k, hky⟩ := hacc.2 j w (by rw [← Array.getElem?_toList]; exact h2)
    obtain ⟨y, g1, g2⟩ := KV.at' kv hky
    rw [List.getElem?_map, g1] at h1
    cases h1
    exact g2
  · rw [Array.toArray_toList]; exact hS
end
end Y

namespace Y
open PySem PySem.Spec PyProof.Rows L2
/-! ### several except clauses, with names or without -/
abbrev HdT := Value × Option Nat × (Addr → Value → Option Addr → TS)
/-- the ends behind a named clause: the name is unbound -/
def endsAs (D : Ends) (i : Nat) : Ends := { nx := fun σ' H' => D.nx (σ'.set i none) H', rt := D.rt, bk := fun σ' H' => D.bk (σ'.set i none) H', ct := fun σ' H' => D.ct (σ'.set i none) H' }
def runA (D : Ends) (i : Option Nat) (t : TS) (a : Addr) (σ : L2.St) (H : Hp) : Prop := match i with
  | none => t D σ H
  | some i => t (endsAs D i) (σ.set i (some (.ref a))) H
def wManyA (K : PySem.W.Frag) (Wout : WX) (D : Ends) : List HdT → WX
  | [] => Wout
  | (c, i, ts) :: r => fun cls d σ H => ∃ b, PySem.W.exmOne K cls c = some b ∧ (b = true → ∀ a, H a = none → runA D i (ts a cls d) a σ H) ∧ (b = false → wManyA K Wout D r cls d σ H)
inductive HdsA (X : Cx) : List ExceptHandler → List HdT → Prop
  | nil : HdsA X [] []
  | cons {x : Str} {c : Value} {ts : Addr → Value → Option Addr → TS} {b₀ : Stmt} {suite : List Stmt} {np pos' : Pos} {hds : List ExceptHandler} {l : List HdT} (hc : Names X x c)
      (hsu : ∀ (a : Addr) (oe : Obj) (cls : Value) (d : Option Addr) (pn : List (Addr × Obj)), Zc cls d oe → (∃ vs, oe.data = .fields vs) → PSs (X.suite a ((a, oe) :: pn)) (b₀ :: suite) (ts a cls d)) (r : HdsA X hds l) :
      HdsA X (.ExceptHandler (some (.Name x np)) none (b₀ :: suite) pos' :: hds) ((c, none, ts) :: l)
  | as_ {x n : Str} {i : Nat} {c : Value} {ts : Addr → Value → Option Addr → TS} {b₀ : Stmt} {suite : List Stmt} {np pos' : Pos} {hds : List ExceptHandler} {l : List HdT} (hi : X.N[i]? = some n) (hln : X.env.kindOf n = some .local) (hc : Names X x c)
      (hsu : ∀ (a : Addr) (oe : Obj) (cls : Value) (d : Option Addr) (pn : List (Addr × Obj)), Zc cls d oe → (∃ vs, oe.data = .fields vs) → PSs (X.suite a ((a, oe) :: pn)) (b₀ :: suite) (ts a cls d)) (r : HdsA X hds l) :
      HdsA X (.ExceptHandler (some (.Name x np)) (some n) (b₀ :: suite) pos' :: hds) ((c, some i, ts) :: l)
section
variable {X : Cx} {body : List Stmt} {h₀ : ExceptHandler} {hds : List ExceptHandler} {l : List HdT} {pos : Pos} {tb : WX → TS} {Wout : WX}
theorem ps_try_manyA (hs : X.stack = X.env :: X.outer) (hf : X.env.frame = some X.env.locals) (hN : X.N.Nodup) (tk : Takes X Wout)
    (hb : ∀ (W : WX) (pn : List (Addr × Obj)) (xe : Value → Shared → Prop), Takes (X.tr pn xe) W → PassesOwn (model X.prog X.w) X.A X.env xe → PSs (X.tr pn xe) body (tb W))
    (hh : HdsA X (h₀ :: hds) l) : PS X (.Try body (h₀ :: hds) [] [] pos) (fun D σ H => tb (wManyA X.K Wout D l) D σ H) := by
  refine ⟨fun pins s σ H D I h => ?_⟩
  have ok := I.ok
  have hfr : X.A.frames = some (X.env :: X.outer) := by rw [ok.frames, hs]
  refine wpAny_Try_except ?_
  refine wpAny_mono ((hb (wManyA X.K Wout D l) (X.pn ++ pins) (fun e s₁ => wpAny (model X.prog X.w) X.A (noteFrame e X.env) (fun _ s₂ => wpAny (model X.prog X.w) X.A (setFlight e none) (fun _ s₃ =>
    wpAny (model X.prog X.w) X.A (handleBy e X.env (h₀ :: hds)) (SP X pins D) X.xe s₃) X.xe s₂) X.xe s₁) (fun u s' xx => ?_) PassesOwn.looking).run [] s σ H D (I.toTry _) h) (fun f s1 hsp => ?_) (fun e s1 he => he)
  · -- the catch
    obtain ⟨a, B, sI, pins', σ', H', cls, d, rfl, J', nb, up, sky, na, os, ag, w⟩ := xx
    have J : Inv X pins σ' H' sI := J'.ofTry ok
    have sky' : Sky B (X.env :: X.outer) a (Zc cls d) X.env.locals s'.heap := by rw [← hs]; exact sky
    show wpAny (model X.prog X.w) X.A (noteFrame (.ref a) X.env) _ _ _
    refine Sky.land Zc.steady hfr hf sky' fun h3 fl3 up3 => ?_
    have J3 : Inv X pins σ' H' { s' with heap := h3 } := J.landed nb fl3.1 (up.trans up3) os ag
    obtain ⟨oe3, vs3, he3, hz3, hd3⟩ := fl3.there
    have notFr : ∀ {h : Heap} {o : Obj} {vs : Array Value}, h.FunFrames B (X.env :: X.outer) → h.get? a = some o → o.data = .fields vs → a ∉ frs (X.env :: X.outer) := fun {h o vs} ff e dd hm => by
      obtain ⟨_, o', e', hnf⟩ := ff.mem hm
      rw [e] at e'; cases e'
      exact hnf _ dd
    have nfr := notFr fl3.2.2.1 he3 hd3
    have nL : a ≠ X.env.locals := fun z => nfr (List.mem_filterMap.mpr ⟨X.env, List.mem_cons_self, by rw [hf, z]⟩)
    have nF : a ∉ X.fs := fun hm => by
      obtain ⟨e, he, q⟩ := List.mem_filterMap.mp hm
      exact nfr (List.mem_filterMap.mpr ⟨e, List.mem_cons_of_mem _ he, q⟩)
    have S3 := J3.suite he3 hd3 na nL nF
    have LT : PySem.W.Looks (model X.prog X.w) h3 (typeOf (.ref a)) cls := fun A Q E s k q => wpAny_typeOf_ref (k _ _ he3) (by rw [hz3.1]; exact q)
    have test : ∀ {x : Str} {c : Value} {np : Pos} (hc : Names X x c) {Q : Value → Shared → Prop} {E : Value → Shared → Prop}, Q c { s' with heap := h3 } → wpAny (model X.prog X.w) (X.A.mark (some (.ref a))) (eval (.Name x np) X.env) Q E { s' with heap := h3 } := fun {x c np} hc {Q E} q => by
      obtain ⟨hg, hdbg, hm | ⟨hm, hv, hnn⟩⟩ := hc
      · exact ld_glob (X := X.suite a ((a, oe3) :: (X.pn ++ pins))) S3 hg hm q hdbg
      · exact ld_blt (X := X.suite a ((a, oe3) :: (X.pn ++ pins))) S3 hg hm hv q hnn hdbg
    have go : ∀ {hds' : List ExceptHandler} {l' : List HdT}, HdsA X hds' l' → wManyA X.K Wout D l' cls d σ' H' →
        wpAny (model X.prog X.w) X.A (handleBy (.ref a) X.env hds') (SP X pins D) X.xe { s' with heap := h3 } := by
      intro hds' l' hk
      induction hk with
      | nil =>
        intro w
        refine wpAny_handleBy_nil ?_
        obtain ⟨k1, k2, k3, oe, vs, T, oT, ts', he, hz, hd, h1, hr⟩ := id fl3
        unfold PySem.passOn
        refine wpAny_bind (wpAny_field he hd h1 ?_)
        rw [if_neg (show ¬ ((Value.ref T == Value.none) = true) from by simp)]
        have fin : wpAny (model X.prog X.w) X.A (setFlight (.ref a) X.env.frame) (fun _ s4 => wpAny (model X.prog X.w) X.A (throw (.ref a) : Sem Flow) (SP X pins D) X.xe s4) X.xe { s' with heap := h3 } := by
          rw [hf]
          refine HandSPX.setFlight_upZ fl3 fun h4 hh4 up4 => wpAny_throw (tk _ _ ?_)
          exact ⟨a, B, sI, pins, σ', H', cls, d, rfl, J, nb, (up.trans up3).trans up4, .inr (.inr (by rw [hs]; exact hh4)), na, os, ag, w⟩
        first
          | exact wpAny_bind (wpAny_pure (wpAny_bind fin))
          | exact wpAny_bind fin
      | @cons x c ts b₀ suite np pos' hds2 l2 hc hsu r ih =>
        intro w
        obtain ⟨b, hb1, hyes, hno⟩ := w
        refine wpAny_handleBy_cons (codeAny_handlers_test ?_) (by intro q; cases q)
        have LM := PySem.W.exm_one (M := model X.prog X.w) (J3.kIn) LT hb1
        refine test hc (LM.here ?_)
        cases b with
        | true =>
          refine codeAny_handlers_suite ?_
          refine HandSPX.lands_againZ fl3 fun h4 fl4 up4 => ?_
          have J4 : Inv X pins σ' H' { s' with heap := h4 } := J.landed nb fl4.1 ((up.trans up3).trans up4) os ag
          obtain ⟨oe4, vs4, he4, hz4, hd4⟩ := fl4.there
          have S4 := J4.suite he4 hd4 na nL nF
          refine wpAny_mono ((hsu a oe4 cls d (X.pn ++ pins) hz4 ⟨_, hd4⟩).run [] _ _ H' _ S4 (hyes rfl a na)) (fun f s6 hsp => ?_) (fun _ _ z => False.elim z)
          cases f with
          | next =>
            obtain ⟨σ6, H6, S6, q6⟩ := hsp
            exact ⟨_, _, S6.unsuite ok, q6⟩
          | brk =>
            obtain ⟨σ6, H6, S6, q6⟩ := hsp
            exact ⟨_, _, S6.unsuite ok, q6⟩
          | cont =>
            obtain ⟨σ6, H6, S6, q6⟩ := hsp
            exact ⟨_, _, S6.unsuite ok, q6⟩
          | ret u =>
            obtain ⟨v6, σ6, H6, S6, r6, q6⟩ := hsp
            exact ⟨_, _, _, S6.unsuite ok, r6, q6⟩
        | false =>
          show wpAny _ X.A (handleBy (.ref a) X.env hds2) _ _ _
          exact ih (hno rfl)
      | @as_ x n i c ts b₀ suite np pos' hds2 l2 hi hln hc hsu r ih =>
        intro w
        obtain ⟨b, hb1, hyes, hno⟩ := w
        refine wpAny_handleBy_cons (codeAny_handlers_test ?_) (by intro q; cases q)
        have LM := PySem.W.exm_one (M := model X.prog X.w) (J3.kIn) LT hb1
        refine test hc (LM.here ?_)
        cases b with
        | true =>
          refine codeAny_handlers_suite_as ?_
          refine HandSPX.lands_againZ fl3 fun h4 fl4 up4 => ?_
          have J4 : Inv X pins σ' H' { s' with heap := h4 } := J.landed nb fl4.1 ((up.trans up3).trans up4) os ag
          obtain ⟨oe4, vs4, he4, hz4, hd4⟩ := fl4.there
          have S4 := J4.suite he4 hd4 na nL nF
          refine store_ok (X := X.suite a ((a, oe4) :: (X.pn ++ pins))) (v := .ref a) S4 hN hi (.inl hln) rfl (fun s5 S5 => ?_) (.inr hln)
          refine wpAny_mono ((hsu a oe4 cls d (X.pn ++ pins) hz4 ⟨_, hd4⟩).run [] s5 _ H' _ S5 (hyes rfl a na)) (fun f s6 hsp => ?_) (fun _ _ z => False.elim z)
          have end_ : ∀ {σ6 : L2.St} {H6 : Hp} {Q : Shared → Prop}, Inv (X.suite a ((a, oe4) :: (X.pn ++ pins))) [] σ6 H6 s6 → (∀ s7, Inv X pins (σ6.set i none) H6 s7 → Q s7) →
              wpAny (model X.prog X.w) X.A (do bindName X.env n .none; unbindBehindTheSuite X.env n pos') (fun _ s7 => Q s7) X.xe s6 := fun {σ6 H6 Q} S6 hq => gone_ok (S6.unsuite ok) hN hi hln hq
          cases f with
          | next =>
            obtain ⟨σ6, H6, S6, q6⟩ := hsp
            exact end_ S6 fun s7 J7 => ⟨_, _, J7, q6⟩
          | brk =>
            obtain ⟨σ6, H6, S6, q6⟩ := hsp
            exact end_ S6 fun s7 J7 => ⟨_, _, J7, q6⟩
          | cont =>
            obtain ⟨σ6, H6, S6, q6⟩ := hsp
            exact end_ S6 fun s7 J7 => ⟨_, _, J7, q6⟩
          | ret u =>
            obtain ⟨v6, σ6, H6, S6, r6, q6⟩ := hsp
            exact end_ S6 fun s7 J7 => ⟨_, _, _, J7, r6, q6⟩
        | false =>
          show wpAny _ X.A (handleBy (.ref a) X.env hds2) _ _ _
          exact ih (hno rfl)
    exact go hh w
  · cases f with
    | next =>
      obtain ⟨σ', H', J', q⟩ := hsp
      exact wpAny_execs_nil ⟨σ', H', J'.ofTry ok, q⟩
    | brk =>
      obtain ⟨σ', H', J', q⟩ := hsp
      exact ⟨σ', H', J'.ofTry ok, q⟩
    | cont =>
      obtain ⟨σ', H', J', q⟩ := hsp
      exact ⟨σ', H', J'.ofTry ok, q⟩
    | ret u =>
      obtain ⟨v, σ', H', J', r, q⟩ := hsp
      exact ⟨v, σ', H', J'.ofTry ok, r, q⟩
end
end Y

namespace Y
open PySem PySem.Spec PyProof.Rows L2
/-! ### objects: methods and fields -/
def tMethS1 (C : Addr) (m : Str) (sp : Sp) (E : L2.St → XK) (ta : TE) (t : TA) : TE := fun σ H Q => ta σ H fun x H1 => ∃ a dx fs, x = .ref a ∧ H1 a = some (.ins C dx fs) ∧ fs.lookup m = none ∧ t σ H1 fun vs H2 => sp (.ref a :: vs) H2 Q (E σ)
section
variable {X : Cx} {CX : CXT} {k : Nat} {C : Addr} {ps : List Str} {sp : Sp} {E : XK} {m : Str} {f : Addr} {pos apos : Pos} {e o : Expr} {es : List Expr} {ta : TE} {t : TA}
theorem pe_methC {pl : Sem Bool} (he : PE X o ta) (c : Cls X.K C) (hm : Meth X.K C m f) (F : FnOk X.prog X.w X.K X.mg X.base CX k f (fdOf X.K f) ps sp) (hr : Room k X.A) (ca : CalM X.K f ps) (hx : Passes CX X E) (ha : PA X (e :: es) t)
    (hst : starEach (e :: es) X.env = (false, eval e X.env) :: starEach es X.env := by rfl) (hpl : (backTo pos (starEach es X.env)).any (·.1) = false := by rfl)
    (ht : eval (.Call (.Attribute o m apos) (e :: es) [] pos) X.env = (do
      let ov ← eval o X.env
      standAt apos.atName
      let (f, first) ← holding [ov] (getMethod ov m pl)
      callWith pos f first (backTo pos (starEach (e :: es) X.env)) (backToKw pos (keywordEach [] X.env))) := by rfl) :
    PE X (.Call (.Attribute o m apos) (e :: es) [] pos) (tMeth1 C m sp E ta t) := by
  refine ⟨fun pins s σ H Q I h => ?_⟩
  refine PySem.W.methodCall_KW (pl := pl) (thn (he.run pins s σ H _ I h) fun u s1 ⟨x, H1, I1, rx, a, dx, fs, ex, ea, l, q⟩ => ?_) ht
  subst ex
  obtain rfl : u = Value.ref a := rx
  refine getmeth_ok I1 ea c hm l ?_
  refine PySem.W.callWith_K (first := [.ref a]) (h₀ := X.base) I.ok.mod.kin hm.kp (thn (ha.run pos pins s1 σ H1 _ I1 q) fun us s2 ⟨vs, H2, I2, r, q2⟩ => ⟨I2.kIn, ?_⟩) hst hpl
  exact run_fn (us := .ref a :: us) (vs := .ref a :: vs) F hr ca.b .nil hx I2 (.cons rfl r) (by rw [List.append_nil]; exact q2)
theorem pe_meth0C {pl : Sem Bool} (he : PE X o ta) (c : Cls X.K C) (hm : Meth X.K C m f) (F : FnOk X.prog X.w X.K X.mg X.base CX k f (fdOf X.K f) ps sp) (hr : Room k X.A) (ca : CalM X.K f ps) (hx : Passes CX X E)
    (ht : eval (.Call (.Attribute o m apos) [] [] pos) X.env = (do
      let ov ← eval o X.env
      standAt apos.atName
      let (f, first) ← holding [ov] (getMethod ov m pl)
      callWith pos f first (backTo pos (starEach [] X.env)) (backToKw pos (keywordEach [] X.env))) := by rfl) :
    PE X (.Call (.Attribute o m apos) [] [] pos) (tMeth1 C m sp E ta tNil) := by
  refine ⟨fun pins s σ H Q I h => ?_⟩
  refine PySem.W.methodCall_KW (pl := pl) (thn (he.run pins s σ H _ I h) fun u s1 ⟨x, H1, I1, rx, a, dx, fs, ex, ea, l, q⟩ => ?_) ht
  subst ex
  obtain rfl : u = Value.ref a := rx
  refine getmeth_ok I1 ea c hm l ?_
  exact PySem.W.callWith_K0 (first := [.ref a]) I1.kIn hm.kp (run_fn (us := [.ref a]) (vs := [.ref a]) F hr ca.b .nil hx I1 (.cons rfl .nil) (by rw [List.append_nil]; exact q))
theorem pe_methCS {pl : Sem Bool} {E : L2.St → XK} (he : PE X o ta) (c : Cls X.K C) (hm : Meth X.K C m f) (F : FnOk X.prog X.w X.K X.mg X.base CX k f (fdOf X.K f) ps sp) (hr : Room k X.A) (ca : CalM X.K f ps) (hx : ∀ σ, PassesAt CX X σ (E σ)) (ha : PA X (e :: es) t)
    (hst : starEach (e :: es) X.env = (false, eval e X.env) :: starEach es X.env := by rfl) (hpl : (backTo pos (starEach es X.env)).any (·.1) = false := by rfl)
    (ht : eval (.Call (.Attribute o m apos) (e :: es) [] pos) X.env = (do
      let ov ← eval o X.env
      standAt apos.atName
      let (f, first) ← holding [ov] (getMethod ov m pl)
      callWith pos f first (backTo pos (starEach (e :: es) X.env)) (backToKw pos (keywordEach [] X.env))) := by rfl) :
    PE X (.Call (.Attribute o m apos) (e :: es) [] pos) (tMethS1 C m sp E ta t) := by
  refine ⟨fun pins s σ H Q I h => ?_⟩
  refine PySem.W.methodCall_KW (pl := pl) (thn (he.run pins s σ H _ I h) fun u s1 ⟨x, H1, I1, rx, a, dx, fs, ex, ea, l, q⟩ => ?_) ht
  subst ex
  obtain rfl : u = Value.ref a := rx
  refine getmeth_ok I1 ea c hm l ?_
  refine PySem.W.callWith_K (first := [.ref a]) (h₀ := X.base) I.ok.mod.kin hm.kp (thn (ha.run pos pins s1 σ H1 _ I1 q) fun us s2 ⟨vs, H2, I2, r, q2⟩ => ⟨I2.kIn, ?_⟩) hst hpl
  exact run_fnS (us := .ref a :: us) (vs := .ref a :: vs) F hr ca.b (hx σ) I2 (.cons rfl r) q2
end
def MthW (C : Addr) (m : Str) (R : Addr → Hp → Prop) (x : V) (H1 : Hp) : Prop := ∃ a dx fs, x = .ref a ∧ H1 a = some (.ins C dx fs) ∧ fs.lookup m = none ∧ R a H1
def FldW (K : PySem.W.Frag) (f : Str) (Q : VK) (x : V) (H1 : Hp) : Prop := ∃ a C dx fs v, x = .ref a ∧ H1 a = some (.ins C dx fs) ∧ Cls K C ∧ NoAttr K C f ∧ fs.lookup f = some v ∧ Q v H1
def SfdW (K : PySem.W.Frag) (f : Str) (y : V) (R : Hp → Prop) (x : V) (H2 : Hp) : Prop := ∃ a C dx fs, x = .ref a ∧ H2 a = some (.ins C dx fs) ∧ Cls K C ∧ NoAttr K C f ∧ fs.length < 1000 ∧ R (upd H2 a (.ins C dx (putF f y fs)))
section
variable {K : PySem.W.Frag} {σ : L2.St} {H : Hp} {Q : VK} {D : Ends} {C : Addr} {m f : Str} {sp : Sp} {E : XK} {ta tv : TE} {ar : TA} {dx : Addr} {a : Addr} {fs : List (Str × V)} {v y : V}
theorem g_meth (q : ta σ H fun x H1 => MthW C m (fun a H2 => ar σ H2 fun vs H3 => sp (.ref a :: vs) H3 Q E) x H1) : tMeth1 C m sp E ta ar σ H Q := q
theorem g_methS {E : L2.St → XK} (q : ta σ H fun x H1 => MthW C m (fun a H2 => ar σ H2 fun vs H3 => sp (.ref a :: vs) H3 Q (E σ)) x H1) : tMethS1 C m sp E ta ar σ H Q := q
theorem g_fld (q : ta σ H fun x H1 => FldW K f Q x H1) : tFld K ta f σ H Q := q
theorem g_sfd (q : tv σ H fun y H1 => ta σ H1 fun x H2 => SfdW K f y (fun H3 => D.nx σ H3) x H2) : sFld K ta tv f D σ H := q
theorem g_mth {R : Addr → Hp → Prop} (h : H a = some (.ins C dx fs)) (hl : fs.lookup m = none) (q : R a H) : MthW C m R (.ref a) H := ⟨a, dx, fs, rfl, h, hl, q⟩
theorem g_fdW (h : H a = some (.ins C dx fs)) (c : Cls K C) (n : NoAttr K C f) (hl : fs.lookup f = some v) (q : Q v H) : FldW K f Q (.ref a) H := ⟨a, C, dx, fs, v, rfl, h, c, n, hl, q⟩
theorem g_sfW {R : Hp → Prop} (h : H a = some (.ins C dx fs)) (c : Cls K C) (n : NoAttr K C f) (hl : fs.length < 1000) (q : R (upd H a (.ins C dx (putF f y fs)))) : SfdW K f y R (.ref a) H := ⟨a, C, dx, fs, rfl, h, c, n, hl, q⟩
end
theorem g_nbool {b : Bool} {A B : Prop} {i : Decidable ((!b) = true)} (h1 : b = false → A) (h2 : b = true → B) : @ite Prop ((!b) = true) i A B := by
  cases b with
  | true => rw [if_neg (by simp)]; exact h2 rfl
  | false => rw [if_pos (by simp)]; exact h1 rfl
/-! ### dicts -/
def DInW (Q : VK) (y x : V) (H : Hp) : Prop := ∃ a o, x = V.ref a ∧ DGet H a y o ∧ Q (V.bl (Option.isSome o)) H
def DNiW (Q : VK) (y x : V) (H : Hp) : Prop := ∃ a o, x = V.ref a ∧ DGet H a y o ∧ Q (V.bl (!Option.isSome o)) H
def DGeW (Q : VK) (x y : V) (H : Hp) : Prop := ∃ a v, x = V.ref a ∧ DGet H a y (some v) ∧ Q v H
def DPuW (R : Hp → Prop) (v x y : V) (H : Hp) : Prop := ∃ a H4, x = V.ref a ∧ DPut H a y v H4 ∧ R H4
def DDeW (R : Hp → Prop) (x y : V) (H : Hp) : Prop := ∃ a kvs k, x = V.ref a ∧ H a = some (HO.dK kvs) ∧ y = kV k ∧ (valV kvs k).isSome = true ∧ R (upd H a (HO.dK (dropK kvs k)))
section
variable {K : PySem.W.Frag} {σ : L2.St} {H : Hp} {Q : VK} {D : Ends} {td ty tv te : TE} {d : Addr} {kvs : List (Key × V)} {s : Str} {v : V}
theorem g_din (q : ty σ H fun y H1 => td σ H1 fun x H2 => DInW Q y x H2) : tDIn ty td σ H Q := q
theorem g_dni (q : ty σ H fun y H1 => td σ H1 fun x H2 => DNiW Q y x H2) : tDNotIn ty td σ H Q := q
theorem g_dge (q : td σ H fun x H1 => ty σ H1 fun y H2 => DGeW Q x y H2) : tDGet td ty σ H Q := q
theorem g_dpu (q : tv σ H fun v H1 => td σ H1 fun x H2 => ty σ H2 fun y H3 => DPuW (fun H4 => D.nx σ H4) v x y H3) : sDPut td ty tv D σ H := q
theorem g_dde (q : td σ H fun x H1 => ty σ H1 fun y H2 => DDeW (fun H4 => D.nx σ H4) x y H2) : sDDel td ty D σ H := q
theorem g_lvs (q : te σ H fun x H1 => rListVals x H1 Q) : tListVals te σ H Q := q
theorem g_new (q : ∀ p, H p = none → Q (.ref p) (upd H p (.dK []))) : tDNewK σ H Q := q
theorem g_dinW (h : H d = some (.dK kvs)) (q : Q (.bl (valV kvs (Sum.inr s : Key)).isSome) H) : DInW Q (.str s) (.ref d) H := ⟨d, _, rfl, .inl ⟨kvs, .inr s, .inl h, rfl, rfl⟩, q⟩
theorem g_dniW (h : H d = some (.dK kvs)) (q : Q (.bl (!(valV kvs (Sum.inr s : Key)).isSome)) H) : DNiW Q (.str s) (.ref d) H := ⟨d, _, rfl, .inl ⟨kvs, .inr s, .inl h, rfl, rfl⟩, q⟩
theorem g_dgeW (h : H d = some (.dK kvs)) (hv : valV kvs (Sum.inr s : Key) = some v) (q : Q v H) : DGeW Q (.ref d) (.str s) H := ⟨d, v, rfl, .inl ⟨kvs, .inr s, .inl h, rfl, hv.symm⟩, q⟩
theorem g_ddeW {R : Hp → Prop} (h : H d = some (.dK kvs)) (hv : (valV kvs (Sum.inr s : Key)).isSome = true) (q : R (upd H d (.dK (dropK kvs (Sum.inr s : Key))))) : DDeW R (.ref d) (.str s) H := ⟨d, kvs, .inr s, rfl, h, rfl, hv, q⟩
end
/-- raised from (G, H): an error of the class at C whose field f is z -/
def RaX (C : Addr) (f : Str) (z : V) (G H : Hp) (E : XK) : Prop := ∀ G' H' dd, Nx [] G H G' H' → H' dd = some (.xd [(f, z)]) → E (.ref C) (some dd) H'
theorem RaX.go {C : Addr} {f : Str} {z : V} {G H G1 H1 : Hp} {E : XK} (r : RaX C f z G H E) (n : Nx [] G H G1 H1) {dd : Addr} (hd : H1 dd = none) : E (.ref C) (some dd) (upd H1 dd (.xd [(f, z)])) := r G1 _ dd (n.trans (Nx.own n.gh hd)) upd_same
theorem RaX.trans {C : Addr} {f : Str} {z : V} {G H G1 H1 : Hp} {E : XK} (r : RaX C f z G H E) (n : Nx [] G H G1 H1) : RaX C f z G1 H1 E := fun G' H' dd n' h => r G' H' dd (n.trans n') h
/-- a list that stands, apart from what is known -/
def LstAt (K : PySem.W.Frag) (p : Addr) (G H : Hp) (L : List PyData) : Prop := ∃ vs, H p = some (.lst vs) ∧ G p = none ∧ DpAll K G vs L
section
variable {K : PySem.W.Frag} {p A : Addr} {G H G' H' G0 H0 : Hp} {L : List PyData} {M : List Addr} {o : HO}
theorem LstAt.go (r : LstAt K p G H L) (n : Nx M G H G' H') (hp : p ∉ M) : LstAt K p G' H' L := by
  obtain ⟨vs, h, g, d⟩ := r
  exact ⟨vs, n.fr p _ hp h, n.old p g ⟨_, h, fun _ z => nomatch z⟩, dpAll_mono n.gg d⟩
theorem LstAt.upd (r : LstAt K p G H L) (h : A ≠ p) : LstAt K p G (upd H A o) L := by
  obtain ⟨vs, h1, g, d⟩ := r
  exact ⟨vs, by rw [upd_ne h.symm]; exact h1, g, d⟩
theorem LstAt.live (r : LstAt K p G H L) : H p ≠ none := by
  obtain ⟨vs, h1, _⟩ := r
  rw [h1]; exact fun z => nomatch z
/-- .. known from now on -/
theorem LstAt.know (r : LstAt K p G H L) (n : Nx M G0 H0 G H) (h : H0 p = none) : ∃ G', Nx M G0 H0 G' H ∧ Y.Ex G G' ∧ Dp K G' (.ref p) (.list L) := by
  obtain ⟨vs, h1, g, d⟩ := r
  exact ⟨_, n.know h h1 g, Ex.new g, .lst (.of upd_same) (dpAll_mono (Ex.new g) d)⟩
theorem Nx.sub {M' : List Addr} (a : Nx M' G H G' H') (h : ∀ x ∈ M', x ∈ M ∨ H x = none) : Nx M G H G' H' := ⟨a.gg, a.gh, a.old, a.live, fun c u hc q => a.fr c u (fun z => by
  rcases h c z with z | z
  · exact hc z
  · rw [z] at q; cases q) q, a.nt⟩
theorem g_make0 {C : Addr} {sp : Sp} {E : XK} {σ : L2.St} {Q : VK} (q : ∀ x dx, H x = none → H dx = none → dx ≠ x → sp [.ref x] (L2.upd (L2.upd H dx (.own x)) x (.ins C dx [])) (fun v H2 => v = .non ∧ Q (.ref x) H2) E) : tMake C sp [] E tNil σ H Q := q
theorem nx_make {C x dx : Addr} (e : Y.Ex G H) (h1 : H x = none) (h2 : H dx = none) (h3 : dx ≠ x) : Nx [] G H G (L2.upd (L2.upd H dx (.own x)) x (.ins C dx [])) :=
  (Nx.own e h2).trans (Nx.own (e.out (e.free h2)) (by rw [upd_ne h3.symm]; exact h1))
theorem g_listM {x : V} {Q : VK} (e : Y.Ex G H) (h : Dp K G x (.list L)) (q : ∀ p H', Nx [] G H G H' → H p = none → LstAt K p G H' L → Q (.ref p) H') : rListOf K [x] H Q := by
  obtain ⟨a, vs, rfl, hs, hd⟩ := dp_lst h
  exact ⟨a, vs, rfl, .inl (e.seqL hs), fun l hl => q l _ (Nx.own e hl) hl ⟨vs, upd_same, e.free hl, hd⟩⟩
theorem g_listL {Q : VK} (e : Y.Ex G H) (h : LstAt K A G H L) (q : ∀ p H', Nx [] G H G H' → H p = none → LstAt K p G H' L → Q (.ref p) H') : rListOf K [.ref A] H Q := by
  obtain ⟨vs, hs, g, hd⟩ := h
  exact ⟨A, vs, rfl, .inl (.of hs), fun l hl => q l _ (Nx.own e hl) hl ⟨vs, upd_same, e.free hl, hd⟩⟩
end
def rDictC : List V → Hp → VK → Prop := fun xs H Q => ∃ a kvs, xs = [V.ref a] ∧ Rd H a (.dK kvs) ∧ ∀ (p : Addr), H p = none → Q (V.ref p) (upd H p (.dK kvs))
theorem call_dictC {X : Cx} : CallR X (.type "dict") rDictC := call_dictD
theorem g_dictC {H : Hp} {Q : VK} {a : Addr} {kvs : List (Key × V)} (h : H a = some (.dK kvs)) (q : ∀ p, H p = none → Q (.ref p) (upd H p (.dK kvs))) : rDictC [.ref a] H Q := ⟨a, kvs, rfl, .inl h, q⟩
theorem g_listDk {H : Hp} {Q : VK} {a : Addr} {kvs : List (Key × V)} (h : H a = some (.dK kvs)) (q : ∀ p, H p = none → Q (.ref p) (upd H p (.lst (kvs.map fun kv => kV kv.1)))) : rListD [.ref a] H Q := ⟨a, kvs, rfl, h, q⟩
theorem g_listVs {H : Hp} {Q : VK} {a : Addr} {kvs : List (Key × V)} (h : H a = some (.dK kvs)) (q : ∀ p, H p = none → Q (.ref p) (upd H p (.lst (kvs.map (·.2))))) : rListVals (.ref a) H Q := ⟨a, kvs, rfl, h, q⟩
def DelW (R : Hp → Prop) (x y : V) (H : Hp) : Prop := ∃ l xs i k, x = V.ref l ∧ y = V.int i ∧ H l = some (HO.lst xs) ∧ -2 ^ 63 ≤ i ∧ i < 2 ^ 63 ∧ seqIndex? i xs.length = some k ∧ R (upd H l (HO.lst (xs.eraseIdx k)))
theorem g_del {D : Ends} {σ : L2.St} {H : Hp} {to ti : TE} (q : to σ H fun x H1 => ti σ H1 fun y H2 => DelW (fun H3 => D.nx σ H3) x y H2) : tDelL to ti D σ H := q
theorem g_delW {R : Hp → Prop} {H : Hp} {l : Addr} {xs : List V} {i : Int} (h : H l = some (.lst xs)) (h0 : 0 ≤ i) (h1 : i < (xs.length : Int)) (hs : xs.length ≤ 100000) (q : R (upd H l (.lst (xs.eraseIdx i.toNat)))) : DelW R (.ref l) (.int i) H :=
  ⟨l, xs, i, i.toNat, rfl, rfl, h, by omega, by omega, by simp [seqIndex?, show ¬ i < 0 by omega, h0, h1], q⟩
section
variable {K : PySem.W.Frag} {G H : Hp} {Q : VK} {y : V} {a b s : Str}
theorem g_nin2 (e : Y.Ex G H) (h : Dp K G y (.tuple [.str a, .str b])) (q : Q (.bl (!(decide (a = s) || decide (b = s)))) H) : rIn K true (.str s) y H Q := by
  obtain ⟨p, xs, rfl, hs, hd⟩ := dp_tup h
  cases hd with
  | cons d1 t => cases t with
    | cons d2 t =>
      cases t; cases d1; cases d2
      refine ⟨p, _, rfl, .inr (e.seqT hs), rfl, rfl, ?_⟩
      have z : ∀ a : Str, (a == s) = decide (a = s) := fun a => by
        by_cases h : a = s
        · subst h; rw [decide_eq_true rfl]; exact beq_self_eq_true a
        · rw [decide_eq_false h]; exact beq_eq_false_iff_ne.mpr h
      have e2 : inV (.str s) [V.str a, V.str b] = (decide (a = s) || decide (b = s)) := by
        show (a == s || (b == s || false)) = _
        rw [z, z, Bool.or_false]
      rw [e2]
      exact q
/-- xs.index(s) for texts -/
theorem g_index {p : Addr} {ss : List Str} {j : Nat} (h : H p = some (.lst (ss.map V.str))) (hj : ss[j]? = some s) (hm : ∀ m, m < j → ss[m]? ≠ some s) (q : Q (.int (j : Int)) H) : rIndex K (.ref p) [.str s] H Q := by
  refine ⟨p, _, _, j, .str s, rfl, rfl, .of h, rfl, ?_, by rw [List.getElem?_map, hj]; rfl, beq_self_eq_true s, fun m z' hlt hz => ?_, q⟩
  · rw [List.all_map]
    exact List.all_eq_true.mpr fun _ _ => rfl
  · rw [List.getElem?_map] at hz
    obtain ⟨t, ht, rfl⟩ := Option.map_eq_some_iff.mp hz
    refine beq_eq_false_iff_ne.mpr fun z => hm m hlt ?_
    rw [ht, z]
end
theorem cutS_hi (z : Str) (k : Nat) : (cutS z none (some (k : Int))).cps.toList = z.cps.toList.take k := by
  unfold cutS
  rw [HT.sIx_nat, HT.sIx_none, List.drop_zero, Nat.sub_zero, List.toList_toArray]
  have hl : z.cps.toList.length = z.length := Array.length_toList
  by_cases h : k ≤ z.length
  · rw [Nat.min_eq_left h]
  · rw [Nat.min_eq_right (by omega), List.take_of_length_le (by omega), List.take_of_length_le (by omega)]
theorem dpAll_str_inv {K : PySem.W.Frag} {G : Hp} : ∀ {ns : List Str} {vs : List V}, DpAll K G vs (ns.map PyData.str) → vs = ns.map V.str
  | [], _, h => by cases h; rfl
  | n :: r, _, h => by
    cases h with
    | cons a t =>
      cases a
      rw [dpAll_str_inv t]; rfl
theorem dpAll_str {K : PySem.W.Frag} {G : Hp} : ∀ ns : List Str, DpAll K G (ns.map V.str) (ns.map PyData.str)
  | [] => .nil
  | n :: r => .cons (.str n) (dpAll_str r)
theorem rng_get {n i : Nat} {d : PyData} (h : (rng 0 n)[i]? = some d) : i < n ∧ d = .int (i : Int) := by
  have hl : i < n := by
    have := (List.getElem?_eq_some_iff.mp h).1
    simpa [rng] using this
  unfold rng at h
  rw [List.getElem?_map, List.getElem?_range hl] at h
  cases h
  exact ⟨hl, by simp⟩
theorem rng_len (n : Nat) : (rng 0 n).length = n := by simp [rng]
theorem take_get {xs : List PyData} {i : Nat} {d : PyData} (h : xs[i]? = some d) : xs.take (i + 1) = xs.take i ++ [d] := by
  rw [List.take_add_one, h]
  rfl
/-- a text among texts -/
theorem g_inS {K : PySem.W.Frag} {H : Hp} {Q : VK} {p : Addr} {ss : List Str} {t : Str} {neg : Bool} (h : SqL K H p (ss.map V.str)) (q : Q (.bl (if neg = true then !decide (t ∈ ss) else decide (t ∈ ss))) H) : rIn K neg (.str t) (.ref p) H Q := by
  refine ⟨p, _, rfl, .inl h, rfl, ?_, ?_⟩
  · rw [List.all_map]
    exact List.all_eq_true.mpr fun _ _ => rfl
  · have e : inV (.str t) (ss.map V.str) = decide (t ∈ ss) := by
      show (ss.map V.str).any (fun y => eqV y (.str t)) = _
      rw [List.any_map, Bool.eq_iff_iff, List.any_eq_true, decide_eq_true_eq]
      constructor
      · rintro ⟨x, hx, hx2⟩
        have : x = t := eq_of_beq hx2
        exact this ▸ hx
      · intro hx
        exact ⟨t, hx, beq_self_eq_true t⟩
    rw [e]
    exact q
theorem g_strI {H : Hp} {Q : VK} {i : Int} (h : i.natAbs.log2 < 1920) (q : Q (.str (toString i)) H) : rStrI [.int i] H Q := ⟨i, rfl, h, q⟩
theorem g_slS {H : Hp} {Q : VK} {z : Str} {lo hi : Option Int} (h : z.length ≤ sizeLine) (q : Q (.str (cutS z lo hi)) H) : rSlS (.str z) lo hi H Q := ⟨z, rfl, h, q⟩
theorem g_inSF {K : PySem.W.Frag} {H : Hp} {Q : VK} {p : Addr} {ss : List Str} {t : Str} (h : SqL K H p (ss.map V.str)) (q : Q (.bl (decide (t ∈ ss))) H) : rIn K false (.str t) (.ref p) H Q := g_inS h q
theorem g_inST {K : PySem.W.Frag} {H : Hp} {Q : VK} {p : Addr} {ss : List Str} {t : Str} (h : SqL K H p (ss.map V.str)) (q : Q (.bl (!decide (t ∈ ss))) H) : rIn K true (.str t) (.ref p) H Q := g_inS h q
theorem g_runS {D : Ends} {i : Nat} {t : TS} {a : Addr} {σ : L2.St} {H : Hp} (q : t (endsAs D i) (σ.set i (some (.ref a))) H) : runA D (some i) t a σ H := q
section
variable {H : Hp} {Q : VK} {l b : Addr} {xs zs : List V} {i : Int}
theorem g_popN (h : H l = some (.lst xs)) (h0 : 0 ≤ i) (h1 : i < (xs.length : Int)) (hs : xs.length ≤ 100000) (q : ∀ y, Q y (upd H l (.lst (xs.eraseIdx i.toNat)))) : rPopAt (.ref l) [.int i] H Q := by
  have hl : i.toNat < xs.length := by omega
  exact ⟨l, xs, i, i.toNat, xs[i.toNat], rfl, rfl, h, by omega, by omega, by simp [seqIndex?, show ¬ i < 0 by omega, h0, h1], by simp [hl], q _⟩
theorem g_clr (h : H l = some (.lst xs)) (q : Q .non (upd H l (.lst []))) : rClear (.ref l) [] H Q := ⟨l, xs, rfl, rfl, h, q⟩
theorem g_ext (h : H l = some (.lst xs)) (h2 : H b = some (.lst zs)) (hl : xs.length + zs.length ≤ sizeLine) (q : Q .non (upd H l (.lst (xs ++ zs)))) : rExtend (.ref l) [.ref b] H Q := ⟨l, b, xs, zs, rfl, rfl, h, h2, hl, q⟩
end
theorem depthAll_le {n : Nat} : ∀ {xs : List PyData}, (∀ d ∈ xs, d.depth ≤ n) → PyData.depthAll xs ≤ n
  | [], _ => by simp [PyData.depthAll]
  | x :: xs, h => by
    have h1 := h x (by simp)
    have h2 := depthAll_le (xs := xs) fun d hd => h d (by simp [hd])
    simp only [PyData.depthAll]
    omega
theorem depth_tup {n : Nat} {xs : List PyData} (h : ∀ d ∈ xs, d.depth ≤ n) : (PyData.tuple xs).depth ≤ n + 1 := by
  have := depthAll_le h
  simp only [PyData.depth]
  omega
theorem depth_lst {n : Nat} {xs : List PyData} (h : ∀ d ∈ xs, d.depth ≤ n) : (PyData.list xs).depth ≤ n + 1 := by
  have := depthAll_le h
  simp only [PyData.depth]
  omega
theorem shaped_lay {d : PyData} (h : SeqAt.shaped d = true) : d.canLay0 = true := by
  unfold SeqAt.shaped at h
  rw [Bool.and_eq_true] at h
  exact h.1
theorem LstAt.dp {K : PySem.W.Frag} {p : Addr} {G H : Hp} {L : List PyData} (r : LstAt K p G H L) (e : Y.Ex G H) : Dp K H (.ref p) (.list L) := by
  obtain ⟨vs, h, _, d⟩ := r
  exact .lst (.of h) (dpAll_mono e d)
/-- what is compared with itself -/
theorem g_neSame {K : PySem.W.Frag} {H : Hp} {x y : V} {d : PyData} {Q : VK} (h1 : Dp K H x d) (h2 : Dp K H y d) (s : SeqAt.shaped d = true) (q : Q (.bl false) H) : rNeD K x y H Q :=
  ⟨d, d, h1, h2, s, s, by rw [SeqAt.eqv_refl _ (shaped_lay s)]; exact q⟩
theorem g_neL {K : PySem.W.Frag} {G H : Hp} {a b : Addr} {L : List PyData} {Q : VK} (e : Y.Ex G H) (h1 : LstAt K a G H L) (h2 : LstAt K b G H L) (s : SeqAt.shaped (.list L) = true) (q : Q (.bl false) H) : rNeD K (.ref a) (.ref b) H Q :=
  g_neSame (h1.dp e) (h2.dp e) s q
/-- a loop over a range, all told by the invariant -/
theorem g_forR {g : TG} {tb : TS} {D : Ends} {σ : L2.St} {H : Hp} {n : Nat} (Pv : Nat → L2.St → Hp → Prop) (h0 : Pv 0 σ H)
    (hs : ∀ i σ' H', i < n → Pv i σ' H' → g (.int (i : Int)) σ' H' fun σ2 H2 => tb { D with nx := Pv (i + 1), ct := Pv (i + 1), bk := D.nx } σ2 H2) (hd : ∀ σ' H', Pv n σ' H' → D.nx σ' H') : ForW (Itr 0 n) g tb D σ H := by
  refine ⟨fun i m σ' H' => m = n - i ∧ i ≤ n ∧ Pv i σ' H', ⟨n, by simp, Nat.zero_le _, h0⟩, ?_⟩
  rintro i m σ' H' ⟨rfl, hi, p⟩
  by_cases hlt : i < n
  · refine .inr ⟨hlt, Pv (i + 1), fun σ3 H3 p3 => ⟨n - (i + 1), by omega, rfl, hlt, p3⟩, fun v H1 y => ?_⟩
    obtain ⟨rfl, rfl⟩ := y
    rw [Int.zero_add]
    exact hs i σ' _ hlt p
  · have e' : i = n := by omega
    subst e'
    exact .inl ⟨Nat.le_refl _, hd σ' H' p⟩
theorem nodup_le {α : Type} [DecidableEq α] : ∀ {xs ys : List α}, xs.Nodup → (∀ x ∈ xs, x ∈ ys) → xs.length ≤ ys.length
  | [], _, _, _ => Nat.zero_le _
  | x :: xs, ys, hn, hm => by
    rw [List.nodup_cons] at hn
    have hx : x ∈ ys := hm x (by simp)
    have ih := nodup_le (xs := xs) (ys := ys.erase x) hn.2 fun y hy => by
      have hne : y ≠ x := fun z => hn.1 (z ▸ hy)
      exact (List.mem_erase_of_ne hne).mpr (hm y (by simp [hy]))
    rw [List.length_erase_of_mem hx] at ih
    have : 0 < ys.length := List.length_pos_of_mem hx
    simp only [List.length_cons]
    omega
end Y

namespace Y
open PySem PySem.Spec PyProof.Rows L2
/-! ### texts as lists of signs -/
theorem str_ext {a b : Str} (h : a.cps.toList = b.cps.toList) : a = b := by
  cases a with
  | mk x => cases b with
    | mk y =>
      have : x = y := Array.toList_inj.mp h
      rw [this]
theorem lst_app (a b : Str) : (a ++ b).cps.toList = a.cps.toList ++ b.cps.toList := by
  show (a.cps ++ b.cps).toList = _
  simp
def glue (c : Nat) : List (List Nat) → List Nat
  | [] => []
  | [x] => x
  | x :: y :: r => x ++ c :: glue c (y :: r)
theorem join_lst (c : Nat) : ∀ ws : List Str, (Str.join ⟨#[c]⟩ ws).cps.toList = glue c (ws.map (·.cps.toList))
  | [] => rfl
  | [x] => rfl
  | x :: y :: r => by
    show (x ++ ⟨#[c]⟩ ++ Str.join ⟨#[c]⟩ (y :: r)).cps.toList = _
    rw [lst_app, lst_app, join_lst c (y :: r)]
    show (x.cps.toList ++ [c]) ++ _ = x.cps.toList ++ c :: _
    rw [List.append_assoc]
    rfl
theorem cut_inj {c : Nat} : ∀ {x y a b : List Nat}, c ∉ x → c ∉ y → x ++ c :: a = y ++ c :: b → x = y ∧ a = b
  | [], [], a, b, _, _, h => by
    simp only [List.nil_append, List.cons.injEq] at h
    exact ⟨rfl, h.2⟩
  | [], z :: y, a, b, _, h2, h => by
    simp only [List.nil_append, List.cons_append, List.cons.injEq] at h
    exact absurd (by rw [← h.1]; simp : c ∈ z :: y) h2
  | z :: x, [], a, b, h1, _, h => by
    simp only [List.nil_append, List.cons_append, List.cons.injEq] at h
    exact absurd (by rw [h.1]; simp : c ∈ z :: x) h1
  | z :: x, w :: y, a, b, h1, h2, h => by
    simp only [List.cons_append, List.cons.injEq] at h
    obtain ⟨e1, e2⟩ := cut_inj (fun m => h1 (by simp [m])) (fun m => h2 (by simp [m])) h.2
    exact ⟨by rw [h.1, e1], e2⟩
theorem glue_inj {c : Nat} : ∀ {A B : List (List Nat)}, A ≠ [] → B ≠ [] → (∀ p ∈ A, c ∉ p) → (∀ p ∈ B, c ∉ p) → glue c A = glue c B → A = B
  | [], _, h, _, _, _, _ => absurd rfl h
  | _ :: _, [], _, h, _, _, _ => absurd rfl h
  | [x], [y], _, _, _, _, h => by rw [show x = y from h]
  | [x], y :: z :: r, _, _, h1, _, h => by
    have : c ∈ x := by
      rw [show x = y ++ c :: glue c (z :: r) from h]
      simp
    exact absurd this (h1 x (by simp))
  | x :: y :: r, [z], _, _, _, h2, h => by
    have : c ∈ z := by
      rw [show z = x ++ c :: glue c (y :: r) from h.symm]
      simp
    exact absurd this (h2 z (by simp))
  | x :: y :: r, z :: w :: t, _, _, h1, h2, h => by
    obtain ⟨e1, e2⟩ := cut_inj (h1 x (by simp)) (h2 z (by simp)) (show x ++ c :: glue c (y :: r) = z ++ c :: glue c (w :: t) from h)
    rw [e1, glue_inj (by simp) (by simp) (fun p hp => h1 p (by simp at hp ⊢; exact .inr hp)) (fun p hp => h2 p (by simp at hp ⊢; exact .inr hp)) e2]
theorem map_cps_inj : ∀ {A B : List Str}, A.map (·.cps.toList) = B.map (·.cps.toList) → A = B
  | [], [], _ => rfl
  | [], _ :: _, h => by simp at h
  | _ :: _, [], h => by simp at h
  | a :: A, b :: B, h => by
    simp only [List.map_cons, List.cons.injEq] at h
    rw [str_ext h.1, map_cps_inj h.2]
theorem split_join (c : Nat) {ws : List Str} (h0 : ws ≠ []) (h : ∀ w ∈ ws, c ∉ w.cps.toList) : Txt.split (Str.join ⟨#[c]⟩ ws) ⟨#[c]⟩ = ws := by
  have hp := split_pos (Str.join ⟨#[c]⟩ ws) ⟨#[c]⟩
  refine map_cps_inj (glue_inj (c := c) (fun z => ?_) (fun z => h0 (List.map_eq_nil_iff.mp z)) (fun p hp => ?_) (fun p hp => ?_) ?_)
  · rw [List.map_eq_nil_iff] at z
    rw [z] at hp
    simp at hp
  · obtain ⟨q, hq, rfl⟩ := List.mem_map.mp hp
    exact StrLaws.split_free _ c q hq
  · obtain ⟨q, hq, rfl⟩ := List.mem_map.mp hp
    exact h q hq
  · rw [← join_lst, ← join_lst, StrLaws.join_split]
theorem join_eq (a : Str) (ys : List Str) : Txt.join a ys = Str.join a ys := StrLaws.glued_eq_join a ys
theorem emp_lst : Str.empty.cps.toList = [] := rfl
/-- each line with its end: joined, with one empty text behind -/
theorem ends_join (c : Nat) : ∀ ws : List Str, Str.join Str.empty (ws.map fun w => w ++ ⟨#[c]⟩) = Str.join ⟨#[c]⟩ (ws ++ [Str.empty])
  | [] => rfl
  | [x] => str_ext (by
    show (x ++ ⟨#[c]⟩).cps.toList = (x ++ ⟨#[c]⟩ ++ Str.empty).cps.toList
    simp only [lst_app, emp_lst, List.append_nil])
  | x :: y :: r => str_ext (by
    have ih := congrArg (fun s : Str => s.cps.toList) (ends_join c (y :: r))
    show (x ++ ⟨#[c]⟩ ++ Str.empty ++ Str.join Str.empty ((y :: r).map fun w => w ++ ⟨#[c]⟩)).cps.toList = (x ++ ⟨#[c]⟩ ++ Str.join ⟨#[c]⟩ ((y :: r) ++ [Str.empty])).cps.toList
    simp only [lst_app, emp_lst, List.append_nil] at ih ⊢
    rw [ih])
/-! ### numbers -/
def dig (c : Nat) : Bool := decide (48 ≤ c ∧ c ≤ 57)
def digs : List Nat → Bool
  | [] => false
  | c :: r => decide (r.length ≤ 8) && decide (c ≠ 48) && (c :: r).all dig
def numOk (w : Str) : Bool := match w.cps.toList with
  | [48] => true
  | 45 :: r => digs r
  | r => digs r
theorem digs_inv {r : List Nat} (h : digs r = true) : r ≠ [] ∧ r.length ≤ 9 ∧ r.all dig = true := by
  cases r with
  | nil => cases h
  | cons c r =>
    simp only [digs, Bool.and_eq_true, decide_eq_true_eq] at h
    exact ⟨by simp, by simp; omega, h.2⟩
theorem dig_dig {c : Nat} (h : dig c = true) : 48 ≤ c ∧ c ≤ 57 := by simpa [dig] using h
open PySem.NumText in
theorem fold_digs : ∀ (r : List Nat) (p : Array Nat × Bool), r.all dig = true → ∃ q : Array Nat × Bool, r.foldlM (NumText.step 10) p = some q ∧ (r ≠ [] → q.2 = true)
  | [], p, _ => ⟨p, rfl, fun h => absurd rfl h⟩
  | c :: r, p, h => by
    simp only [List.all_cons, Bool.and_eq_true] at h
    have hc := dig_dig h.1
    have e : NumText.step 10 p c = some (p.1.push (c - 48), true) := by
      have h1 : (c == 95) = false := by simp; omega
      have h2 : digit? c = some (c - 48) := by
        unfold digit?
        rw [if_pos (by simp; omega)]
      unfold NumText.step
      rw [h1, h2]
      have h3 : c - 48 < 10 := by omega
      simp [h3]
    obtain ⟨q, hq, hq2⟩ := fold_digs r (p.1.push (c - 48), true) h.2
    refine ⟨q, ?_, fun _ => ?_⟩
    · rw [List.foldlM_cons, e]
      exact hq
    · cases r with
      | nil =>
        have : some (p.1.push (c - 48), true) = some q := hq
        cases this
        rfl
      | cons d r => exact hq2 (by simp)
open PySem.NumText in
theorem digits_ok {r : List Nat} (h0 : r ≠ []) (h : r.all dig = true) : ∃ ds, digits? 10 r = some ds := by
  obtain ⟨q, hq, hq2⟩ := fold_digs r (#[], false) h
  refine ⟨q.1, ?_⟩
  unfold digits?
  rw [hq]
  show (if q.2 = true then some q.1 else none) = _
  rw [if_pos (hq2 h0)]
theorem blank_dig {c : Nat} (h : dig c = true) : NumText.blank c = false := by
  have := dig_dig h
  simp [NumText.blank]
  omega
theorem dropW_none {p : Nat → Bool} {l : List Nat} (h : ∀ c, l.head? = some c → p c = false) : l.dropWhile p = l := by
  cases l with
  | nil => rfl
  | cons c r => rw [List.dropWhile_cons, if_neg (by rw [h c rfl]; simp)]
open PySem.NumText in
theorem int_of {l r : List Nat} {b : Bool} {w : Str} (hl : w.cps.toList = l) (hlt : ∀ c ∈ l, 0 < c ∧ c < 128) (hb : ∀ c, l.head? = some c → blank c = false) (hs : sign l = (b, r)) (h0 : r ≠ []) (hr : r.all dig = true) (h9 : r.length ≤ 4300) : ∃ n, intText? w = some n := by
  have e1 : numTextOf w = l := by
    unfold numTextOf
    have : w.cps.all (· < 128) = true := by
      rw [← Array.all_toList, hl]
      exact List.all_eq_true.mpr fun c hc => decide_eq_true (hlt c hc).2
    rw [if_pos this, hl]
  have e2 : numSeenOf w = l := by
    unfold numSeenOf
    rw [e1]
    have : ∀ l : List Nat, (∀ c ∈ l, 0 < c) → l.takeWhile (· != 0) = l := by
      intro l
      induction l with
      | nil => intro _; rfl
      | cons c r ih =>
        intro h
        rw [List.takeWhile_cons, if_pos (by have := h c (by simp); simp; omega), ih fun x hx => h x (by simp [hx])]
    exact this l fun c hc => (hlt c hc).1
  have e3 : l.dropWhile blank = l := dropW_none hb
  have e4 : core l = r := by
    unfold core
    rw [e3, hs]
    show (r.reverse.dropWhile blank).reverse = r
    rw [dropW_none fun c hc => blank_dig (List.all_eq_true.mp hr c (List.mem_reverse.mp (List.mem_of_mem_head? hc))), List.reverse_reverse]
  obtain ⟨ds, hds⟩ := digits_ok h0 hr
  have hsz := digits_size hds
  unfold intText?
  rw [e1, e2, if_pos (beq_self_eq_true _), e4, hds]
  exact ⟨_, if_pos (by omega)⟩
theorem int_ok {w : Str} (h : numOk w = true) : ∃ n, intText? w = some n := by
  unfold numOk at h
  have pos : ∀ {r : List Nat}, r.all dig = true → ∀ c ∈ r, 0 < c ∧ c < 128 := fun hr c hc => by
    have := dig_dig (List.all_eq_true.mp hr c hc)
    omega
  split at h
  · rename_i e
    exact int_of (b := false) (r := [48]) e (by simp) (by intro c hc; cases hc; decide) rfl (by simp) (by decide) (by simp)
  · rename_i r e
    obtain ⟨h0, h9, hr⟩ := digs_inv h
    refine int_of (b := true) (r := r) e (fun c hc => ?_) (by intro c hc; cases hc; decide) rfl h0 hr (by omega)
    rcases List.mem_cons.mp hc with rfl | hc
    · omega
    · exact pos hr c hc
  · rename_i h48 h45
    obtain ⟨h0, h9, hr⟩ := digs_inv h
    refine int_of (b := false) (l := w.cps.toList) (r := w.cps.toList) rfl (pos hr) (fun c hc => blank_dig (List.all_eq_true.mp hr c (List.mem_of_mem_head? hc))) ?_ h0 hr (by omega)
    unfold NumText.sign
    split
    · rename_i r e
      rw [e] at hr
      simp [dig] at hr
    · rename_i r e
      rw [e] at hr
      simp [dig] at hr
    · rfl
def numV (w : Str) : Int := (intText? w).getD 0
theorem num_v {w : Str} (h : numOk w = true) : intText? w = some (numV w) := by
  obtain ⟨n, hn⟩ := int_ok h
  unfold numV
  rw [hn]
  rfl
/-! ### a list of parts, all of which are there -/
def allSome (f : PyData → Option PyData) : List PyData → Option (List PyData)
  | [] => some []
  | d :: r => match f d, allSome f r with
    | some a, some b => some (a :: b)
    | _, _ => none
theorem allSome_snoc {f : PyData → Option PyData} {d d' : PyData} (h : f d = some d') : ∀ {ds acc : List PyData}, allSome f ds = some acc → allSome f (ds ++ [d]) = some (acc ++ [d'])
  | [], acc, e => by
    simp only [allSome] at e
    cases e
    simp [allSome, h]
  | x :: r, acc, e => by
    simp only [allSome] at e
    cases hx : f x with
    | none => rw [hx] at e; cases e
    | some a =>
      rw [hx] at e
      cases hr : allSome f r with
      | none => rw [hr] at e; cases e
      | some b =>
        rw [hr] at e
        cases e
        show (match f x, allSome f (r ++ [d]) with | some a, some b => some (a :: b) | _, _ => none) = _
        rw [hx, allSome_snoc h hr]
        rfl
theorem allSome_none {f : PyData → Option PyData} {d : PyData} (h : f d = none) : ∀ {ds : List PyData}, d ∈ ds → allSome f ds = none
  | x :: r, hm => by
    rcases List.mem_cons.mp hm with e | hm
    · subst e; simp [allSome, h]
    · have := allSome_none h hm
      simp only [allSome]
      rw [this]
      cases f x <;> rfl
theorem fit_tuple {ds : List PyData} (h1 : ds.length ≤ 100000) (h : ∀ d ∈ ds, fit d = true) : fit (.tuple ds) = true := by rw [fit, decide_eq_true h1, Bool.true_and]; exact fitAll_iff.mpr h
/-! ### small numbers as texts -/
theorem small_num : ∀ n : Nat, n < 1000 → (numOk (toString (n : Int)) = true ∧ intText? (toString (n : Int)) = some (n : Int) ∧ Str.length (toString (n : Int)) ≤ 4) ∧ (n ≠ 0 → numOk (toString (-(n : Int))) = true ∧ intText? (toString (-(n : Int))) = some (-(n : Int)) ∧ Str.length (toString (-(n : Int))) ≤ 4) := by decide +kernel
theorem small_int {i : Int} (h : -999 ≤ i ∧ i ≤ 999) : numOk (toString i) = true ∧ intText? (toString i) = some i ∧ Str.length (toString i) ≤ 4 := by
  by_cases h0 : 0 ≤ i
  · have := (small_num i.toNat (by omega)).1
    rw [show ((i.toNat : Nat) : Int) = i by omega] at this
    exact this
  · have := (small_num (-i).toNat (by omega)).2 (by omega)
    rw [show -(((-i).toNat : Nat) : Int) = i by omega] at this
    exact this
theorem small_log {i : Int} (h : -999 ≤ i ∧ i ≤ 999) : i.natAbs.log2 < 1920 := Nat.lt_of_le_of_lt (Nat.log2_le_self _) (by omega)
theorem sum_le {n : Nat} : ∀ {xs : List Nat}, (∀ x ∈ xs, x ≤ n) → xs.sum ≤ n * xs.length
  | [], _ => Nat.zero_le _
  | x :: r, h => by
    have h1 := h x (by simp)
    have h2 := sum_le (xs := r) fun y hy => h y (by simp [hy])
    simp only [List.sum_cons, List.length_cons, Nat.mul_succ]
    omega
/-- a sign of a number -/
def numCh (c : Nat) : Bool := decide (c = 45) || dig c
theorem small_chr0 : ∀ n : Nat, n < 1000 → ((toString (n : Int) : Str).cps.toList.all numCh = true ∧ (toString (n : Int) : Str).cps.toList ≠ []) ∧ ((toString (-(n : Int)) : Str).cps.toList.all numCh = true ∧ (toString (-(n : Int)) : Str).cps.toList ≠ []) := by decide +kernel
theorem small_chr {i : Int} (h : -999 ≤ i ∧ i ≤ 999) : (toString i : Str).cps.toList.all numCh = true ∧ (toString i : Str).cps.toList ≠ [] := by
  by_cases h0 : 0 ≤ i
  · have := (small_chr0 i.toNat (by omega)).1
    rw [show ((i.toNat : Nat) : Int) = i by omega] at this
    exact this
  · have := (small_chr0 (-i).toNat (by omega)).2
    rw [show -(((-i).toNat : Nat) : Int) = i by omega] at this
    exact this
theorem numCh_ne {c : Nat} (h : numCh c = true) : c ≠ 10 ∧ c ≠ 32 ∧ c < 128 ∧ c ≠ 101 := by
  unfold numCh at h
  rcases (Bool.or_eq_true _ _).mp h with h | h
  · have := of_decide_eq_true h
    omega
  · have := dig_dig h
    omega
end Y

namespace Y
open PySem PySem.Spec PyProof.Rows L2
section
variable {P : Program} {w : World} {K : PySem.W.Frag} {mg : Str → Option Value} {base : Heap} {k : Nat} {f : Addr} {fd : FuncData} {ps : List Str} {sp : Sp}
/-- what is let out with an empty context is let out -/
theorem okN (F : FnOk P w K mg base (L2N.CX P w) k f fd ps sp) : FnOk P w K mg base (L2.CX P w) k f fd ps sp := by
  refine ⟨F.len, fun A outer s H args us vs Q E hr he hb hv hs => codeAny_mono (F.run A outer s H args us vs Q E hr he hb hv hs) fun r s' h => ?_⟩
  cases r with
  | ok fl => cases fl <;> exact h
  | error e =>
    obtain ⟨a, B, H', cls, d, e1, fl, more⟩ := h
    exact ⟨a, B, H', cls, d, e1, L2H.flyingZ_imp (fun o z => z.zc) fl, more⟩
end
section
variable {X : Cx} {es : List Expr} {ta : TA}
theorem passN {E : XK} (t : L2N.Takes X fun cls d _ H => E cls d H) : Passes (L2N.CX X.prog X.w) X E := fun pins σ H s u s' I c => L2N.passes_call (W := fun cls d _ H => E cls d H) t (fun _ _ _ _ z => z) pins σ H s u s' I c
/-- C(e, ..) made where nothing is handled: its context is empty -/
theorem pmk_oexN {CX : CXT} {x : Str} {e : Expr} {p pos : Pos} {C fI : Addr} {k : Nat} {fd : FuncData} {ps : List Str} {sp : Sp} (T : OexC X.K C) (iC : PySem.W.findIn X.K (.ref C) "__init__" = some (some (.ref fI))) (tI : PySem.W.typeIn X.K (.ref fI) = some (.type "function"))
    (F1 : FnOk X.prog X.w X.K X.mg X.base CX k fI fd ps sp) (hr : Room (k + 1) X.A) (bnd : Binds X.K fd ps []) (hx : Passes CX X (fun _ _ _ => False)) (hg : Gl X x) (hm : X.mg x = some (.ref C)) (ha : PA X (e :: es) ta)
    (hdb : (x == ("__debug__" : Str)) = false := by decide) (hst : starEach (e :: es) X.env = (false, eval e X.env) :: starEach es X.env := by rfl) (hpl : (backTo pos (starEach es X.env)).any (·.1) = false := by rfl) :
    L2N.PMk X (.Call (.Name x p) (e :: es) [] pos) (tMkO C sp [] ta) := by
  intro pins s σ H Q I q0
  obtain ⟨nm, qq, N, bs, bm, sn, sub, ab, col, dd, k0, k1, k2, k3, k5, hC, hbm⟩ := T.cls
  refine wpAny_Call_Name_kw (ld_glob I hg hm ?_ hdb)
  refine PySem.W.callWith_K (h₀ := X.base) I.ok.mod.kin T.kC (thn (ha.run pos pins s σ H _ I q0) fun us s1 ⟨vs, H1, J, r1, hz, q1⟩ => ⟨J.kIn, ?_⟩) hst hpl
  show wpAny _ _ (call (.ref C) us) _ _ _
  obtain ⟨hp, g, dr, tk, os⟩ := s1
  -- the new instance stands behind the tuple of its arguments
  obtain ⟨D, hD⟩ : ∃ D, D = hp.objs.size := ⟨_, rfl⟩
  obtain ⟨hp2, hhp2⟩ : ∃ h : Heap, h = (hp.push (PySem.W.kdv_tup us)).push (PySem.HandSPX.excO C hp.objs.size) := ⟨_, rfl⟩
  have le1 : hp.objs.size ≤ D + 1 := by omega
  have fr1 : H1 (D + 1) = none := J.hok.fresh le1
  have qs := q1 (D + 1) fr1
  rw [List.append_nil] at qs
  have old : ∀ b o, hp.get? b = some o → hp2.get? b = some o := fun b o z => by rw [hhp2]; exact Heap.get?_push_of_some _ (Heap.get?_push_of_some _ z)
  have it : hp2.get? (D + 1) = some (PySem.HandSPX.excO C hp.objs.size) := by rw [hhp2, hD]; heap_get
  have J2 : Inv X pins σ (upd H1 (D + 1) (exo (D + 1) C none)) ⟨hp2, g, dr, tk, os⟩ := J.laid (t' := tk) (a := D + 1) (o := exo (D + 1) C none) (h' := hp2) old le1 (exo_ok it)
  have rv : Vals (V.ref (D + 1) :: vs) (Value.ref (D + 1) :: us) := .cons rfl r1
  have ln : (Value.ref (D + 1) :: us ++ []).length = ps.length := by
    rw [List.append_nil, ← rv.length]
    exact F1.len _ _ _ _ qs
  have lu : us.length ≤ sizeLine := by
    have := Paired.length r1
    rw [sizeLine_eq]
    omega
  have bb := bnd _ (Value.ref (D + 1) :: us) J2.kIn ln
  rw [List.append_nil] at bb
  subst hD
  subst hhp2
  refine wpAny_call (PySem.HandSPX.call_own F.excBase_ValueError (fun Y => PySem.HandSPX.refsVE_contains Y bm hbm) (J.kIn _ _ hC) (PySem.W.looks_findIn J.kIn iC) (fun self => PySem.W.bind_fn J.kIn self tI) lu
    (codeAny_mono (F1.run _ X.stack _ _ ⟨Value.ref (hp.objs.size + 1) :: us, []⟩ (Value.ref (hp.objs.size + 1) :: us) _ _ (fun _ _ _ => False) (hr.make C us []) (J2.env0.make C us []) bb rv qs) fun r s' res => ?_))
  cases r with
  | error er => exact hx pins σ _ _ er s' J2 res
  | ok fl =>
    cases fl with
    | ret u =>
      obtain ⟨v, H2, o2, bare2, un2, hok2, rr, ev, d, fs, ea, ed, hd1, q2⟩ := res
      subst ev
      obtain ⟨h2, g2, d2, t2, os'⟩ := s'
      obtain ⟨t0, G, JJ, kG, ge, hoe, na⟩ := mk_end0 (d2 := d2) (t2 := t2) J le1 old un2 hok2 o2 bare2 ea ed hd1
      refine ⟨rr, hp.objs.size + 1, _, _, ⟨G, g2, d2, t2, os'⟩, _, .ref C, some d, rfl, JJ, kG, ge, hoe, ⟨rfl, rfl, fun ws hw => ?_⟩, rfl, rfl, na, rfl, bare2, raises_own T.exC T.tyC, q2⟩
      cases hw
      rfl
    | next => exact False.elim res
    | brk => exact False.elim res
    | cont => exact False.elim res
/-- raise C(e) where nothing is handled -/
theorem ps_raiseIN {C : Addr} {f x : Str} {k : Nat} {E : XK} {e : Expr} {p pos pos' : Pos} (T : ExC X.K C f) (hm : X.mg x = some (.ref C))
    (F : FnOk X.prog X.w X.K X.mg X.base CX0 k (He.ma X.K C "__init__") (fdOf X.K (He.ma X.K C "__init__")) ["self", f] (spXi C f)) (b : Binds X.K (fdOf X.K (He.ma X.K C "__init__")) ["self", f] []) (hr : Room (k + 1) X.A) (hg : Gl X x) (hc : X.calm = true)
    (tk : L2N.Takes X fun cls d _ H => E cls d H) (ha : PA X (e :: es) ta) (hdb : (x == ("__debug__" : Str)) = false := by decide) (he : starEach (e :: es) X.env = (false, eval e X.env) :: starEach es X.env := by rfl) (hpl : (backTo pos (starEach es X.env)).any (·.1) = false := by rfl) :
    PS X (.Raise (some (.Call (.Name x p) (e :: es) [] pos)) none pos') (tRaiseI C f E ta) := by
  have h := L2N.ps_raise (pos := pos') hc tk (pmk_oexN (p := p) (pos := pos) T.oex T.iC T.tI F hr b (pass0 : Passes CX0 X E0) hg hm (pa_up ha) hdb he hpl)
  exact ⟨fun pins s σ H D I q => h.run pins s σ H D I (mk_read q)⟩
/-- raise C(e) from None in an except suite -/
theorem ps_raiseIH {C : Addr} {f x : Str} {k j : Nat} {E : XK} {e : Expr} {p pos pos' cpos : Pos} (T : ExC X.K C f) (hm : X.mg x = some (.ref C))
    (F : L2H.FnH X.prog X.w X.K X.mg X.base CX0 k (He.ma X.K C "__init__") (fdOf X.K (He.ma X.K C "__init__")) ["self", f] (spXi C f)) (b : Binds X.K (fdOf X.K (He.ma X.K C "__init__")) ["self", f] []) (hr : L2H.RoomH (k + 1) X.A) (hg : Gl X x) (hc : L2H.HotC X)
    (tk : L2.Takes X fun cls d _ H => E cls d H) (ha : PA X (e :: es) ta) (hdb : (x == ("__debug__" : Str)) = false := by decide) (he : starEach (e :: es) X.env = (false, eval e X.env) :: starEach es X.env := by rfl) (hpl : (backTo pos (starEach es X.env)).any (·.1) = false := by rfl) :
    PS X (.Raise (some (.Call (.Name x p) (e :: es) [] pos)) (some (.Constant .none j cpos)) pos') (tRaiseI C f E ta) := by
  have h := L2H.ps_raiseHN (j := j) (cpos := cpos) (pos := pos') hc tk (L2H.pmk5_oexH (p := p) (pos := pos) T.oex T.iC T.tI F hr hc b (pass0 : Passes CX0 X E0) hg hm (pa_up ha) hdb he hpl)
  exact ⟨fun pins s σ H D I q => h.run pins s σ H D I (mk_read q)⟩
end
section
variable {P : Program} {w : World} {K : PySem.W.Frag} {mg : Str → Option Value} {base : Heap} {x qual : Str} {params : Arguments} {body : List Stmt} {scope : Scope} {dvs : List V} {kws : List (Str × V)} {f : Addr} {fd : FuncData}
theorem okH {CX : CXT} {N ps : List Str} {k : Nat} {sp : Sp} (F : FunD K x qual params body scope dvs kws f fd) (S : FnScope N ps scope) (len : ∀ vs H Q E, sp vs H Q E → vs.length = ps.length)
    (hbody : ∀ (cdv : Value) (A : Around) (outer : List Env) (s : Shared) (H : Hp) (vs : List V) (Q : VK) (E : XK) (p : Addr × Obj), sp vs H Q E →
      ∃ t, PSs (L2H.cxH CX P w K mg base N qual scope f cdv A outer s H E p) body t ∧ t { nx := fun _ H' => Q .non H', rt := Q } (start N vs) H) : L2H.FnH P w K mg base CX (k + 1) f fd ps sp := by
  obtain ⟨oc, od, dV, kV, doc, pm, an, cdv, ct, osl, rfl, lk, hcd, _, _⟩ := F.ex
  exact L2H.fn_ofH lk hcd S len fun A outer s H vs Q E p _ _ hsp => hbody cdv A outer s H vs Q E p hsp
end
/-! ### texts joined and split, made -/
def rSplit : V → List V → Hp → VK → Prop := fun x xs H Q => ∃ a b : Str, x = .str a ∧ xs = [.str b] ∧ (b.length == 0) = false ∧ a.length + 2 ≤ sizeLine ∧ rNewStrs (Txt.split a b) H Q
def rRmp : V → List V → Hp → VK → Prop := fun x xs H Q => ∃ a b : Str, x = .str a ∧ xs = [.str b] ∧ a.length ≤ sizeLine ∧ Q (.str (Txt.removeprefix a b)) H
def rStrS : List V → Hp → VK → Prop := fun xs H Q => ∃ a : Str, xs = [.str a] ∧ Q (.str a) H
def rStrA : List V → Hp → VK → Prop := fun xs H Q => rStrI xs H Q ∨ rStrS xs H Q
def rIntS : List V → Hp → VK → Prop := fun xs H Q => ∃ (a : Str) (n : Int), xs = [.str a] ∧ intText? a = some n ∧ a.length ≤ 640 ∧ Q (.int n) H
def tFs (ts : List TE) : TE := fun σ H Q => tJs ts Str.empty σ H fun out H1 => Q (.str out) H1
def StarW (K : PySem.W.Frag) (t : TA) (σ : L2.St) (Q : List V → Hp → Prop) (x : V) (H1 : Hp) : Prop := ∃ p xs, x = V.ref p ∧ (SqT K H1 p xs ∨ SqL K H1 p xs) ∧ t σ H1 fun ys H2 => Q (xs ++ ys) H2
section
variable {X : Cx} {K : PySem.W.Frag} {o e : Expr} {es : List Expr} {to te : TE} {t : TA} {apos pos p : Pos}
theorem call_strS : CallR X (.type "str") rStrS := SkE.call_str_str
theorem call_strA : CallR X (.type "str") rStrA := fun pins s σ H xs us Q I r h => h.elim (fun h => call_strI pins s σ H xs us Q I r h) fun h => call_strS pins s σ H xs us Q I r h
theorem call_intS : CallR X (.type "int") rIntS := L2.call_int_str
theorem pe_splitR (ho : PE X o to) (he : PE X e te) (hs : starEach [e] X.env = [(false, eval e X.env)] := by rfl) (hbase : attributeBase o "split" X.env (eval o X.env) = eval o X.env := by rfl) (hline : (apos.endLine == pos.line) = true := by rfl) :
    PE X (.Call (.Attribute o "split" apos) [e] [] pos) (tM1 rSplit to te) := pe_split ho he hs hbase hline
theorem pe_rmpre (ho : PE X o to) (he : PE X e te) (hs : starEach [e] X.env = [(false, eval e X.env)] := by rfl) (hbase : attributeBase o "removeprefix" X.env (eval o X.env) = eval o X.env := by rfl) (hline : (apos.endLine == pos.line) = true := by rfl) :
    PE X (.Call (.Attribute o "removeprefix" apos) [e] [] pos) (tM1 rRmp to te) := pe_m1 F.slot_str_removeprefix F.type_str_removeprefix mt_removeprefix ho he hs hbase hline
theorem pe_fs {v1 v2 : Expr} {rest : List Expr} {ts : List TE} (h : PJ X (v1 :: v2 :: rest) ts) : PE X (.JoinedStr (v1 :: v2 :: rest) pos) (tFs ts) := pe_joined h
theorem pa_starK (h : X.K = K) (he : PE X e te) (hr : PA X es t) (hs : starEach (.Starred e p :: es) X.env = (true, eval e X.env) :: starEach es X.env := by rfl) : PA X (.Starred e p :: es) (StX.tStar K te t) := h ▸ StX.pa_star he hr hs
end
section
variable {K : PySem.W.Frag} {σ : L2.St} {G H : Hp} {Q : VK} {to te : TE} {t : TA} {ts : List TE} {a b acc y : Str} {QA : List V → Hp → Prop} {ds : List PyData} {x : V}
theorem g_m1 {r : V → List V → Hp → VK → Prop} (q : to σ H fun x H1 => (∃ a, x = .str a) ∧ te σ H1 fun y H2 => r x [y] H2 Q) : tM1 r to te σ H Q := q
theorem g_isS {P : Prop} (q : P) : (∃ a', V.str a = .str a') ∧ P := ⟨⟨a, rfl⟩, q⟩
theorem g_fs (q : tJs ts Str.empty σ H fun out H1 => Q (.str out) H1) : tFs ts σ H Q := q
theorem g_js {QS : Str → Hp → Prop} (q : te σ H fun x H1 => ∃ y : Str, x = .str y ∧ (acc ++ y).length ≤ sizeLine ∧ tJs ts (acc ++ y) σ H1 QS) : tJs (te :: ts) acc σ H QS := q
theorem g_js0 {QS : Str → Hp → Prop} (q : QS acc H) : tJs [] acc σ H QS := q
theorem g_jsW {QS : Str → Hp → Prop} (h : (acc ++ y).length ≤ sizeLine) (q : tJs ts (acc ++ y) σ H QS) : ∃ z : Str, V.str y = .str z ∧ (acc ++ z).length ≤ sizeLine ∧ tJs ts (acc ++ z) σ H QS := ⟨y, rfl, h, q⟩
def FmtW (Q : VK) (x : V) (H1 : Hp) : Prop := (∃ y : Str, x = .str y ∧ y.length ≤ sizeLine ∧ Q (.str y) H1) ∨ ∃ i : Int, x = .int i ∧ i.natAbs.log2 < 1920 ∧ Q (.str (toString i)) H1
theorem g_fmt (q : te σ H fun x H1 => FmtW Q x H1) : tFmt te σ H Q := q
theorem g_fmtS (h : y.length ≤ sizeLine) (q : Q (.str y) H) : FmtW Q (.str y) H := .inl ⟨y, rfl, h, q⟩
theorem g_fmtI {i : Int} (h : i.natAbs.log2 < 1920) (q : Q (.str (toString i)) H) : FmtW Q (.int i) H := .inr ⟨i, rfl, h, q⟩
theorem g_star (q : te σ H fun x H1 => StarW K t σ QA x H1) : StX.tStar K te t σ H QA := q
theorem g_starM {p : Addr} {xs : List V} (h : H p = some (.lst xs)) (q : t σ H fun ys H2 => QA (xs ++ ys) H2) : StarW K t σ QA (.ref p) H := ⟨p, xs, rfl, .inr (.of h), q⟩
theorem g_split {c : Nat} (h : a.length ≤ 100000) (e : Ex G H) (q : ∀ p G' H', Nx [] G H G' H' → Dp K G' (.ref p) (.list ((Txt.split a ⟨#[c]⟩).map .str)) → Q (.ref p) H') : rSplit (.str a) [.str ⟨#[c]⟩] H Q :=
  ⟨a, _, rfl, rfl, rfl, by rw [sizeLine_eq]; omega, fun p hp => let ⟨n, d⟩ := nx_lst e (dpAll_str _) hp; q p _ _ n d⟩
theorem g_rmp (h : a.length ≤ sizeLine) (q : Q (.str (Txt.removeprefix a b)) H) : rRmp (.str a) [.str b] H Q := ⟨a, b, rfl, rfl, h, q⟩
theorem g_intS {n : Int} (h : intText? a = some n) (hl : a.length ≤ 640) (q : Q (.int n) H) : rIntS [.str a] H Q := ⟨a, n, rfl, h, hl, q⟩
theorem g_strAI {i : Int} (h : i.natAbs.log2 < 1920) (q : Q (.str (toString i)) H) : rStrA [.int i] H Q := .inl ⟨i, rfl, h, q⟩
theorem g_strAS (q : Q (.str a) H) : rStrA [.str a] H Q := .inr ⟨a, rfl, q⟩
theorem g_joinM {p : Addr} {ys : List Str} (h : H p = some (.lst (ys.map V.str))) (hl : (ys.map (·.length)).sum + ys.length * a.length ≤ 16777216) (q : Q (.str (Str.join a ys)) H) : rJoin K (.str a) [.ref p] H Q :=
  ⟨a, p, ys, rfl, rfl, .inl (.of h), hl, by rw [join_eq]; exact q⟩
end
end Y
namespace Y
open PySem PySem.Spec PyProof.Rows L2
section
variable {K : PySem.W.Frag} {σ : L2.St} {G H : Hp} {Q : VK} {ds es : List PyData} {x v : V} {lo hi : Option Int} {R : L2.St → Hp → Prop} {d1 d2 d3 : PyData} {i j k : Nat}
/-- a part of a known list -/
theorem g_slK (e : Ex G H) (hx : Dp K G x (.list ds)) (hc : ∀ xs : List V, DpAll K G xs ds → DpAll K G (cutV xs lo hi) es) (q : ∀ p G' H', Nx [] G H G' H' → Dp K G' (.ref p) (.list es) → Q (.ref p) H') : rSlL K x lo hi H Q := by
  obtain ⟨a, xs, rfl, ha, da⟩ := dp_lst hx
  exact ⟨a, xs, rfl, e.seqL ha, fun p hp => let ⟨n, d⟩ := nx_lst e (hc xs da) hp; q p _ _ n d⟩
theorem g_unL2 (e : Ex G H) (h : Dp K G v (.list [d1, d2])) (q : ∀ v1 v2, Dp K G v1 d1 → Dp K G v2 d2 → R ((σ.set i (some v1)).set j (some v2)) H) : gLst K 2 (gCons (gName i) (gCons (gName j) gNil)) v σ H R := by
  obtain ⟨a, xs, rfl, hs, hd⟩ := dp_lst h
  cases hd with
  | cons h1 t => cases t with
    | cons h2 t => cases t; exact ⟨a, _, rfl, e.seqL hs, rfl, _, _, rfl, _, _, rfl, rfl, q _ _ h1 h2⟩
theorem g_unLM3 {p : Addr} {xs : List V} (h : H p = some (.lst xs)) (hd : DpAll K G xs [d1, d2, d3]) (q : ∀ v1 v2 v3, Dp K G v1 d1 → Dp K G v2 d2 → Dp K G v3 d3 → R (((σ.set i (some v1)).set j (some v2)).set k (some v3)) H) : gLst K 3 (gCons (gName i) (gCons (gName j) (gCons (gName k) gNil))) (.ref p) σ H R := by
  cases hd with
  | cons h1 t => cases t with
    | cons h2 t => cases t with
      | cons h3 t => cases t; exact ⟨p, _, rfl, .of h, rfl, _, _, rfl, _, _, rfl, _, _, rfl, rfl, q _ _ _ h1 h2 h3⟩
end
end Y
namespace Y
open PySem PySem.Spec PyProof.Rows L2
def vwOf (n : Str) (rs : List PyData) : PyData := .tuple [.str n, .tuple rs]
theorem g_cont {D : Ends} {σ : L2.St} {H : Hp} (q : D.ct σ H) : tCont D σ H := q
theorem g_brk {D : Ends} {σ : L2.St} {H : Hp} (q : D.bk σ H) : tBreak D σ H := q
end Y

namespace Y
open PySem PySem.Spec PyProof.Rows L2
/-! ### tables -/
section
variable {κ α : Type} [DecidableEq κ]
def gtM (m : List (κ × α)) (k : κ) : Option α := (m.find? fun p => decide (p.1 = k)).map (·.2)
def ptM (m : List (κ × α)) (k : κ) (a : α) : List (κ × α) :=
  if (m.any fun p => decide (p.1 = k)) = true then m.map (fun p => if p.1 = k then (p.1, a) else p) else m ++ [(k, a)]
theorem gtM_cons {p : κ × α} {m : List (κ × α)} {k : κ} : gtM (p :: m) k = if p.1 = k then some p.2 else gtM m k := by
  unfold gtM
  rw [List.find?_cons]
  by_cases h : p.1 = k
  · simp [h]
  · simp [h]
theorem gtM_none {m : List (κ × α)} {k : κ} : gtM m k = none ↔ k ∉ m.map (·.1) := by
  induction m with
  | nil => simp [gtM]
  | cons p m ih =>
    rw [gtM_cons]
    by_cases h : p.1 = k
    · simp [h]
    · rw [if_neg h, ih, List.map_cons, List.mem_cons]
      exact ⟨fun a b => b.elim (fun z => h z.symm) a, fun a b => a (.inr b)⟩
theorem gtM_any {m : List (κ × α)} {k : κ} : (m.any fun p => decide (p.1 = k)) = (gtM m k).isSome := by
  induction m with
  | nil => rfl
  | cons p m ih =>
    rw [gtM_cons, List.any_cons, ih]
    by_cases h : p.1 = k <;> simp [h]
theorem gtM_map {m : List (κ × α)} {k k' : κ} {a : α} : gtM (m.map fun p => if p.1 = k then (p.1, a) else p) k' = if k = k' then (if (gtM m k).isSome then some a else none) else gtM m k' := by
  induction m with
  | nil => simp [gtM]
  | cons p m ih =>
    rw [List.map_cons, gtM_cons, ih, gtM_cons, gtM_cons]
    by_cases h1 : p.1 = k
    · subst h1
      by_cases h2 : p.1 = k' <;> simp [h2]
    · simp only [h1, if_false]
      by_cases h2 : k = k'
      · subst h2
        simp [h1]
      · simp [h2]
theorem gtM_app {m m' : List (κ × α)} {k : κ} : gtM (m ++ m') k = (gtM m k).or (gtM m' k) := by
  induction m with
  | nil => simp [gtM]
  | cons p m ih =>
    rw [List.cons_append, gtM_cons, gtM_cons, ih]
    by_cases h : p.1 = k <;> simp [h]
theorem gtM_ptM {m : List (κ × α)} {k k' : κ} {a : α} : gtM (ptM m k a) k' = if k = k' then some a else gtM m k' := by
  unfold ptM
  rw [gtM_any]
  by_cases h : (gtM m k).isSome = true
  · rw [if_pos h, gtM_map, if_pos h]
  · rw [if_neg h, gtM_app, gtM_cons]
    have h' : gtM m k = none := by simpa using h
    by_cases h2 : k = k'
    · subst h2
      simp [h']
    · simp [h2, gtM]
theorem keys_map {m : List (κ × α)} {k : κ} {a : α} : (m.map fun p => if p.1 = k then (p.1, a) else p).map (·.1) = m.map (·.1) := by
  rw [List.map_map]
  refine List.map_congr_left fun p _ => ?_
  show (if p.1 = k then (p.1, a) else p).1 = p.1
  split <;> rfl
theorem keys_ptM {m : List (κ × α)} {k : κ} {a : α} : (ptM m k a).map (·.1) = if k ∈ m.map (·.1) then m.map (·.1) else m.map (·.1) ++ [k] := by
  unfold ptM
  rw [gtM_any]
  by_cases h : k ∈ m.map (·.1)
  · have : (gtM m k).isSome = true := by
      cases e : gtM m k with
      | none => exact absurd h (gtM_none.mp e)
      | some _ => rfl
    rw [if_pos this, if_pos h, keys_map]
  · rw [if_neg (by rw [gtM_none.mpr h]; simp), if_neg h, List.map_append]
    rfl
theorem len_ptM {m : List (κ × α)} {k : κ} {a : α} : (ptM m k a).length ≤ m.length + 1 := by
  unfold ptM
  split <;> simp
theorem ptM_new {m : List (κ × α)} {k : κ} {a : α} (h : k ∉ m.map (·.1)) : ptM m k a = m ++ [(k, a)] := by
  unfold ptM
  rw [gtM_any, gtM_none.mpr h]
  simp
end
section
variable {K : PySem.W.Frag} {G : Hp} {κ : Type} [DecidableEq κ]
theorem gt_rel (k : κ) : ∀ {kvs : List (κ × V)} {md : List (κ × PyData)}, kvs.map (·.1) = md.map (·.1) → DpAll K G (kvs.map (·.2)) (md.map (·.2)) →
    (∀ x, gtM md k = some x → ∃ v, valV kvs k = some v ∧ Dp K G v x) ∧ (gtM md k = none → valV kvs k = none)
  | [], [], _, _ => ⟨(fun _ h => nomatch h), fun _ => rfl⟩
  | [], _ :: _, h, _ => by simp at h
  | _ :: _, [], h, _ => by simp at h
  | (k1, v) :: kvs, (k2, x) :: md, h, hd => by
    simp only [List.map_cons, List.cons.injEq] at h
    obtain ⟨rfl, h2⟩ := h
    cases hd with
    | cons d1 d2 =>
      have ih := gt_rel k h2 d2
      rw [gtM_cons]
      by_cases hk : k1 = k
      · rw [valV_pos (p := (k1, v)) hk]
        simp only [hk, if_true]
        exact ⟨fun y hy => by cases hy; exact ⟨v, rfl, d1⟩, fun z => nomatch z⟩
      · rw [valV_neg (p := (k1, v)) hk]
        simp only [hk, if_false]
        exact ih
theorem dpAll_at {vs : List V} {ds : List PyData} (hl : vs.length = ds.length) (h : ∀ (i : Nat) v d, vs[i]? = some v → ds[i]? = some d → Dp K G v d) : DpAll K G vs ds := by
  induction vs generalizing ds with
  | nil =>
    cases ds with
    | nil => exact .nil
    | cons _ _ => simp at hl
  | cons v vs ih =>
    cases ds with
    | nil => simp at hl
    | cons d ds =>
      exact .cons (h 0 v d rfl rfl) (ih (by simpa using hl) fun i v' d' h1 h2 => h (i + 1) v' d' h1 h2)
theorem pt_map (k : κ) {v : V} {x : PyData} (dv : Dp K G v x) : ∀ {kvs : List (κ × V)} {md : List (κ × PyData)}, kvs.map (·.1) = md.map (·.1) → DpAll K G (kvs.map (·.2)) (md.map (·.2)) →
    DpAll K G ((kvs.map fun p => if p.1 = k then (p.1, v) else p).map (·.2)) ((md.map fun p => if p.1 = k then (p.1, x) else p).map (·.2))
  | [], [], _, _ => .nil
  | [], _ :: _, h, _ => by simp at h
  | _ :: _, [], h, _ => by simp at h
  | (k1, u) :: kvs, (k2, y) :: md, h, hd => by
    simp only [List.map_cons, List.cons.injEq] at h
    obtain ⟨rfl, h2⟩ := h
    cases hd with
    | cons d1 d2 =>
      have ih := pt_map k dv h2 d2
      rw [List.map_cons, List.map_cons, List.map_cons, List.map_cons]
      refine .cons ?_ ih
      by_cases hk : k1 = k
      · simp only [hk, if_true]; exact dv
      · simp only [hk, if_false]; exact d1
theorem pt_rel (k : κ) {v : V} {x : PyData} (dv : Dp K G v x) {kvs : List (κ × V)} {md : List (κ × PyData)} (h : kvs.map (·.1) = md.map (·.1)) (hd : DpAll K G (kvs.map (·.2)) (md.map (·.2))) :
    (putK kvs k v).map (·.1) = (ptM md k x).map (·.1) ∧ DpAll K G ((putK kvs k v).map (·.2)) ((ptM md k x).map (·.2)) := by
  have e : putK kvs k v = ptM kvs k v := rfl
  refine ⟨by rw [e, keys_ptM, keys_ptM, h], ?_⟩
  rw [e]
  unfold ptM
  have ea : (kvs.any fun p => decide (p.1 = k)) = (md.any fun p => decide (p.1 = k)) := by
    have q1 : ∀ {β : Type} (m : List (κ × β)), (m.any fun p => decide (p.1 = k)) = (m.map (·.1)).any fun a => decide (a = k) := fun m => by rw [List.any_map]; rfl
    rw [q1, q1, h]
  rw [ea]
  split
  · exact pt_map k dv h hd
  · rw [List.map_append, List.map_append]
    exact dpAll_snoc hd dv
end
/-- a dict of data that stands, apart from what is known -/
def DctAt (K : PySem.W.Frag) (d : Addr) (G H : Hp) (md : List (Key × PyData)) : Prop := ∃ kvs, H d = some (.dK kvs) ∧ G d = none ∧ kvs.map (·.1) = md.map (·.1) ∧ DpAll K G (kvs.map (·.2)) (md.map (·.2))
section
variable {K : PySem.W.Frag} {d A : Addr} {G H G' H' : Hp} {md : List (Key × PyData)} {M : List Addr} {o : HO} {k : Key} {x y v : V} {dx : PyData} {Q : VK} {R : Hp → Prop}
theorem DctAt.go (r : DctAt K d G H md) (n : Nx M G H G' H') (hd : d ∉ M) : DctAt K d G' H' md := by
  obtain ⟨kvs, h, g, hk, dd⟩ := r
  exact ⟨kvs, n.fr d _ hd h, n.old d g ⟨_, h, fun _ z => nomatch z⟩, hk, dpAll_mono n.gg dd⟩
theorem DctAt.upd (r : DctAt K d G H md) (h : A ≠ d) : DctAt K d G (upd H A o) md := by
  obtain ⟨kvs, h1, g, r⟩ := r
  exact ⟨kvs, by rw [upd_ne h.symm]; exact h1, g, r⟩
theorem DctAt.live (r : DctAt K d G H md) : H d ≠ none := by
  obtain ⟨kvs, h1, _⟩ := r
  rw [h1]; exact fun z => nomatch z
theorem DctAt.len (r : DctAt K d G H md) : ∃ kvs, H d = some (.dK kvs) ∧ kvs.length = md.length := by
  obtain ⟨kvs, h1, _, hk, _⟩ := r
  exact ⟨kvs, h1, by simpa using congrArg List.length hk⟩
theorem g_newD (e : Ex G H) (q : ∀ p H', Nx [] G H G H' → H p = none → DctAt K p G H' [] → Q (.ref p) H') : tDNewK σ H Q := g_new fun p hp => q p _ (Nx.own e hp) hp ⟨[], upd_same, e.free hp, rfl, .nil⟩
theorem g_dcGet (r : DctAt K d G H md) (hk : y = kV k) (hg : gtM md k = some dx) (q : ∀ v, Dp K G v dx → Q v H) : DGeW Q (.ref d) y H := by
  obtain ⟨kvs, h, g, he, dd⟩ := r
  obtain ⟨v, hv, dv⟩ := (gt_rel k he dd).1 dx hg
  exact ⟨d, v, rfl, .inl ⟨kvs, k, .inl h, hk, hv.symm⟩, q v dv⟩
theorem isSome_rel {kvs : List (Key × V)} (he : kvs.map (·.1) = md.map (·.1)) (dd : DpAll K G (kvs.map (·.2)) (md.map (·.2))) : (valV kvs k).isSome = (gtM md k).isSome := by
  have h := gt_rel k he dd
  cases e : gtM md k with
  | none => rw [h.2 e]; rfl
  | some z =>
    obtain ⟨v, hv, _⟩ := h.1 z e
    rw [hv]; rfl
theorem g_dcIn (r : DctAt K d G H md) (hk : y = kV k) (q : Q (.bl (gtM md k).isSome) H) : DInW Q y (.ref d) H := by
  obtain ⟨kvs, h, g, he, dd⟩ := r
  exact ⟨d, _, rfl, .inl ⟨kvs, k, .inl h, hk, rfl⟩, by rw [isSome_rel he dd]; exact q⟩
theorem g_dcNi (r : DctAt K d G H md) (hk : y = kV k) (q : Q (.bl (!(gtM md k).isSome)) H) : DNiW Q y (.ref d) H := by
  obtain ⟨kvs, h, g, he, dd⟩ := r
  exact ⟨d, _, rfl, .inl ⟨kvs, k, .inl h, hk, rfl⟩, by rw [isSome_rel he dd]; exact q⟩
theorem g_dcPut (e : Ex G H) (r : DctAt K d G H md) (hk : y = kV k) (dv : Dp K G v dx) (hl : md.length < 100000) (q : ∀ H', Nx [d] G H G H' → DctAt K d G H' (ptM md k dx) → R H') : DPuW R v (.ref d) y H := by
  obtain ⟨kvs, h, g, he, dd⟩ := r
  have hlen : kvs.length = md.length := by simpa using congrArg List.length he
  obtain ⟨p1, p2⟩ := pt_rel k dv he dd
  exact ⟨d, _, rfl, .inl ⟨kvs, k, h, hk, szl (by omega), rfl⟩, q _ (Nx.set e g (by simp)) ⟨_, upd_same, g, p1, p2⟩⟩
end
/-! ### while, truth, parts of lists that stand -/
section
variable {K : PySem.W.Frag} {σ : L2.St} {G H : Hp} {Q : VK} {D : Ends} {c : TT} {tb : TS} {ta : TE} {QT : Bool → Hp → Prop} {x y : V} {p b : Addr} {ds es L L' : List PyData}
theorem g_while (n : Nat) (Pv : Nat → L2.St → Hp → Prop) (h0 : Pv n σ H)
    (hs : ∀ m σ' H', Pv m σ' H' → c σ' H' fun b H1 => if b = true then ∃ N : L2.St → Hp → Prop, (∀ σ2 H2, N σ2 H2 → ∃ m', m' < m ∧ Pv m' σ2 H2) ∧ tb { D with nx := N, ct := N, bk := D.nx } σ' H1 else D.nx σ' H1) : tWhile c tb D σ H :=
  ⟨Pv, ⟨n, h0⟩, hs⟩
theorem g_whN {n : Nat} {Pv : Nat → L2.St → Hp → Prop} (q : tb { D with nx := fun σ2 H2 => ∃ m, m < n ∧ Pv m σ2 H2, ct := fun σ2 H2 => ∃ m, m < n ∧ Pv m σ2 H2, bk := D.nx } σ H) :
    ∃ N : L2.St → Hp → Prop, (∀ σ2 H2, N σ2 H2 → ∃ m', m' < n ∧ Pv m' σ2 H2) ∧ tb { D with nx := N, ct := N, bk := D.nx } σ H := ⟨_, fun _ _ z => z, q⟩
def tTru (K : PySem.W.Frag) (ta : TE) : TT := fun σ H Q => ta σ H fun x H' => ∃ k, TruV K x H' k ∧ Q k H'
theorem pt_truthK {X : Cx} {a : Expr} (h : X.K = K) (ha : PE X a ta) (he : ∀ whole, isTrue a X.env whole = (do let v ← whole; standAt a.pos; holding [v] (truthy v))) : PT X a (tTru K ta) := h ▸ pt_truth ha he
def TruW (K : PySem.W.Frag) (QT : Bool → Hp → Prop) (x : V) (H' : Hp) : Prop := ∃ k, TruV K x H' k ∧ QT k H'
theorem g_tru (q : ta σ H fun x H' => TruW K QT x H') : tTru K ta σ H QT := q
theorem g_truL {xs : List V} (h : SqL K H p xs) (q : QT (!xs.isEmpty) H) : TruW K QT (.ref p) H := ⟨_, .inl ⟨xs, h, rfl⟩, q⟩
theorem g_slM {lo hi : Option Int} (e : Ex G H) (r : LstAt K b G H L) (hc : ∀ xs : List V, DpAll K G xs L → DpAll K G (cutV xs lo hi) es) (q : ∀ p H', Nx [] G H G H' → H p = none → LstAt K p G H' es → Q (.ref p) H') : rSlL K (.ref b) lo hi H Q := by
  obtain ⟨xs, h, g, d⟩ := r
  exact ⟨b, xs, rfl, .of h, fun p hp => q p _ (Nx.own e hp) hp ⟨_, upd_same, e.free hp, hc xs d⟩⟩
theorem g_slMHi {k : Nat} {i : Int} (e : Ex G H) (r : LstAt K b G H L) (hj : i = (k : Int)) (q : ∀ p H', Nx [] G H G H' → H p = none → LstAt K p G H' (L.take k) → Q (.ref p) H') : rSlL K (.ref b) none (some i) H Q := by
  subst hj
  exact g_slM e r (fun xs d => by rw [cut_hi]; exact dpAll_take k d) q
theorem g_slMLo {k : Nat} {i : Int} (e : Ex G H) (r : LstAt K b G H L) (hj : i = (k : Int)) (q : ∀ p H', Nx [] G H G H' → H p = none → LstAt K p G H' (L.drop k) → Q (.ref p) H') : rSlL K (.ref b) (some i) none H Q := by
  subst hj
  exact g_slM e r (fun xs d => by rw [cut_lo]; exact dpAll_drop k d) q
theorem g_catM (e : Ex G H) (r1 : LstAt K p G H L) (r2 : LstAt K b G H L') (hl : L.length + L'.length ≤ 100000) (q : ∀ r H', Nx [] G H G H' → H r = none → LstAt K r G H' (L ++ L') → Q (.ref r) H') : rCat (.ref p) (.ref b) H Q := by
  obtain ⟨xs, h, g, d⟩ := r1
  obtain ⟨ys, h2, g2, d2⟩ := r2
  refine ⟨p, b, xs, ys, rfl, rfl, h, h2, by rw [dpAll_len d, dpAll_len d2]; exact szle hl, fun r hr => q r _ (Nx.own e hr) hr ⟨_, upd_same, e.free hr, dpAll_app d d2⟩⟩
theorem g_ixLs {i : Int} {k : Nat} {d : PyData} (r : LstAt K p G H L) (hi : L[k]? = some d) (hj : i = (k : Int)) (q : ∀ v, Dp K G v d → Q v H) : rIxL K (.ref p) (.int i) H Q := by
  obtain ⟨xs, h, g, da⟩ := r
  obtain ⟨v, hv, dv⟩ := dpAll_get da hi
  subst hj
  exact ⟨p, xs, _, v, rfl, rfl, .of h, atI_nat hv, q v dv⟩
theorem g_lenLs (r : LstAt K p G H L) (q : Q (.int (L.length : Int)) H) : rLen K [.ref p] H Q := by
  obtain ⟨xs, h, g, da⟩ := r
  exact ⟨p, xs, rfl, .inl (.of h), by rw [dpAll_len da]; exact q⟩
theorem g_appLs (e : Ex G H) (r : LstAt K p G H L) (dy : Dp K G y d) (hl : L.length < 100000) (q : ∀ H', Nx [p] G H G H' → LstAt K p G H' (L ++ [d]) → Q .non H') : rAppend (.ref p) [y] H Q := by
  obtain ⟨xs, h, g, da⟩ := r
  exact ⟨p, xs, y, rfl, rfl, h, by rw [dpAll_len da]; exact szl (by omega), q _ (Nx.set e g (by simp)) ⟨_, upd_same, g, dpAll_snoc da dy⟩⟩
theorem g_tyLs {P : Prop} (r : LstAt K p G H L) (q : P) : tyV K "list" (.ref p) H ∧ P := by
  obtain ⟨xs, h, g, da⟩ := r
  exact g_tyL h q
theorem g_setLs {i : Int} {k : Nat} {R : Hp → Prop} (e : Ex G H) (r : LstAt K p G H L) (dy : Dp K G y d) (hj : i = (k : Int)) (hk : k < L.length) (q : ∀ H', Nx [p] G H G H' → LstAt K p G H' (L.set k d) → R H') : rSetL (.ref p) (.int i) y H R := by
  obtain ⟨xs, h, g, da⟩ := r
  refine g_setM h hj (by rw [dpAll_len da]; exact hk) (q _ (Nx.set e g (by simp)) ⟨_, upd_same, g, ?_⟩)
  refine dpAll_at (by simp [dpAll_len da]) fun j u w hu hw => ?_
  rw [List.getElem?_set] at hu hw
  rw [dpAll_len da] at hu
  by_cases hkj : k = j
  · subst hkj
    rw [if_pos rfl, if_pos hk] at hu hw
    cases hu; cases hw
    exact dy
  · rw [if_neg hkj] at hu hw
    obtain ⟨d', hd', dd⟩ := dpAll_got da hu
    rw [hw] at hd'
    cases hd'
    exact dd
theorem g_walkLs {P : Addr → Prop} (r : LstAt K p G H L) (q : (∀ M, p ∉ M → Src K M (Itl K p) G H L) → P p) : ∃ b, V.ref p = .ref b ∧ (∃ xs, SqL K H b xs) ∧ P b := by
  obtain ⟨xs, h, g, da⟩ := r
  exact g_walkM h da q
theorem g_lstLs {xs : List V} (e : Ex G H) (h : DpAll K G xs L) (hl : L.length ≤ 100000) (q : ∀ p H', Nx [] G H G H' → H p = none → LstAt K p G H' L → Q (.ref p) H') : MkL xs H Q :=
  ⟨by rw [dpAll_len h]; exact szle hl, fun p hp => q p _ (Nx.own e hp) hp ⟨_, upd_same, e.free hp, h⟩⟩
theorem g_inSs {neg : Bool} {ss : List Str} {t : Str} (r : LstAt K p G H (ss.map .str)) (q : Q (.bl (if neg = true then !decide (t ∈ ss) else decide (t ∈ ss))) H) : rIn K neg (.str t) (.ref p) H Q := by
  obtain ⟨xs, h, g, da⟩ := r
  rw [dpAll_str_inv da] at h
  exact g_inS (.of h) q
theorem g_inSsF {ss : List Str} {t : Str} (r : LstAt K p G H (ss.map .str)) (q : Q (.bl (decide (t ∈ ss))) H) : rIn K false (.str t) (.ref p) H Q := g_inSs r q
theorem g_inSsT {ss : List Str} {t : Str} (r : LstAt K p G H (ss.map .str)) (q : Q (.bl (!decide (t ∈ ss))) H) : rIn K true (.str t) (.ref p) H Q := g_inSs r q
theorem g_eqSame {H : Hp} {x y : V} {d : PyData} {Q : VK} (h1 : Dp K H x d) (h2 : Dp K H y d) (s : SeqAt.shaped d = true) (q : Q (.bl true) H) : rEqD K x y H Q :=
  ⟨d, d, h1, h2, s, s, by rw [SeqAt.eqv_refl _ (shaped_lay s)]; exact q⟩
theorem g_eqL {a b : Addr} (e : Ex G H) (h1 : LstAt K a G H L) (h2 : LstAt K b G H L) (s : SeqAt.shaped (.list L) = true) (q : Q (.bl true) H) : rEqD K (.ref a) (.ref b) H Q :=
  g_eqSame (h1.dp e) (h2.dp e) s q
end
/-! ### a comprehension whose items are told as they are -/
theorem g_lcV {K : PySem.W.Frag} {σ : L2.St} {G H : Hp} {Q : VK} {te : TE} {tt : TT} {J : It} {M : List Addr} {ds : List PyData} {A : Addr} {j : Nat} (S : Src K M J G H ds) (e : Ex G H) (hA : H A = none) (hM : ∀ b ∈ M, H b ≠ none) (hz : ds.length < sizeLine) (Jv : Nat → List V → Hp → Hp → Prop)
    (jA : ∀ i acc G' H' o, Jv i acc G' H' → Jv i acc G' (upd H' A o)) (jN : ∀ i acc G' H' G1 H1, Nx [] G' H' G1 H1 → Jv i acc G' H' → Jv i acc G1 H1) (j0 : Jv 0 [] G H)
    (hs : ∀ i d v acc G' H', ds[i]? = some d → Dp K G' v d → Nx M G H G' H' → acc.length ≤ i → Jv i acc G' H' → ∀ (QE : VK) (QN : Hp → Prop),
      (∀ y G4 H4, Nx M G' H' G4 H4 → Jv (i + 1) (acc ++ [y]) G4 H4 → QE y H4) → (∀ G3 H3, Nx M G' H' G3 H3 → Jv (i + 1) acc G3 H3 → QN H3) →
      tt ((wipe σ [j]).set j (some v)) H' fun b H3 => if b = true then te ((wipe σ [j]).set j (some v)) H3 QE else QN H3)
    (hd : ∀ G' H' ys, Jv ds.length ys G' H' → Nx M G H G' H' → G' A = none → H' A = some (.lst ys) → ys.length ≤ ds.length → Q (.ref A) H') : LcW J (gName j) tt te [j] σ A Q H := by
  have st0 : Nx [] G H G (upd H A (.lst [])) := Nx.own e hA
  have hAM : A ∉ M := fun z => hM A z hA
  refine ⟨fun i m H' => m = ds.length - i ∧ i ≤ ds.length ∧ ∃ G' ys, Nx M G H G' H' ∧ G' A = none ∧ H' A = some (.lst ys) ∧ ys.length ≤ i ∧ Jv i ys G' H',
    ⟨ds.length, by simp, Nat.zero_le _, G, [], st0.pure, e.free hA, upd_same, Nat.le_refl _, jA _ _ _ _ _ j0⟩, ?_⟩
  rintro i m H' ⟨rfl, hi, G', ys, n, gA, hys, hl, jv⟩
  by_cases hlt : i < ds.length
  · refine .inr ⟨S.go i G' H' n hlt, fun H'' => ∃ G'' ys, Nx M G H G'' H'' ∧ G'' A = none ∧ H'' A = some (.lst ys) ∧ ys.length ≤ i + 1 ∧ Jv (i + 1) ys G'' H'',
      fun H'' ⟨G'', ys', r⟩ => ⟨ds.length - (i + 1), by omega, rfl, hlt, G'', ys', r⟩, fun v H1 y => ?_⟩
    have hg : ds[i]? = some ds[i] := by simp [hlt]
    obtain ⟨G1, n1, d1⟩ := S.yld i _ G' H' v H1 n hg y
    have n2 : Nx M G H G1 H1 := n.trans n1.pure
    have gA1 : G1 A = none := n1.old A gA ⟨_, hys, fun _ z => nomatch z⟩
    have hys1 : H1 A = some (.lst ys) := n1.fr A _ (by simp) hys
    refine ⟨wipe1, hs i _ v ys G1 H1 hg d1 n2 hl (jN _ _ _ _ _ _ n1 jv) _ _ (fun y G4 H4 n4 jv' => ?_) (fun G3 H3 n3 jv' => ?_)⟩
    · have gA4 : G4 A = none := n4.old A gA1 ⟨_, hys1, fun _ z => nomatch z⟩
      have hys4 : H4 A = some (.lst ys) := n4.fr A _ hAM hys1
      have n5 : Nx M G H G4 H4 := n2.trans n4
      have n6 : Nx [A] G4 H4 G4 (upd H4 A (.lst (ys ++ [y]))) := Nx.set n4.gh gA4 (by simp)
      have n7 : Nx (A :: M) G H G4 (upd H4 A (.lst (ys ++ [y]))) := (n5.mono fun _ z => List.mem_cons_of_mem _ z).trans (n6.mono fun b z => by simp at z; simp [z])
      exact ⟨ys, hys4, by omega, G4, ys ++ [y], n7.drop hA, gA4, upd_same, by simp; omega, jA _ _ _ _ _ jv'⟩
    · exact ⟨G3, ys, n2.trans n3, n3.old A gA1 ⟨_, hys1, fun _ z => nomatch z⟩, n3.fr A _ hAM hys1, by omega, jv'⟩
  · have e' : i = ds.length := by omega
    subst e'
    exact .inl ⟨S.stop _ G' H' n (Nat.le_refl _), hd G' H' ys jv n gA hys hl⟩
end Y
namespace Y
open PySem PySem.Spec PyProof.Rows L2
section
variable {K : PySem.W.Frag} {G H : Hp} {Q : VK} {p : Addr} {ns : List Str} {i : Int} {L : List PyData}
theorem g_ixLsN (r : LstAt K p G H (ns.map .str)) (h0 : 0 ≤ i) (h1 : i < (ns.length : Int)) (q : ∀ s, s ∈ ns → ns[i.toNat]? = some s → Q (.str s) H) : rIxL K (.ref p) (.int i) H Q := by
  have hl : i.toNat < ns.length := by omega
  refine g_ixLs (k := i.toNat) (d := .str ns[i.toNat]) r (by rw [List.getElem?_map, List.getElem?_eq_getElem hl]; rfl) (by omega) fun v dv => ?_
  cases dp_str dv
  exact q _ (List.getElem_mem hl) (by simp [hl])
theorem g_ixLsD (r : LstAt K p G H L) (h0 : 0 ≤ i) (h1 : i < (L.length : Int)) (q : ∀ v d, d ∈ L → L[i.toNat]? = some d → Dp K G v d → Q v H) : rIxL K (.ref p) (.int i) H Q := by
  have hl : i.toNat < L.length := by omega
  exact g_ixLs (k := i.toNat) (d := L[i.toNat]) r (by simp [hl]) (by omega) fun v dv => q v _ (List.getElem_mem hl) (by simp [hl]) dv
end
end Y
namespace Y
open PySem PySem.Spec PyProof.Rows L2
/-- a loop over a list that stands, its items told as they are -/
theorem g_forV {K : PySem.W.Frag} {σ : L2.St} {G H : Hp} {D : Ends} {g : TG} {tb : TS} {M : List Addr} {a : Addr} {xs : List V} (ha : H a = some (.lst xs)) (hM : a ∉ M) (e : Ex G H) (Pv : Nat → L2.St → Hp → Hp → Prop) (h0 : Pv 0 σ G H)
    (hs : ∀ i v σ' G' H', xs[i]? = some v → Nx M G H G' H' → Pv i σ' G' H' →
      g v σ' H' fun σ2 H2 => tb { D with nx := fun σ3 H3 => ∃ G3, Nx M G H G3 H3 ∧ Pv (i + 1) σ3 G3 H3, ct := fun σ3 H3 => ∃ G3, Nx M G H G3 H3 ∧ Pv (i + 1) σ3 G3 H3, bk := D.nx } σ2 H2)
    (hd : ∀ σ' G' H', Nx M G H G' H' → Pv xs.length σ' G' H' → D.nx σ' H') : ForW (Itl K a) g tb D σ H := by
  refine ⟨fun i m σ' H' => m = xs.length - i ∧ i ≤ xs.length ∧ ∃ G', Nx M G H G' H' ∧ Pv i σ' G' H', ⟨xs.length, by simp, Nat.zero_le _, G, Nx.refl e, h0⟩, ?_⟩
  rintro i m σ' H' ⟨rfl, hi, G', n, p⟩
  have hH : H' a = some (.lst xs) := n.fr a _ hM ha
  by_cases hlt : i < xs.length
  · refine .inr ⟨⟨xs, xs[i], .of hH, by simp [hlt]⟩, fun σ3 H3 => ∃ G3, Nx M G H G3 H3 ∧ Pv (i + 1) σ3 G3 H3, fun σ3 H3 ⟨G3, n3, p3⟩ => ⟨xs.length - (i + 1), by omega, rfl, hlt, G3, n3, p3⟩, fun v H1 y => ?_⟩
    obtain ⟨rfl, f⟩ := y
    exact hs i v σ' G' _ (f xs (.of hH)) n p
  · have e' : i = xs.length := by omega
    subst e'
    exact .inl ⟨⟨xs, .of hH, Nat.le_refl _⟩, hd σ' G' H' n p⟩
theorem g_walkV {H : Hp} {K : PySem.W.Frag} {P : Addr → Prop} {a : Addr} {xs : List V} (h : H a = some (.lst xs)) (q : P a) : ∃ b, V.ref a = .ref b ∧ (∃ xs, SqL K H b xs) ∧ P b := ⟨a, rfl, ⟨xs, .of h⟩, q⟩
/-- a known list of texts, just so -/
def KnL (G : Hp) (v : V) (ss : List Str) : Prop := ∃ b, v = .ref b ∧ G b = some (.lst (ss.map V.str))
theorem KnL.ex {G G' : Hp} {v : V} {ss : List Str} (h : KnL G v ss) (e : Ex G G') : KnL G' v ss := by
  obtain ⟨b, rfl, hb⟩ := h
  exact ⟨b, rfl, e _ _ hb⟩
theorem LstAt.knowL {K : PySem.W.Frag} {p : Addr} {G H G0 H0 : Hp} {M : List Addr} {ss : List Str} (r : LstAt K p G H (ss.map .str)) (n : Nx M G0 H0 G H) (h : H0 p = none) : ∃ G', Nx M G0 H0 G' H ∧ Y.Ex G G' ∧ KnL G' (.ref p) ss := by
  obtain ⟨vs, h1, g, d⟩ := r
  rw [dpAll_str_inv d] at h1
  exact ⟨_, n.know h h1 g, Ex.new g, p, rfl, upd_same⟩
theorem g_catK {K : PySem.W.Frag} {G H : Hp} {Q : VK} {p : Addr} {v : V} {ss ts : List Str} (e : Ex G H) (r1 : LstAt K p G H (ss.map .str)) (r2 : KnL G v ts) (hl : ss.length + ts.length ≤ 100000) (q : ∀ r H', Nx [] G H G H' → H r = none → LstAt K r G H' ((ss ++ ts).map .str) → Q (.ref r) H') : rCat (.ref p) v H Q := by
  obtain ⟨xs, h, g, d⟩ := r1
  obtain ⟨b, rfl, h2⟩ := r2
  rw [dpAll_str_inv d] at h
  refine ⟨p, b, _, _, rfl, rfl, h, e _ _ h2, by rw [List.length_map, List.length_map]; exact szle hl, fun r hr => q r _ (Nx.own e hr) hr ⟨_, upd_same, e.free hr, ?_⟩⟩
  rw [← List.map_append]
  exact dpAll_str _
/-- a list of one text, repeated -/
theorem g_repM {K : PySem.W.Frag} {G H : Hp} {Q : VK} {p : Addr} {L : List PyData} {i : Int} (e : Ex G H) (r : LstAt K p G H L) (h0 : 0 ≤ i) (h1 : i < 1000) (hl : L.length ≤ 100) (q : ∀ r H', Nx [] G H G H' → H r = none → LstAt K r G H' (List.replicate i.toNat L).flatten → Q (.ref r) H') : rRep (.ref p) (.int i) H Q := by
  obtain ⟨xs, h, g, d⟩ := r
  have hb : xs.length * i.toNat ≤ 100 * 1000 := Nat.mul_le_mul (by rw [dpAll_len d]; exact hl) (by omega)
  exact ⟨p, i, xs, rfl, rfl, h, by omega, by omega, Nat.le_trans hb (by rw [sizeLine_eq]; decide), fun r hr => q r _ (Nx.own e hr) hr ⟨_, upd_same, e.free hr, dpAll_rep d _⟩⟩
end Y
namespace Y
open PySem PySem.Spec PyProof.Rows L2
def rInsert : V → List V → Hp → VK → Prop := fun x vs H Q => ∃ (l : Addr) (xs : List V) (i : Int) (y : V), x = .ref l ∧ vs = [.int i, y] ∧ H l = some (.lst xs) ∧ xs.length < sizeLine ∧ 0 ≤ i ∧ i < 2 ^ 63 ∧ Q .non (upd H l (.lst (xs.take i.toNat ++ [y] ++ xs.drop i.toNat)))
theorem mt_insert {X : Cx} : MtR X "list.insert" rInsert := L2.mt_insert
section
variable {K : PySem.W.Frag} {G H : Hp} {Q : VK} {p : Addr} {L : List PyData} {y : V} {d : PyData}
theorem g_insLs {k : Nat} {i : Int} (e : Ex G H) (r : LstAt K p G H L) (dy : Dp K G y d) (hl : L.length < 100000) (hj : i = (k : Int)) (hk : k < 1000) (q : ∀ H', Nx [p] G H G H' → LstAt K p G H' (L.take k ++ [d] ++ L.drop k) → Q .non H') : rInsert (.ref p) [.int i, y] H Q := by
  obtain ⟨xs, h, g, da⟩ := r
  subst hj
  refine ⟨p, xs, _, y, rfl, rfl, h, by rw [dpAll_len da]; exact szl (by omega), by omega, by omega, q _ (Nx.set e g (by simp)) ⟨_, upd_same, g, ?_⟩⟩
  rw [show (k : Int).toNat = k by omega]
  exact dpAll_app (dpAll_app (dpAll_take k da) (.cons dy .nil)) (dpAll_drop k da)
theorem cut_m1 (xs : List V) : cutV xs none (some (-1)) = xs.take (xs.length - 1) := by
  unfold cutV
  rw [HT.sIx_none, List.drop_zero, Nat.sub_zero]
  congr 1
  show (if (-1 : Int) < 0 then ((-1 : Int) + (xs.length : Int)).toNat else min (-1 : Int).toNat xs.length) = _
  rw [if_pos (by decide)]
  omega
theorem g_repLs {i : Int} (e : Ex G H) (r : LstAt K p G H L) (h0 : 0 ≤ i) (h1 : i < 1000) (hl : L.length ≤ 100) (q : ∀ r H', Nx [] G H G H' → H r = none → LstAt K r G H' (List.replicate i.toNat L).flatten → Q (.ref r) H') : rRep (.ref p) (.int i) H Q := g_repM e r h0 h1 hl q
end
end Y

namespace Y
open PySem PySem.Spec PyProof.Rows L2
/-! ### d.update(e) -/
def rUpd : V → List V → Hp → VK → Prop := fun x xs H Q => ∃ (d o : Addr) (kvs more : List (Key × V)), x = .ref d ∧ xs = [.ref o] ∧ H d = some (.dK kvs) ∧ H o = some (.dK more) ∧ d ≠ o ∧ kvs.length + more.length ≤ sizeLine ∧ Q .non (upd H d (.dK (mergeK kvs more)))
theorem mt_update {X : Cx} : MtR X "dict.update" rUpd := by
  intro pins s σ H x xs v us Q I rx rxs h
  obtain ⟨d, o, kvs, more, rfl, rfl, hd, ho, hne, hz, q⟩ := h
  cases rx
  cases rxs with
  | cons ru rn =>
    cases rn
    cases ru
    obtain ⟨z, h0, vs, rel, dd⟩ := dk_of I.hok hd
    obtain ⟨z2, h02, vs2, rel2, dd2⟩ := dk_of I.hok ho
    refine call_meetsIn PySem.F.slot_dict_update dd.typeIs PySem.F.entry_dict_update (PySem.F.args_dict_update_2 _ _) (meets_dict_update (mixKind X.prog X.w) d o hne h02) ⟨vs, vs2, dd, dd2, by rw [← rel.length, ← rel2.length]; exact hz, fun h' dd' _ hs => ?_⟩
    have he : ∃ q, h'.get? d = some q := let ⟨q, _, _, hq, _⟩ := dd'; ⟨q, hq⟩
    exact ⟨.non, _, d_write (t' := s.toks) I (by rw [hd]; exact True.intro) hs he (dk_new (Nat.le_trans (length_mergeK more kvs) hz) h0 (KV.merge rel2 rel) dd'), rfl, q⟩
theorem keys_merge {κ : Type} [DecidableEq κ] (k : κ) : ∀ {more kvs : List (κ × V)}, k ∈ ((more.foldl (fun acc kv => putK acc kv.1 kv.2) kvs).map (·.1)) ↔ k ∈ kvs.map (·.1) ∨ k ∈ more.map (·.1)
  | [], kvs => by simp
  | p :: r, kvs => by
    rw [List.foldl_cons, keys_merge k (more := r)]
    have e : (putK kvs p.1 p.2).map (·.1) = if p.1 ∈ kvs.map (·.1) then kvs.map (·.1) else kvs.map (·.1) ++ [p.1] := keys_ptM (m := kvs)
    rw [e, List.map_cons, List.mem_cons]
    split
    · rename_i h
      constructor
      · rintro (h1 | h1)
        · exact .inl h1
        · exact .inr (.inr h1)
      · rintro (h1 | h1 | h1)
        · exact .inl h1
        · exact .inl (h1 ▸ h)
        · exact .inr h1
    · rw [List.mem_append, List.mem_singleton, or_assoc]
/-- a dict whose keys alone are told -/
def KeysAt (d : Addr) (G H : Hp) (n : Nat) (S : Key → Prop) : Prop := ∃ kvs, H d = some (.dK kvs) ∧ G d = none ∧ kvs.length ≤ n ∧ ∀ k, k ∈ kvs.map (·.1) ↔ S k
section
variable {K : PySem.W.Frag} {G H G' H' : Hp} {Q : VK} {d o : Addr} {n m : Nat} {S S' : Key → Prop} {M : List Addr} {md : List (Key × PyData)} {k : Key} {y : V}
theorem KeysAt.go (r : KeysAt d G H n S) (x : Nx M G H G' H') (hd : d ∉ M) : KeysAt d G' H' n S := by
  obtain ⟨kvs, h, g, r⟩ := r
  exact ⟨kvs, x.fr d _ hd h, x.old d g ⟨_, h, fun _ z => nomatch z⟩, r⟩
theorem KeysAt.live (r : KeysAt d G H n S) : H d ≠ none := by
  obtain ⟨kvs, h1, _⟩ := r
  rw [h1]; exact fun z => nomatch z
theorem DctAt.keys (r : DctAt K d G H md) : KeysAt d G H md.length (fun k => k ∈ md.map (·.1)) := by
  obtain ⟨kvs, h, g, hk, _⟩ := r
  exact ⟨kvs, h, g, by rw [← List.length_map (f := (·.1)), hk, List.length_map]; exact Nat.le_refl _, fun k => by rw [hk]⟩
theorem g_upd (e : Ex G H) (r : KeysAt d G H n S) (r2 : KeysAt o G H m S') (hne : d ≠ o) (hz : n + m ≤ 100000) (q : ∀ H', Nx [d] G H G H' → KeysAt d G H' (n + m) (fun k => S k ∨ S' k) → Q .non H') : rUpd (.ref d) [.ref o] H Q := by
  obtain ⟨kvs, h, g, hl, hk⟩ := r
  obtain ⟨more, h2, g2, hl2, hk2⟩ := r2
  refine ⟨d, o, kvs, more, rfl, rfl, h, h2, hne, szle (by omega), q _ (Nx.set e g (by simp)) ⟨_, upd_same, g, Nat.le_trans (length_mergeK more kvs) (by omega), fun k => ?_⟩⟩
  have e := keys_merge k (more := more) (kvs := kvs)
  rw [hk, hk2] at e
  exact e
theorem g_tyKe {P : Prop} (r : KeysAt d G H n S) (q : P) : tyV K "dict" (.ref d) H ∧ P := by
  obtain ⟨kvs, h, _⟩ := r
  exact ⟨.inr (.inr (.inl ⟨rfl, .inl ⟨kvs, h⟩⟩)), q⟩
theorem valV_keys {kvs : List (Key × V)} : (valV kvs k).isSome = true ↔ k ∈ kvs.map (·.1) := by
  have e : valV kvs k = gtM kvs k := rfl
  rw [e]
  constructor
  · intro h
    exact Classical.byContradiction fun z => by rw [gtM_none.mpr z] at h; cases h
  · intro h
    cases e : gtM kvs k with
    | none => exact absurd h (gtM_none.mp e)
    | some v => rfl
theorem g_keIn {b : Bool} (r : KeysAt d G H n S) (hk : y = kV k) (hb : b = true ↔ S k) (q : Q (.bl b) H) : DInW Q y (.ref d) H := by
  obtain ⟨kvs, h, g, hl, hs⟩ := r
  refine ⟨d, _, rfl, .inl ⟨kvs, k, .inl h, hk, rfl⟩, ?_⟩
  have : (valV kvs k).isSome = b := by rw [Bool.eq_iff_iff, valV_keys, hb]; exact hs k
  rw [this]
  exact q
theorem g_keNi {b : Bool} (r : KeysAt d G H n S) (hk : y = kV k) (hb : b = true ↔ S k) (q : Q (.bl (!b)) H) : DNiW Q y (.ref d) H := by
  obtain ⟨kvs, h, g, hl, hs⟩ := r
  refine ⟨d, _, rfl, .inl ⟨kvs, k, .inl h, hk, rfl⟩, ?_⟩
  have : (valV kvs k).isSome = b := by rw [Bool.eq_iff_iff, valV_keys, hb]; exact hs k
  rw [this]
  exact q
theorem g_keNew (e : Ex G H) (q : ∀ p H', Nx [] G H G H' → H p = none → KeysAt p G H' 0 (fun _ => False) → Q (.ref p) H') : tDNewK σ H Q := g_new fun p hp => q p _ (Nx.own e hp) hp ⟨[], upd_same, e.free hp, Nat.le_refl _, by simp⟩
end
/-! ### {k: v for ..} -/
def DcW (J : It) (g : TG) (tt : TT) (tk tv : TE) (vs : List Nat) (σ : L2.St) (D : Addr) (Q : VK) (H1 : Hp) : Prop := ∃ W : Nat → Nat → Hp → Prop, (∃ m, W 0 m (upd H1 D (.dK []))) ∧ ∀ i m H, W i m H →
  (J.stop i H ∧ Q (.ref D) H) ∨ (J.go i H ∧ ∃ Nx : Hp → Prop, (∀ H', Nx H' → ∃ m', m' < m ∧ W (i + 1) m' H') ∧ ∀ x H', J.yld i H x H' → g x (wipe σ vs) H' fun σ2 H2 => wipe σ2 vs = wipe σ vs ∧ tt σ2 H2 fun b H3 =>
    if b = true then tk σ2 H3 fun y H4 => tv σ2 H4 fun z H5 => ∃ kvs k, y = kV k ∧ H5 D = some (.dK kvs) ∧ kvs.length < sizeLine ∧ Nx (upd H5 D (.dK (putK kvs k z))) else Nx H3)
theorem g_dc {wi : TI} {g : TG} {tt : TT} {tk tv : TE} {vs : List Nat} {σ : L2.St} {H : Hp} {Q : VK} (q : wi σ H fun J H1 => ∀ D, H1 D = none → DcW J g tt tk tv vs σ D Q H1) : tDc wi g tt tk tv vs σ H Q := q
/-- .. over one name -/
theorem g_dcC {K : PySem.W.Frag} {σ : L2.St} {G H : Hp} {Q : VK} {tk tv : TE} {tt : TT} {J : It} {M : List Addr} {ds : List PyData} {A : Addr} {j : Nat} (S : Src K M J G H ds) (e : Ex G H) (hA : H A = none) (hM : ∀ b ∈ M, H b ≠ none) (hz : ds.length < 100000) (Jv : Nat → List (Key × V) → Hp → Hp → Prop)
    (jA : ∀ i kvs G' H' o, Jv i kvs G' H' → Jv i kvs G' (upd H' A o)) (jN : ∀ i kvs G' H' G1 H1, Nx [] G' H' G1 H1 → Jv i kvs G' H' → Jv i kvs G1 H1) (j0 : Jv 0 [] G H)
    (hs : ∀ i d v kvs G' H', ds[i]? = some d → Dp K G' v d → Nx M G H G' H' → H' A ≠ none → Jv i kvs G' H' → ∀ (QE : V → V → Hp → Prop) (QN : Hp → Prop),
      (∀ y z k G4 H4, y = kV k → Nx M G' H' G4 H4 → Jv (i + 1) (putK kvs k z) G4 H4 → QE y z H4) → (∀ G3 H3, Nx M G' H' G3 H3 → Jv (i + 1) kvs G3 H3 → QN H3) →
      tt ((wipe σ [j]).set j (some v)) H' fun b H3 => if b = true then tk ((wipe σ [j]).set j (some v)) H3 fun y H4 => tv ((wipe σ [j]).set j (some v)) H4 fun z H5 => QE y z H5 else QN H3)
    (hd : ∀ G' H' kvs, Jv ds.length kvs G' H' → Nx M G H G' H' → G' A = none → H' A = some (.dK kvs) → kvs.length ≤ ds.length → Q (.ref A) H') : DcW J (gName j) tt tk tv [j] σ A Q H := by
  have st0 : Nx [] G H G (upd H A (.dK [])) := Nx.own e hA
  have hAM : A ∉ M := fun z => hM A z hA
  refine ⟨fun i m H' => m = ds.length - i ∧ i ≤ ds.length ∧ ∃ G' kvs, Nx M G H G' H' ∧ G' A = none ∧ H' A = some (.dK kvs) ∧ kvs.length ≤ i ∧ Jv i kvs G' H',
    ⟨ds.length, by simp, Nat.zero_le _, G, [], st0.pure, e.free hA, upd_same, Nat.le_refl _, jA _ _ _ _ _ j0⟩, ?_⟩
  rintro i m H' ⟨rfl, hi, G', kvs, n, gA, hys, hl, jv⟩
  by_cases hlt : i < ds.length
  · refine .inr ⟨S.go i G' H' n hlt, fun H'' => ∃ G'' kvs, Nx M G H G'' H'' ∧ G'' A = none ∧ H'' A = some (.dK kvs) ∧ kvs.length ≤ i + 1 ∧ Jv (i + 1) kvs G'' H'',
      fun H'' ⟨G'', kvs', r⟩ => ⟨ds.length - (i + 1), by omega, rfl, hlt, G'', kvs', r⟩, fun v H1 y => ?_⟩
    have hg : ds[i]? = some ds[i] := by simp [hlt]
    obtain ⟨G1, n1, d1⟩ := S.yld i _ G' H' v H1 n hg y
    have n2 : Nx M G H G1 H1 := n.trans n1.pure
    have gA1 : G1 A = none := n1.old A gA ⟨_, hys, fun _ z => nomatch z⟩
    have hys1 : H1 A = some (.dK kvs) := n1.fr A _ (by simp) hys
    refine ⟨wipe1, hs i _ v kvs G1 H1 hg d1 n2 (by rw [hys1]; exact fun z => nomatch z) (jN _ _ _ _ _ _ n1 jv) (fun y z H5 => ∃ kvs k, y = kV k ∧ H5 A = some (.dK kvs) ∧ kvs.length < sizeLine ∧ _) _ (fun y z k G4 H4 ey n4 jv' => ?_) (fun G3 H3 n3 jv' => ?_)⟩
    · have gA4 : G4 A = none := n4.old A gA1 ⟨_, hys1, fun _ z => nomatch z⟩
      have hys4 : H4 A = some (.dK kvs) := n4.fr A _ hAM hys1
      have n5 : Nx M G H G4 H4 := n2.trans n4
      have n6 : Nx [A] G4 H4 G4 (upd H4 A (.dK (putK kvs k z))) := Nx.set n4.gh gA4 (by simp)
      have n7 : Nx (A :: M) G H G4 (upd H4 A (.dK (putK kvs k z))) := (n5.mono fun _ z => List.mem_cons_of_mem _ z).trans (n6.mono fun b z => by simp at z; simp [z])
      exact ⟨kvs, k, ey, hys4, szl (by omega), G4, putK kvs k z, n7.drop hA, gA4, upd_same, Nat.le_trans (len_ptM (m := kvs)) (by omega), jA _ _ _ _ _ jv'⟩
    · exact ⟨G3, kvs, n2.trans n3, n3.old A gA1 ⟨_, hys1, fun _ z => nomatch z⟩, n3.fr A _ hAM hys1, by omega, jv'⟩
  · have e' : i = ds.length := by omega
    subst e'
    exact .inl ⟨S.stop _ G' H' n (Nat.le_refl _), hd G' H' kvs jv n gA hys hl⟩
/-! ### {k: v} -/
def DiW (Q : VK) (p : Addr) (ps : List (V × V)) (H2 : Hp) : Prop := H2 p = some (.dK []) ∧ ∃ kvs : List (Key × V), ps = kvs.map (fun kv => (kV kv.1, kv.2)) ∧ kvs.length ≤ 15 ∧ Q (.ref p) (upd H2 p (.dK (mergeK [] kvs)))
section
variable {K : PySem.W.Frag} {σ : L2.St} {G H : Hp} {Q : VK} {trs : List (TE × TE)} {tk tv : TE} {p : Addr} {y : V} {R : List (V × V) → Hp → Prop} {k : Key}
theorem g_disp (q : ∀ p, H p = none → tPairs trs σ (upd H p (.dK [])) fun ps H2 => DiW Q p ps H2) : tDisp trs σ H Q := q
theorem g_pair (q : tk σ H fun x H1 => tv σ H1 fun y H2 => tPairs trs σ H2 fun ps H3 => R ((x, y) :: ps) H3) : tPairs ((tk, tv) :: trs) σ H R := q
theorem g_pair0 (q : R [] H) : tPairs [] σ H R := q
theorem g_di1 {x : V} (h : H p = some (.dK [])) (hx : x = kV k) (q : Q (.ref p) (upd H p (.dK [(k, y)]))) : DiW Q p [(x, y)] H := ⟨h, [(k, y)], by rw [hx]; rfl, by show 1 ≤ 15; decide, q⟩
end
/-! ### for k, v in d.items() -/
theorem unlock_nx {M : List Addr} {G H G' H' : Hp} {d : Addr} {u : HO} {od : Obj} (hd : H d = some u) (gd : G d = none) (hM : d ∉ M) (n : Nx M G (upd H d (.frz od u)) G' H') : H' d = some (.frz od u) ∧ G' d = none ∧ Nx M G H G' (upd H' d u) := by
  have h1 : H' d = some (.frz od u) := n.fr d _ hM upd_same
  have h2 : G' d = none := n.old d gd ⟨_, upd_same, fun _ z => nomatch z⟩
  have lv : ∀ b, H b ≠ none → (upd H d (.frz od u)) b ≠ none := fun b hb => by
    by_cases z : b = d
    · subst z; rw [upd_same]; exact fun w => nomatch w
    · rw [upd_ne z]; exact hb
  have ow : ∀ b, Own H b → Own (upd H d (.frz od u)) b := fun b ⟨o, hb, k⟩ => by
    by_cases z : b = d
    · subst z; exact ⟨_, upd_same, fun _ w => nomatch w⟩
    · exact ⟨o, by rw [upd_ne z]; exact hb, k⟩
  refine ⟨h1, h2, n.gg, n.gh.out h2, fun b g hb => n.old b g (ow b hb), fun b hb => ?_, fun b o hb ho => ?_, fun b hb => ?_⟩
  · by_cases z : b = d
    · subst z; rw [upd_same]; exact fun w => nomatch w
    · rw [upd_ne z]; exact n.live b (lv b hb)
  · by_cases z : b = d
    · subst z
      rw [hd] at ho
      cases ho
      exact upd_same
    · rw [upd_ne z]
      exact n.fr b o hb (by rw [upd_ne z]; exact ho)
  · by_cases z : b = d
    · subst z
      obtain ⟨o, e, k⟩ := hb
      rw [hd] at e
      cases e
      exact ⟨_, upd_same, k⟩
    · obtain ⟨o, e, k⟩ := n.nt b (ow b hb)
      exact ⟨o, by rw [upd_ne z]; exact e, k⟩
def kD : Key → PyData
  | .inl i => .int i
  | .inr s => .str s
theorem kD_dp {K : PySem.W.Frag} {G : Hp} (k : Key) : Dp K G (kV k) (kD k) := by
  cases k with
  | inl i => exact .int i
  | inr s => exact .str s
def LockW (t : TS) (D : Ends) (σ : L2.St) (H : Hp) : Prop := ∃ d u, H d = some u ∧ Mut (some u) ∧ ∀ od, t ⟨fun σ' H' => H' d = some (.frz od u) ∧ D.nx σ' (upd H' d u), fun v H' => H' d = some (.frz od u) ∧ D.rt v (upd H' d u), fun σ' H' => H' d = some (.frz od u) ∧ D.bk σ' (upd H' d u), fun σ' H' => H' d = some (.frz od u) ∧ D.ct σ' (upd H' d u)⟩ σ (upd H d (.frz od u))
theorem g_lock {t : TS} {D : Ends} {σ : L2.St} {H : Hp} (q : LockW t D σ H) : tLock t D σ H := q
theorem g_iItems {td : TE} {σ : L2.St} {H : Hp} {R : It → Hp → Prop} (q : td σ H fun x H1 => ∃ d o kvs, x = .ref d ∧ H1 d = some (.frz o (.dK kvs)) ∧ R (Iti d o kvs) H1) : iItems td σ H R := q
/-- the walk over the entries of a dict that stands, by the entries of its data; the dict stays -/
theorem g_forItems {K : PySem.W.Frag} {σ : L2.St} {G H : Hp} {D : Ends} {i0 : Nat} {g : TG} {tb : TS} {M : List Addr} {d : Addr} {md : List (Key × PyData)} (r : DctAt K d G H md) (e : Ex G H) (hM : d ∉ M) (hv : σ[i0]? = some (some (.ref d))) (Pv : Nat → L2.St → Hp → Hp → Prop) (h0 : ∀ (od : Obj) (u : HO), Pv 0 σ G (upd H d (.frz od u)))
    (hs : ∀ i k x v σ' G' H' H0 G1 H1, md[i]? = some (k, x) → Nx M G H0 G' H' → Pv i σ' G' H' → Nx [] G' H' G1 H1 → Dp K G1 v (.tuple [kD k, x]) → ∀ R : L2.St → Hp → Prop, (∀ σ3 G3 H3, Nx M G H0 G3 H3 → Pv (i + 1) σ3 G3 H3 → R σ3 H3) → ∀ D' : Ends, D'.nx = R → D'.ct = R →
      g v σ' H1 fun σ2 H2 => tb D' σ2 H2)
    (hd : ∀ (σ' : L2.St) (G' H' : Hp) (od : Obj) (u : HO), Nx M G H G' (upd H' d u) → G' d = none → DctAt K d G' (upd H' d u) md → Pv md.length σ' G' H' → D.nx σ' (upd H' d u)) : tLock (tFor (iItems (tVar i0)) g tb) D σ H := by
  obtain ⟨kvs, h, gd, hk, dd⟩ := id r
  have hlen : kvs.length = md.length := by simpa using congrArg List.length hk
  refine ⟨d, _, h, trivial, fun od => ?_⟩
  show ∃ v, σ[i0]? = some (some v) ∧ _
  refine ⟨_, hv, d, od, kvs, rfl, upd_same, ?_⟩
  have st : Ex G (upd H d (.frz od (.dK kvs))) := e.out gd
  refine ⟨fun i m σ' H' => m = kvs.length - i ∧ i ≤ kvs.length ∧ ∃ G', Nx M G (upd H d (.frz od (.dK kvs))) G' H' ∧ Pv i σ' G' H', ⟨kvs.length, by simp, Nat.zero_le _, G, Nx.refl st, h0 _ _⟩, ?_⟩
  rintro i m σ' H' ⟨rfl, hi, G', n, p⟩
  obtain ⟨hf, gd', nu⟩ := unlock_nx h gd hM n
  by_cases hlt : i < kvs.length
  · refine .inr ⟨⟨hf, hlt⟩, fun σ3 H3 => ∃ G3, Nx M G (upd H d (.frz od (.dK kvs))) G3 H3 ∧ Pv (i + 1) σ3 G3 H3, fun σ3 H3 ⟨G3, n3, p3⟩ => ⟨kvs.length - (i + 1), by omega, rfl, hlt, G3, n3, p3⟩, fun v H1 y => ?_⟩
    obtain ⟨T, k, w, hkw, rfl, hT, rfl⟩ := y
    have hmi : md[i]? = some md[i] := by simp [← hlen, hlt]
    obtain ⟨k2, x2⟩ : Key × PyData := md[i]
    have hk1 : (kvs.map (·.1))[i]? = some k := by rw [List.getElem?_map, hkw]; rfl
    have hmk : ∃ x, md[i]? = some (k, x) ∧ Dp K G w x := by
      have h1 : (md.map (·.1))[i]? = some k := by rw [← hk]; exact hk1
      rw [List.getElem?_map] at h1
      obtain ⟨⟨k3, x3⟩, h3, h4⟩ := Option.map_eq_some_iff.mp h1
      simp only at h4
      subst h4
      obtain ⟨x4, h5, d5⟩ := dpAll_got dd (i := i) (v := w) (by rw [List.getElem?_map, hkw]; rfl)
      rw [List.getElem?_map, h3] at h5
      cases h5
      exact ⟨x3, h3, d5⟩
    obtain ⟨x, hx, dx⟩ := hmk
    have h2 := nx_tup (K := K) n.gh (xs := [kV k, w]) (ds := [kD k, x]) (.cons (kD_dp k) (.cons (dp_mono n.gg dx) .nil)) hT
    exact hs i k x _ σ' G' H' _ _ _ hx n p h2.1 h2.2 _ (fun σ3 G3 H3 n3 p3 => ⟨G3, n3, p3⟩) _ rfl rfl
  · have e' : i = md.length := by omega
    subst e'
    refine .inl ⟨⟨hf, by omega⟩, hf, hd σ' G' H' od _ nu gd' ⟨kvs, upd_same, gd', hk, dpAll_mono n.gg dd⟩ p⟩
/-! ### enumerate(list that stands) -/
section
variable {K : PySem.W.Frag} {G H : Hp} {p : Addr} {L : List PyData}
theorem g_walkEs {P : Addr → Prop} (r : LstAt K p G H L) (q : (∀ M, p ∉ M → Src K M (Ite K p) G H (prs 0 L)) → P p) : ∃ a xs, [V.ref p] = [V.ref a] ∧ SqL K H a xs ∧ P a := by
  obtain ⟨xs, h, g, da⟩ := r
  refine ⟨p, xs, rfl, .of h, q fun M hM => ?_⟩
  refine ⟨fun i G' H' n hi => ⟨xs, xs[i]'(by rw [dpAll_len da, ← prs_len 0 L]; exact hi), .of (n.fr p _ hM h), by rw [prs_len] at hi; simp [dpAll_len da, hi]⟩, fun i G' H' n hi => ⟨xs, .of (n.fr p _ hM h), by rw [dpAll_len da, ← prs_len 0 L]; exact hi⟩, fun i d G' H' x H'' n hi y => ?_⟩
  obtain ⟨T, u, rfl, hT, rfl, f⟩ := y
  have hx := f xs (.of (n.fr p _ hM h))
  rw [prs_get] at hi
  cases q : L[i]? with
  | none => rw [q] at hi; cases hi
  | some d0 =>
    rw [q] at hi
    cases hi
    obtain ⟨v, hv, dv⟩ := dpAll_get da q
    rw [hx] at hv
    cases hv
    have h2 := nx_tup (K := K) n.gh (xs := [.int ((i : Nat) : Int), u]) (ds := [.int ((0 + i : Nat) : Int), d0]) (by rw [Nat.zero_add]; exact .cons (.int _) (.cons (dp_mono n.gg dv) .nil)) hT
    exact ⟨_, h2.1, h2.2⟩
end
/-! ### a constant tuple of ints of the module -/
end Y
namespace Y
open PySem PySem.Spec PyProof.Rows L2
theorem vals_ints : ∀ {ns : List Int} {vs : List Value}, vs.map (fun v => match v with | .int i _ => some i | _ => none) = ns.map some → Vals (ns.map V.int) vs
  | [], [], _ => .nil
  | [], _ :: _, h => by simp at h
  | _ :: _, [], h => by simp at h
  | n :: ns, v :: vs, h => by
    simp only [List.map_cons, List.cons.injEq] at h
    obtain ⟨h1, h2⟩ := h
    refine .cons ?_ (vals_ints h2)
    split at h1
    · cases h1
      exact ⟨_, rfl⟩
    · cases h1
theorem tupB_ok {K : PySem.W.Frag} {a : Addr} {ns : List Int} {G : Hp} (h : tupB K a ns = true) (hl : ns.length ≤ 100000) : Dp K G (.ref a) (.tuple (ns.map .int)) := by
  unfold tupB at h
  split at h
  · rename_i its n sl e
    have hv := vals_ints (of_decide_eq_true h)
    refine .tup (.inr ⟨_, its, n, e, rfl, rfl, ?_, hv⟩) (dpAll_ints ns)
    have := Paired.length hv
    rw [List.length_map] at this
    have hs : its.size = its.toList.length := Array.length_toList.symm
    rw [hs, ← this]
    exact szle hl
  · cases h
end Y
namespace Y
open PySem PySem.Spec PyProof.Rows L2
/-- name = {k: v for ..} on one line, the name a local -/
theorem ps_setDc {X : Cx} {i : Nat} {y : Str} {py : Pos} {kx vx tg iter : Expr} {ifs : List Expr} {scope : Scope} {own : List (Str × Nat)} {pos spos : Pos} {wi : TI} {g : TG} {tt : TT} {tk tv : TE} (hc : X.calm = true) (nd : X.N.Nodup) (hy : X.N[i]? = some y) (loc : X.env.scope.names.lookup y = some .local)
    (sw : swapsWith (.DictComp kx vx [⟨tg, iter, ifs, 0⟩] scope pos) (some (.Name y py)) spos.line X.env = pure true) (hi : PI X tg iter wi) (ok : BlkOk X.N X.env.scope scope own)
    (hg : ∀ (s : Shared) (H : Hp) (C : Addr) (cl : List (Str × Addr)) (fp : List Addr), PG (X.blk s H scope (compEnvC scope cl C X.env) fp) tg g) (ht : ∀ (s : Shared) (H : Hp) (C : Addr) (cl : List (Str × Addr)) (fp : List Addr), PTs (X.blk s H scope (compEnvC scope cl C X.env) fp) ifs tt)
    (hk : ∀ (s : Shared) (H : Hp) (C : Addr) (cl : List (Str × Addr)) (fp : List Addr), PE (X.blk s H scope (compEnvC scope cl C X.env) fp) kx tk)
    (he : ∀ (s : Shared) (H : Hp) (C : Addr) (cl : List (Str × Addr)) (fp : List Addr), PE (X.blk s H scope (compEnvC scope cl C X.env) fp) vx tv) (hs : ∀ x, foldedSetIterable iter X.env x = pure x := by intro _; rfl) :
    PS X (.Assign [.Name y py] (.DictComp kx vx [⟨tg, iter, ifs, 0⟩] scope pos) spos) (tAsg (tDc wi g tt tk tv (own.map (·.2))) (gName i)) := by
  constructor
  intro pins s σ H D I q0
  rw [exec_Assign_Name_used _ _ _ _ sw]
  refine wpAny_bind (wpAny_standAt (wpAny_bind ?_))
  show wpAny _ X.A (do let _ ← comprehension (.DictComp kx vx [⟨tg, iter, ifs, 0⟩] scope pos) scope X.env (firstIterPos [⟨tg, iter, ifs, 0⟩] pos) newDict false (eval iter X.env) (some (assign (.Name y py) X.env))) _ _ s
  have q1 : tDc wi g tt tk tv (own.map (·.2)) σ H (fun x H1 => gName i x σ H1 D.nx) := q0
  refine wpAny_bind (thn (dc_core (Qf := fun _ s' => SP X pins D .next s') hc nd I hi ok hg ht hk he hs q1 fun L C s' m H' J qq ns fr => ?_) fun _ s' z => wpAny_pure (wpAny_pure z))
  show wpAny _ _ (assign (.Name y py) X.env (.ref L)) _ _ _
  refine wpAny_assign_Name (store_ok2 (v := V.ref L) J nd hy (.inl loc) rfl (fun s2 J2 ⟨a, sb, at_⟩ => ?_) (.inr loc))
  obtain ⟨x0, x1, x2, x3, x4, x5⟩ := fr
  have away : C ≠ a := at_.elim (fun z => by rw [z]; exact x1) fun z w => x4 y a z w.symm
  exact ⟨m, ns.sameBut sb away, fun h3 sb3 => ⟨_, H', J2.turned (t' := s2.toks) (fun b o hb w => (sb3.2 b hb).trans w) x0 x1 x3 x4 x5, qq⟩⟩
theorem sw_trueD {kx vx : Expr} {gs : List Comprehension} {scope : Scope} {pos py : Pos} {y : Str} {l : Nat} {env : Env} (kf : env.scope.kind = .function) (loc : env.scope.names.lookup y = some .local) (hl : (py.line == pos.line) = true)
    (ha : (scope.names.any fun (n, k) => n == y && (k == .local || k == .cell)) = false) : swapsWith (.DictComp kx vx gs scope pos) (some (.Name y py)) l env = pure true := by
  have e1 : env.kindOf y = some .local := loc
  have e2 : env.blockKind = .function := by unfold Env.blockKind; rw [kf]; rfl
  unfold swapsWith
  simp only [e2, e1, ha, Expr.pos, hl]
  rfl
end Y
namespace Y
open PySem PySem.Spec PyProof.Rows L2
theorem g_rawGet {H : Hp} {Q : VK} {d : Addr} {kvs : List (Key × V)} {k : Key} {y v : V} (h : H d = some (.dK kvs)) (hk : y = kV k) (hv : valV kvs k = some v) (q : Q v H) : DGeW Q (.ref d) y H := ⟨d, v, rfl, .inl ⟨kvs, k, .inl h, hk, hv.symm⟩, q⟩
end Y

namespace Y
open PySem PySem.Spec PyProof.Rows L2
/-! ### min(xs, key=len) over a list of tuples: the first of the shortest -/
def rMinLen (K : PySem.W.Frag) : List V → Hp → VK → Prop := fun us H Q => ∃ (a : Addr) (vs : List V) (kf : Nat → Nat), us = [.ref a] ∧ SqL K H a vs ∧ 0 < vs.length ∧
  (∀ i x, vs[i]? = some x → ∃ t xs, x = .ref t ∧ SqT K H t xs ∧ xs.length = kf i) ∧ ∀ i x, vs[i]? = some x → (∀ j, j < vs.length → kf i ≤ kf j ∧ (j < i → kf i < kf j)) → Q x H
def tMinLen (K : PySem.W.Frag) (t : TA) : TE := fun σ H Q => t σ H fun vs H1 => rMinLen K vs H1 Q
section
variable {X : Cx} {pins : List (Addr × Obj)} {σ : List (Option V)} {H : Hp} {s : Shared} {h' : Heap} {m : Str → Option Value} {tk : Nat}
/-- all but this frame's names are kept, and these tell the same -/
theorem inv_same (I : Inv X pins σ H s) (F : Fr X.base X.env.locals s.heap m) (F' : Fr X.base X.env.locals h' m) (k : ∀ b o, b ≠ X.env.locals → s.heap.get? b = some o → h'.get? b = some o) : Inv X pins σ H { s with heap := h', toks := tk } := by
  refine I.step (g' := s.gens) (d' := s.drawn) (ch := []) (fun _ z => nomatch z) (fun b o hb _ _ e _ => k b o hb e) (fun b o hb _ _ e _ => ⟨o.slots, k b o hb e⟩) (fun _ _ _ _ n => n) (fun b o _ e => ?_) (fun _ _ e => e) (fun _ _ _ e => e) (fun _ ps e => ⟨#[], by simpa using e⟩) (fun m' hm => ?_) (fun a o e => ?_) I.bare
  · by_cases hb : b = X.env.locals
    · obtain ⟨o', _, _, ho, _⟩ := F'.ns
      exact ⟨o', hb ▸ ho⟩
    · exact ⟨o, k b o hb e⟩
  · have : m' = m := by
      obtain ⟨o, es, ep, e, d, _, f⟩ := hm
      obtain ⟨o', es', ep', e', d', _, f'⟩ := F.ns
      rw [e] at e'; cases e'
      rw [d] at d'; cases d'
      funext x
      rw [← f x, ← f' x]
    rw [this]
    exact F'.ns
  · refine (I.hok a o e).stay (fun b u c q => k b u (fun z => ?_) q) (fun _ q => q) fun _ _ q => q
    have hf := I.free
    rw [← z] at hf
    rcases c with c | c
    · rw [c, e] at hf; cases hf
    · rw [hf] at c; cases c
theorem vals_back {vs : List V} {us : List Value} {i : Nat} {v : Value} (r : Vals vs us) (h : us[i]? = some v) : ∃ x, vs[i]? = some x ∧ RelV x v := by
  have hi := (List.getElem?_eq_some_iff.mp h).1
  have hl := r.length
  have e : vs[i]? = some vs[i] := by simp [show i < vs.length by omega]
  obtain ⟨u, hu, ru⟩ := r.get e
  rw [h] at hu
  cases hu
  exact ⟨_, e, ru⟩
theorem min_len {us : List V} {ws : List Value} {Q : VK} (hc : X.calm = true) (I : Inv X pins σ H s) (r : Vals us ws) (h : rMinLen X.K us H Q) : wpAny (model X.prog X.w) X.A (call (.builtin "min") ws [(Str.ofString "key", .builtin "len")]) (EP X pins σ Q) X.xe s := by
  obtain ⟨a, vs, kf, rfl, hs, hne, ht, q⟩ := h
  obtain rfl := Vals.ref1 r
  obtain ⟨its, rv, hl, hz⟩ := I.list hs
  obtain ⟨m, F⟩ := I.fr
  have hlen : vs.length = its.length := rv.length
  have keep : ∀ {h : Heap} {more : List (Addr × Obj)}, Fr X.base X.env.locals h m → News X.base X.env.locals h (allNews X.base s.heap X.env.locals ++ more) → ∀ b o, b ≠ X.env.locals → s.heap.get? b = some o → h.get? b = some o := fun {h more} F' N' b o hb e => by
    cases qb : X.base.get? b with
    | some u =>
      have := I.bk b u qb
      rw [e] at this; cases this
      exact F'.keep b _ qb
    | none => exact (N' (b, o) (List.mem_append_left _ (mem_allNews hb qb e))).1
  have keep0 : ∀ {h : Heap}, Fr X.base X.env.locals h m → News X.base X.env.locals h (allNews X.base s.heap X.env.locals) → ∀ b o, b ≠ X.env.locals → s.heap.get? b = some o → h.get? b = some o := fun {h} F' N' => keep (more := []) F' (by rw [List.append_nil]; exact N')
  have notL : ∀ {b : Addr} {o : Obj} {es : Array Value} {n : Nat}, s.heap.get? b = some o → o.data = .seq es n → b ≠ X.env.locals := fun {b o es n} e d z => by
    obtain ⟨o', es', ep', e', d', _⟩ := F.ns
    rw [← z, e] at e'; cases e'
    rw [d] at d'; cases d'
  refine kmb_min (h₀ := X.base) (L := X.env.locals) (m := m) (news := allNews X.base s.heap X.env.locals) (vs := its) (fun i => (kf i : Int)) (I.ok.hd hc) F news_all (fun h F' N' => ?_) (by omega) (fun i v hv h tk own F' N' => ?_) fun i v h' tk' hv hb F' N' => ?_
  · obtain ⟨o, e, c, n, d⟩ := hl.isList
    exact ⟨o, keep0 F' N' _ _ (notL e d) e, c, n, d⟩
  · obtain ⟨x, hx, rx⟩ : ∃ x, vs[i]? = some x ∧ RelV x v := vals_back rv hv
    obtain ⟨t, xs, rfl, hT, hk⟩ := ht i x hx
    obtain ⟨jts, rj, ⟨o, e, c, n, d⟩, hz2⟩ := I.tuple hT
    cases rx
    have hjl : jts.length = kf i := by rw [← hk]; exact rj.length.symm
    have key : (kf i : Int) = ((jts.toArray.size : Nat) : Int) := by rw [List.size_toArray, hjl]
    rw [key]
    exact len_tuple (s := { s with heap := h, toks := tk }) (items := jts.toArray) ⟨o, keep F' N' _ _ (notL e d) e, c, n, d⟩ (by rw [List.size_toArray, hjl, ← hk]; have := hz2; rw [sizeLine_eq] at this; omega) (KskEnd.intro F' N' fun _ hp => hp)
  · obtain ⟨x, hx, rx⟩ : ∃ x, vs[i]? = some x ∧ RelV x v := vals_back rv hv
    refine ⟨x, H, inv_same I F F' (keep0 F' N'), rx, q i x hx fun j hj => ?_⟩
    have := hb j (by omega)
    exact ⟨by omega, fun z => by have := this.2 z; omega⟩
theorem pe_minLenK {K : PySem.W.Frag} {e : Expr} {p pl kp pos : Pos} {t : TA} (h : X.K = K) (hc : X.calm = true) (hg : Gl X "min") (hm : X.mg "min" = none) (hg2 : Gl X "len") (hm2 : X.mg "len" = none) (ha : PA X [e] t)
    (he : backTo pos (starEach [e] X.env) = (false, eval e X.env) :: backTo pos (starEach [] X.env) := by rfl) (hpl : (backTo pos (starEach [e] X.env)).any (·.1) = false := by rfl)
    (hall : (backToKw pos (keywordEach [⟨some (Str.ofString "key"), .Name "len" pl, kp⟩] X.env)).all (·.1.isSome) = true := by rfl) (hnone : (backToKw pos (keywordEach [⟨some (Str.ofString "key"), .Name "len" pl, kp⟩] X.env)).any (·.1.isNone) = false := by rfl) :
    PE X (.Call (.Name "min" p) [e] [⟨some (Str.ofString "key"), .Name "len" pl, kp⟩] pos) (tMinLen K t) := by
  subst h
  refine ⟨fun pins s σ H Q I h => ?_⟩
  refine wpAny_Call_Name_kw (ld_blt I hg hm (by rfl) ?_)
  refine PyProof.Rows.callWith_kw (thn (ha.run pos pins s σ H _ I h) fun us s1 ⟨vs, H1, I1, r1, q1⟩ => kws_cons (ld_blt I1 hg2 hm2 (by rfl) (kws_nil ?_))) he hpl hall hnone
  exact min_len hc I1 r1 q1
end
end Y
namespace Y
open PySem PySem.Spec PyProof.Rows L2
open RT
/-! ### comprehensions over any target, told items or items as they are -/
structure SrcP (M : List Addr) (J : It) (G H : Hp) (n : Nat) (P : Nat → Hp → V → Prop) : Prop where
  go : ∀ i G' H', Nx M G H G' H' → i < n → J.go i H'
  stop : ∀ i G' H', Nx M G H G' H' → n ≤ i → J.stop i H'
  yld : ∀ i G' H' x H'', Nx M G H G' H' → i < n → J.yld i H' x H'' → ∃ G'', Nx [] G' H' G'' H'' ∧ P i G'' x
section
variable {K : PySem.W.Frag} {σ : L2.St} {G H : Hp} {Q : VK} {te : TE} {tt : TT} {g : TG} {J : It} {M : List Addr} {ds : List PyData} {A : Addr} {n : Nat} {P : Nat → Hp → V → Prop} {js : List Nat}
theorem Src.p (S : Src K M J G H ds) : SrcP M J G H ds.length (fun i G x => ∃ d, ds[i]? = some d ∧ Dp K G x d) where
  go := S.go
  stop := S.stop
  yld := fun i G' H' x H'' nx hi y => by
    have hg : ds[i]? = some ds[i] := by simp [hi]
    obtain ⟨G'', n2, d⟩ := S.yld i _ G' H' x H'' nx hg y
    exact ⟨G'', n2, _, hg, d⟩
/-- the values of a list that stands, as they are -/
theorem src_raw {a : Addr} {vs : List V} (h : H a = some (.lst vs)) (ha : a ∉ M) : SrcP M (Itl K a) G H vs.length (fun i _ x => vs[i]? = some x) where
  go := fun i G' H' n hi => ⟨vs, vs[i], .of (n.fr a _ ha h), by simp [hi]⟩
  stop := fun i G' H' n hi => ⟨vs, .of (n.fr a _ ha h), hi⟩
  yld := fun i G' H' x H'' n hi y => by
    obtain ⟨rfl, f⟩ := y
    exact ⟨G', Nx.refl n.gh, f vs (.of (n.fr a _ ha h))⟩
theorem src_revT {a : Addr} {xs : List V} (hs : SqT K G a xs) (hd : DpAll K G xs ds) : Src K M (ItvT K a xs.length) G H ds.reverse where
  go := fun i G' H' n hi => by
    have hl := dpAll_len hd
    rw [List.length_reverse] at hi
    exact ⟨by omega, xs, xs[xs.length - 1 - i]'(by omega), n.gh.seqT (n.gg.seqT hs), by simp⟩
  stop := fun i G' H' n hi => by
    rw [List.length_reverse, ← dpAll_len hd] at hi
    exact hi
  yld := fun i d G' H' x H'' n hi y => by
    obtain ⟨rfl, f⟩ := y
    have hl := dpAll_len hd
    have hil : i < ds.length := by
      have := (List.getElem?_eq_some_iff.mp hi).1
      rwa [List.length_reverse] at this
    rw [List.getElem?_reverse hil] at hi
    have hx := f xs (n.gh.seqT (n.gg.seqT hs))
    rw [hl] at hx
    obtain ⟨v, hv, dv⟩ := dpAll_get hd hi
    rw [hx] at hv
    cases hv
    exact ⟨G', Nx.refl n.gh, dp_mono n.gg dv⟩
theorem g_lcP (S : SrcP M J G H n P) (e : Ex G H) (hA : H A = none) (hM : ∀ b ∈ M, H b ≠ none) (hz : n < sizeLine) (Jv : Nat → List V → Hp → Hp → Prop)
    (jA : ∀ i acc G' H' o, (H' A = none ∨ ∃ ys, H' A = some (.lst ys)) → Jv i acc G' H' → Jv i acc G' (upd H' A o)) (jN : ∀ i acc G' H' G1 H1, Nx [] G' H' G1 H1 → Jv i acc G' H' → Jv i acc G1 H1) (j0 : Jv 0 [] G H)
    (hs : ∀ i v acc G' H', i < n → P i G' v → Nx M G H G' H' → acc.length ≤ i → Jv i acc G' H' → ∀ (QE : VK) (QN : Hp → Prop),
      (∀ y G4 H4, Nx M G' H' G4 H4 → Jv (i + 1) (acc ++ [y]) G4 H4 → QE y H4) → (∀ G3 H3, Nx M G' H' G3 H3 → Jv (i + 1) acc G3 H3 → QN H3) →
      g v (wipe σ js) H' fun σ2 H2 => wipe σ2 js = wipe σ js ∧ tt σ2 H2 fun b H3 => if b = true then te σ2 H3 QE else QN H3)
    (hd : ∀ G' H' ys, Jv n ys G' H' → Nx M G H G' H' → G' A = none → H' A = some (.lst ys) → ys.length ≤ n → Q (.ref A) H') : LcW J g tt te js σ A Q H := by
  have st0 : Nx [] G H G (upd H A (.lst [])) := Nx.own e hA
  have hAM : A ∉ M := fun z => hM A z hA
  refine ⟨fun i m H' => m = n - i ∧ i ≤ n ∧ ∃ G' ys, Nx M G H G' H' ∧ G' A = none ∧ H' A = some (.lst ys) ∧ ys.length ≤ i ∧ Jv i ys G' H',
    ⟨n, by simp, Nat.zero_le _, G, [], st0.pure, e.free hA, upd_same, Nat.le_refl _, jA _ _ _ _ _ (.inl hA) j0⟩, ?_⟩
  rintro i m H' ⟨rfl, hi, G', ys, nx, gA, hys, hl, jv⟩
  by_cases hlt : i < n
  · refine .inr ⟨S.go i G' H' nx hlt, fun H'' => ∃ G'' ys, Nx M G H G'' H'' ∧ G'' A = none ∧ H'' A = some (.lst ys) ∧ ys.length ≤ i + 1 ∧ Jv (i + 1) ys G'' H'',
      fun H'' ⟨G'', ys', r⟩ => ⟨n - (i + 1), by omega, rfl, hlt, G'', ys', r⟩, fun v H1 y => ?_⟩
    obtain ⟨G1, n1, d1⟩ := S.yld i G' H' v H1 nx hlt y
    have n2 : Nx M G H G1 H1 := nx.trans n1.pure
    have gA1 : G1 A = none := n1.old A gA ⟨_, hys, fun _ z => nomatch z⟩
    have hys1 : H1 A = some (.lst ys) := n1.fr A _ (by simp) hys
    refine hs i v ys G1 H1 hlt d1 n2 hl (jN _ _ _ _ _ _ n1 jv) _ _ (fun y G4 H4 n4 jv' => ?_) (fun G3 H3 n3 jv' => ?_)
    · have gA4 : G4 A = none := n4.old A gA1 ⟨_, hys1, fun _ z => nomatch z⟩
      have hys4 : H4 A = some (.lst ys) := n4.fr A _ hAM hys1
      have n5 : Nx M G H G4 H4 := n2.trans n4
      have n6 : Nx [A] G4 H4 G4 (upd H4 A (.lst (ys ++ [y]))) := Nx.set n4.gh gA4 (by simp)
      have n7 : Nx (A :: M) G H G4 (upd H4 A (.lst (ys ++ [y]))) := (n5.mono fun _ z => List.mem_cons_of_mem _ z).trans (n6.mono fun b z => by simp at z; simp [z])
      exact ⟨ys, hys4, by omega, G4, ys ++ [y], n7.drop hA, gA4, upd_same, by simp; omega, jA _ _ _ _ _ (.inr ⟨_, hys4⟩) jv'⟩
    · exact ⟨G3, ys, n2.trans n3, n3.old A gA1 ⟨_, hys1, fun _ z => nomatch z⟩, n3.fr A _ hAM hys1, by omega, jv'⟩
  · have e' : i = n := by omega
    subst e'
    exact .inl ⟨S.stop _ G' H' nx (Nat.le_refl _), hd G' H' ys jv nx gA hys hl⟩
/-- told items, any target -/
theorem g_lcPS {es : Nat → List PyData} (S : Src K M J G H ds) (e : Ex G H) (hA : H A = none) (hM : ∀ b ∈ M, H b ≠ none) (hz : ds.length < sizeLine) (e0 : es 0 = [])
    (hs : ∀ i d v acc G' H', ds[i]? = some d → Dp K G' v d → Nx M G H G' H' → DpAll K G' acc (es i) → ∀ (QE : VK) (QN : Hp → Prop),
      (∀ y G4 H4 d', Nx M G' H' G4 H4 → Dp K G4 y d' → es (i + 1) = es i ++ [d'] → QE y H4) → (∀ G3 H3, Nx M G' H' G3 H3 → es (i + 1) = es i → QN H3) →
      g v (wipe σ js) H' fun σ2 H2 => wipe σ2 js = wipe σ js ∧ tt σ2 H2 fun b H3 => if b = true then te σ2 H3 QE else QN H3)
    (hd : ∀ G' H', Nx M G H G' H' → LstAt K A G' H' (es ds.length) → Q (.ref A) H') : LcW J g tt te js σ A Q H := by
  refine g_lcP S.p e hA hM hz (fun i acc G' _ => DpAll K G' acc (es i)) (fun _ _ _ _ _ _ h => h) (fun _ _ _ _ _ _ n h => dpAll_mono n.gg h) (by rw [e0]; exact .nil) (fun i v acc G' H' hi hp n _ hj QE QN k1 k2 => ?_) fun G' H' ys hj n g h _ => hd G' H' n ⟨ys, h, g, hj⟩
  obtain ⟨d, hg, dv⟩ := hp
  exact hs i d v acc G' H' hg dv n hj QE QN (fun y G4 H4 d' n4 dy ee => k1 y G4 H4 n4 (by rw [ee]; exact dpAll_snoc (dpAll_mono n4.gg hj) dy)) fun G3 H3 n3 ee => k2 G3 H3 n3 (by rw [ee]; exact dpAll_mono n3.gg hj)
theorem wipe2 {i j : Nat} {a b : V} : wipe (((wipe σ [i, j]).set i (some a)).set j (some b)) [i, j] = wipe σ [i, j] := by
  show (((((σ.set j none).set i none).set i (some a)).set j (some b)).set j none).set i none = (σ.set j none).set i none
  rw [List.set_set, List.set_set]
  by_cases h : i = j
  · subst h; rw [List.set_set, List.set_set, List.set_set]
  · rw [List.set_comm _ _ (Ne.symm h), List.set_set, List.set_comm _ _ h, List.set_set]
end
theorem pi_revAK {X : Cx} {K : PySem.W.Frag} {tg e : Expr} {te : TE} {p pos : Pos} (h : X.K = K) (hg : Gl X "reversed") (hm : X.mg "reversed" = none) (he : PE X e te) (hs : starEach [e] X.env = (false, eval e X.env) :: starEach [] X.env := by rfl) : PI X tg (.Call (.Name "reversed" p) [e] [] pos) (iRevA K te) := h ▸ pi_revA hg hm he hs
theorem g_revT {K : PySem.W.Frag} {G H : Hp} {x : V} {ds : List PyData} {RL RT : Addr → List V → Prop} (e : Ex G H) (h : Dp K G x (.tuple ds)) (q : ∀ a xs, (∀ M, Src K M (ItvT K a xs.length) G H ds.reverse) → RT a xs) : ∃ (a : Addr) (xs : List V), x = .ref a ∧ ((SqL K H a xs ∧ RL a xs) ∨ (SqT K H a xs ∧ RT a xs)) := by
  obtain ⟨a, xs, rfl, hs, hd⟩ := dp_tup h
  exact ⟨a, xs, rfl, .inr ⟨e.seqT hs, q a xs fun M => src_revT hs hd⟩⟩
end Y
namespace Y
open PySem PySem.Spec PyProof.Rows L2 RT
theorem g_iRevA {K : PySem.W.Frag} {σ : L2.St} {H : Hp} {te : TE} {R : It → Hp → Prop} (q : te σ H fun v H1 => ∃ (a : Addr) (xs : List V), v = .ref a ∧ ((SqL K H1 a xs ∧ R (Itv K a xs.length) H1) ∨ (SqT K H1 a xs ∧ R (ItvT K a xs.length) H1))) : iRevA K te σ H R := q
theorem g_minLen {K : PySem.W.Frag} {σ : L2.St} {H : Hp} {t : TA} {Q : VK} (q : t σ H fun vs H1 => rMinLen K vs H1 Q) : tMinLen K t σ H Q := q
end Y
namespace Y
open PySem PySem.Spec PyProof.Rows L2
section
variable {K : PySem.W.Frag} {G H : Hp} {Q : VK} {p b : Addr} {L L' ds : List PyData} {vs xs : List V} {v : V} {i : Nat}
theorem dpAll_back (h : DpAll K G vs ds) (hi : vs[i]? = some v) : ∃ d, ds[i]? = some d ∧ Dp K G v d := by
  have hl := dpAll_len h
  have hi1 := (List.getElem?_eq_some_iff.mp hi).1
  have e : ds[i]? = some (ds[i]'(by omega)) := by simp [show i < ds.length by omega]
  obtain ⟨u, hu, du⟩ := dpAll_get h e
  rw [hi] at hu
  cases hu
  exact ⟨_, e, du⟩
theorem g_extLs (e : Ex G H) (r : LstAt K p G H L) (r2 : LstAt K b G H L') (hl : L.length + L'.length ≤ 100000) (q : ∀ H', Nx [p] G H G H' → LstAt K p G H' (L ++ L') → Q .non H') : rExtend (.ref p) [.ref b] H Q := by
  obtain ⟨xs, h, g, da⟩ := r
  obtain ⟨ys, h2, g2, db⟩ := r2
  exact g_ext h h2 (by rw [dpAll_len da, dpAll_len db]; exact szle hl) (q _ (Nx.set e g (by simp)) ⟨_, upd_same, g, dpAll_app da db⟩)
/-- a tuple of values as they are -/
theorem g_tupRaw (e : Ex G H) (hl : xs.length ≤ sizeLine) (q : ∀ p G' H', Nx [] G H G' H' → H p = none → SqT K G' p xs → Q (.ref p) H') : MkT xs H Q :=
  ⟨hl, fun p hp => q p (upd G p (.tup xs)) _ ((Nx.own e hp).know hp upd_same (e.free hp)) hp (.of upd_same)⟩
/-- the first of the shortest, told: its place -/
theorem g_minLs (h : H p = some (.lst vs)) (e : Ex G H) (d : DpAll K G vs ds) (ns : List (List PyData)) (hd : ds = ns.map .tuple) (hne : 0 < ds.length)
    (q : ∀ (i : Nat) (x : V) (w : List PyData), vs[i]? = some x → ns[i]? = some w → Dp K G x (.tuple w) → (∀ (j : Nat) (u : List PyData), ns[j]? = some u → w.length ≤ u.length ∧ (j < i → w.length < u.length)) → Q x H) : rMinLen K [.ref p] H Q := by
  subst hd
  have hl := dpAll_len d
  have key : ∀ i x, vs[i]? = some x → ∃ w, ns[i]? = some w ∧ Dp K G x (.tuple w) := fun i x hx => by
    obtain ⟨d', hd', dx⟩ := dpAll_back d hx
    rw [List.getElem?_map] at hd'
    obtain ⟨w, hw, rfl⟩ := Option.map_eq_some_iff.mp hd'
    exact ⟨w, hw, dx⟩
  refine ⟨p, vs, fun i => ((ns[i]?).getD []).length, rfl, .of h, by omega, fun i x hx => ?_, fun i x hx hb => ?_⟩
  · obtain ⟨w, hw, dx⟩ := key i x hx
    obtain ⟨t, xs, rfl, hs, da⟩ := dp_tup dx
    exact ⟨t, xs, rfl, e.seqT hs, by show xs.length = ((ns[i]?).getD []).length; rw [hw, dpAll_len da]; rfl⟩
  · obtain ⟨w, hw, dx⟩ := key i x hx
    refine q i x w hx hw dx fun j u hu => ?_
    have hj : j < vs.length := by
      have := (List.getElem?_eq_some_iff.mp hu).1
      rw [List.length_map] at hl
      omega
    have := hb j hj
    simp only [hw, hu, Option.getD_some] at this
    exact this
end
end Y
namespace Y
open PySem PySem.Spec PyProof.Rows L2
section
variable {K : PySem.W.Frag} {G H : Hp} {σ : L2.St} {R : L2.St → Hp → Prop} {t : Addr} {v1 v2 : V} {i j : Nat} {Q : VK}
theorem g_un2R (e : Ex G H) (h : SqT K G t [v1, v2]) (q : R ((σ.set i (some v1)).set j (some v2)) H) : gTup K 2 (gCons (gName i) (gCons (gName j) gNil)) (.ref t) σ H R :=
  ⟨t, _, rfl, e.seqT h, rfl, _, _, rfl, _, _, rfl, rfl, q⟩
end
def mergeM {κ α : Type} [DecidableEq κ] (md more : List (κ × α)) : List (κ × α) := more.foldl (fun acc kv => ptM acc kv.1 kv.2) md
section
variable {K : PySem.W.Frag} {G H : Hp} {Q : VK} {d o : Addr} {md more : List (Key × PyData)}
theorem merge_rel : ∀ {more : List (Key × PyData)} {ks : List (Key × V)} {kvs : List (Key × V)} {md : List (Key × PyData)}, kvs.map (·.1) = md.map (·.1) → DpAll K G (kvs.map (·.2)) (md.map (·.2)) → ks.map (·.1) = more.map (·.1) → DpAll K G (ks.map (·.2)) (more.map (·.2)) →
    (mergeK kvs ks).map (·.1) = (mergeM md more).map (·.1) ∧ DpAll K G ((mergeK kvs ks).map (·.2)) ((mergeM md more).map (·.2))
  | [], [], _, _, h1, h2, _, _ => ⟨h1, h2⟩
  | (k, x) :: more, (k', v) :: ks, kvs, md, h1, h2, h3, h4 => by
    simp only [List.map_cons, List.cons.injEq] at h3
    obtain ⟨rfl, h3⟩ := h3
    cases h4 with
    | cons a t =>
      obtain ⟨p1, p2⟩ := pt_rel (v := v) (x := x) k' a h1 h2
      exact merge_rel (kvs := putK kvs k' v) (md := ptM md k' x) p1 p2 h3 t
theorem mergeM_len : ∀ {more md : List (Key × PyData)}, (mergeM md more).length ≤ md.length + more.length
  | [], _ => by simp [mergeM]
  | p :: more, md => by
    have := mergeM_len (more := more) (md := ptM md p.1 p.2)
    have h2 := len_ptM (m := md) (k := p.1) (a := p.2)
    show (mergeM (ptM md p.1 p.2) more).length ≤ _
    rw [List.length_cons]
    omega
theorem gtM_merge {k : Key} : ∀ {more md : List (Key × PyData)}, gtM (mergeM md more) k = (gtM more.reverse k).or (gtM md k)
  | [], md => by simp [mergeM, gtM]
  | p :: more, md => by
    show gtM (mergeM (ptM md p.1 p.2) more) k = _
    rw [gtM_merge, gtM_ptM, List.reverse_cons, gtM_app, gtM_cons]
    by_cases h : p.1 = k
    · rw [if_pos h, if_pos h]
      cases gtM more.reverse k <;> rfl
    · rw [if_neg h, if_neg h]
      cases gtM more.reverse k <;> rfl
theorem g_updD (e : Ex G H) (r : DctAt K d G H md) (r2 : DctAt K o G H more) (hne : d ≠ o) (hl : md.length + more.length ≤ 100000) (q : ∀ H', Nx [d] G H G H' → DctAt K d G H' (mergeM md more) → Q .non H') : rUpd (.ref d) [.ref o] H Q := by
  obtain ⟨kvs, h, g, hk, dd⟩ := r
  obtain ⟨ks, h2, g2, hk2, dd2⟩ := r2
  have l1 : kvs.length = md.length := by simpa using congrArg List.length hk
  have l2 : ks.length = more.length := by simpa using congrArg List.length hk2
  obtain ⟨m1, m2⟩ := merge_rel hk dd hk2 dd2
  exact ⟨d, o, kvs, ks, rfl, rfl, h, h2, hne, by rw [l1, l2]; exact szle hl, q _ (Nx.set e g (by simp)) ⟨_, upd_same, g, m1, m2⟩⟩
end
end Y
namespace Y
open PySem PySem.Spec PyProof.Rows L2
theorem g_inSd {K : PySem.W.Frag} {G H : Hp} {Q : VK} {v : V} {ss : List Str} {t : Str} (e : Ex G H) (h : Dp K G v (.list (ss.map .str))) (q : Q (.bl (decide (t ∈ ss))) H) : rIn K false (.str t) v H Q := by
  obtain ⟨a, xs, rfl, hs, da⟩ := dp_lst h
  rw [dpAll_str_inv da] at hs
  exact g_inS (neg := false) (e.seqL hs) q
end Y

/-! ### == and != of things that are equal: scalars, tuples, lists, dicts with plain keys and with tuples as keys, nested -/
namespace YQ
open PySem PySem.SeqAt
section
variable {prog : Program} {w : World} {A : Around} {s : Shared}
/-- all pairs of two rows are equal -/
def AllEq (prog : Program) (w : World) (A : Around) (s : Shared) (us ws : Array Value) : Prop := ∀ j (h1 : j < us.size) (h2 : j < ws.size), EqP prog w A.in1 s us[j] ws[j] true
theorem ne_loop {p q : Addr} {us ws : Array Value} {m n : Nat} {d1 d2 : Option Addr} {s1 s2 : Array (Option Value)} (hsz : us.size = ws.size) :
    ∀ (k i : Nat), us.size = i + k → MeetsIn prog w (Builtin.«list.__eq__.loop» ⟨[.ref p, .ref q, rawInt i, rawInt 3], []⟩)
      (fun A R s => (s.heap.get? p = some { cls := .type "list", dict := d1, data := .seq us m, slots := s1 } ∧ s.heap.get? q = some { cls := .type "list", dict := d2, data := .seq ws n, slots := s2 }) ∧ AllEq prog w A s us ws ∧ R (.ok (.ret (.bool false))) s)
  | 0, i, hi => by
    rintro A R ⟨hp, g, d, tk, os⟩ ⟨⟨hl, hb⟩, _, z⟩
    wp_walk using AutoSeq1.wpAny_loadPart' hl, AutoSeq1.wpAny_loadPart' hb
    have a1 : us[((i : Nat) : Int).toNat]? = none := by simp; omega
    have a2 : ws[((i : Nat) : Int).toNat]? = none := by simp; omega
    rw [a1, a2]
    wp_walk using AutoSeq1.wpAny_loadPart' hl, AutoSeq1.wpAny_loadPart' hb
    have e : (us.size != ws.size) = false := by rw [hsz]; simp
    show R (.ok (.ret (.bool (us.size != ws.size)))) _
    rw [e]
    exact z
  | k + 1, i, hi => by
    rintro A R ⟨hp, g, d, tk, os⟩ ⟨⟨hl, hb⟩, he, z⟩
    wp_walk using AutoSeq1.wpAny_loadPart' hl, AutoSeq1.wpAny_loadPart' hb
    have l1 : i < us.size := by omega
    have l2 : i < ws.size := hsz ▸ l1
    have a1 : us[((i : Nat) : Int).toNat]? = some us[i] := by simp [l1]
    have a2 : ws[((i : Nat) : Int).toNat]? = some ws[i] := by simp [l2]
    rw [a1, a2]
    refine wpAny_bind (he i l1 l2 _ _ ?_)
    wp_walk
    have nx : (i : Int) + 1 = ((i + 1 : Nat) : Int) := rfl
    rw [nx]
    refine ⟨plainId_quiet MeetsSeq3.plain_eq_loop _, codeAny_builtin MeetsSeq3.entry_eq_loop ?_⟩
    rw [Around.under_plainId MeetsSeq3.plain_eq_loop _]
    exact ne_loop hsz k (i + 1) (by omega) A R _ ⟨⟨hl, hb⟩, he, z⟩
theorem list_ne {p q : Addr} {us ws : Array Value} {m n : Nat} {d1 d2 : Option Addr} {s1 s2 : Array (Option Value)} (hsz : us.size = ws.size) : MeetsIn prog w (Builtin.«list.__ne__» ⟨[.ref p, .ref q], []⟩)
      (fun A R s => (s.heap.get? p = some { cls := .type "list", dict := d1, data := .seq us m, slots := s1 } ∧ s.heap.get? q = some { cls := .type "list", dict := d2, data := .seq ws n, slots := s2 }) ∧ AllEq prog w A s us ws ∧ R (.ok (.ret (.bool false))) s) := by
  rintro A R ⟨hp, g, d, tk, os⟩ ⟨⟨hl, hb⟩, he, z⟩
  have sub := AutoSeq1.sub_list_list
  have same : ¬ (us.size != ws.size) = true := by rw [hsz]; simp
  wp_walk using AutoSeq1.wpAny_loadPart' hl, AutoSeq1.wpAny_loadPart' hb
  refine ⟨plainId_quiet MeetsSeq3.plain_eq_loop _, codeAny_builtin MeetsSeq3.entry_eq_loop ?_⟩
  rw [Around.under_plainId MeetsSeq3.plain_eq_loop _]
  exact ne_loop hsz us.size 0 (by omega) A R _ ⟨⟨hl, hb⟩, he, z⟩
theorem tup_ne {p q : Addr} {us ws : Array Value} {m n : Nat} {d1 d2 : Option Addr} {s1 s2 : Array (Option Value)} (hsz : us.size = ws.size) : MeetsIn prog w (Builtin.«tuple.__ne__» ⟨[.ref p, .ref q], []⟩)
      (fun A R s => (s.heap.get? p = some { cls := .type "tuple", dict := d1, data := .seq us m, slots := s1 } ∧ s.heap.get? q = some { cls := .type "tuple", dict := d2, data := .seq ws n, slots := s2 }) ∧ AllEq prog w A s us ws ∧ R (.ok (.ret (.bool false))) s) := by
  rintro A R ⟨hp, g, d, tk, os⟩ ⟨⟨hl, hb⟩, he, z⟩
  have sub := AutoSeq1.sub_tuple_tuple
  have zl : (us.toList.zip ws.toList).length = us.size := by simp [hsz]
  wp_walk using AutoSeq1.wpAny_loadPart' hl, AutoSeq1.wpAny_loadPart' hb, wpAny_forIn_list _ (fun todo b s' => b.1 = none ∧ s' = (⟨hp, g, d, tk, os⟩ : Shared) ∧ ∃ i, todo = (us.toList.zip ws.toList).drop i ∧ i ≤ us.size) _
  case turn =>
    rintro ⟨y, x⟩ todo b s' ⟨b1, rfl, i, hz, hi⟩
    have il : i < (us.toList.zip ws.toList).length := Classical.byContradiction fun z => by
      rw [List.drop_of_length_le (by omega)] at hz
      cases hz
    have l1 : i < us.size := zl ▸ il
    have l2 : i < ws.size := hsz ▸ l1
    rw [List.drop_eq_getElem_cons il] at hz
    injection hz with e1 e2
    have ey : y = us[i] := by simpa using congrArg Prod.fst e1
    have ex : x = ws[i] := by simpa using congrArg Prod.snd e1
    subst ey ex
    refine wpAny_bind (he i l1 l2 _ _ ?_)
    wp_walk
    exact ⟨rfl, rfl, i + 1, e2, l1⟩
  case fin =>
    rintro ⟨b1, b2⟩ s' ⟨hb1, rfl, i, hz, hi⟩
    simp only at hb1
    subst hb1
    wp_walk
    have e : (us.size != ws.size) = false := by rw [hsz]; simp
    show R (.ok (.ret (.bool (us.size != ws.size)))) _
    rw [e]
    exact z
  case h => exact ⟨rfl, rfl, 0, rfl, Nat.zero_le _⟩
/-- two rows, equal -/
theorem rcNe_list {p q : Addr} {us ws : Array Value} (hl : s.heap.IsList p us) (hb : s.heap.IsList q ws) (hsz : us.size = ws.size) (hu : A.units < cLine) (he : AllEq prog w A s us ws) (E Q : Value → Shared → Prop) (z : Q (.bool false) s) :
    wpAny (model prog w) A (richCompare .NotEq (.ref p) (.ref q)) Q E s := by
  obtain ⟨⟨c1, d1, a1, s1⟩, ho, h1, n, h2⟩ := hl
  obtain ⟨⟨c2, d2, a2, s2⟩, ho2, h3, n2, h4⟩ := hb
  simp only at h1 h2 h3 h4
  subst h1 h2 h3 h4
  exact wpAny_richCompare_same_room (op := .NotEq) ⟨_, ho, rfl⟩ ⟨_, ho2, rfl⟩ F.slot_list_ne (call_meetsIn F.slot_list_ne ⟨_, ho, rfl⟩ F.entry_list_ne (F.args_list_ne_2 _ _) (list_ne hsz) ⟨⟨ho, ho2⟩, he, (fun x => nomatch x), z⟩) hu
theorem rcNe_tup {p q : Addr} {us ws : Array Value} (hl : s.heap.IsTuple p us) (hb : s.heap.IsTuple q ws) (hsz : us.size = ws.size) (hu : A.units < cLine) (he : AllEq prog w A s us ws) (E Q : Value → Shared → Prop) (z : Q (.bool false) s) :
    wpAny (model prog w) A (richCompare .NotEq (.ref p) (.ref q)) Q E s := by
  obtain ⟨⟨c1, d1, a1, s1⟩, ho, h1, n, h2⟩ := hl
  obtain ⟨⟨c2, d2, a2, s2⟩, ho2, h3, n2, h4⟩ := hb
  simp only at h1 h2 h3 h4
  subst h1 h2 h3 h4
  exact wpAny_richCompare_same_room (op := .NotEq) ⟨_, ho, rfl⟩ ⟨_, ho2, rfl⟩ F.slot_tuple_ne (call_meetsIn F.slot_tuple_ne ⟨_, ho, rfl⟩ F.entry_tuple_ne (F.args_tuple_ne_2 _ _) (tup_ne hsz) ⟨⟨ho, ho2⟩, he, (fun x => nomatch x), z⟩) hu
theorem rcEq_tup {p q : Addr} {us ws : Array Value} (hl : s.heap.IsTuple p us) (hb : s.heap.IsTuple q ws) (hsz : us.size = ws.size) (hu : A.units < cLine) (he : AllEq prog w A s us ws) (E Q : Value → Shared → Prop) (z : Q (.bool true) s) :
    wpAny (model prog w) A (richCompare .Eq (.ref p) (.ref q)) Q E s :=
  GQ.rc_tupG hsz hu (fun _ s' => s' = s) hl hb (fun i h1 h2 s' e => by subst e; exact he i h1 h2 _ _ ⟨rfl, rfl⟩) (fun s' e => by subst e; exact z) rfl
theorem rcEq_list {p q : Addr} {us ws : Array Value} (hl : s.heap.IsList p us) (hb : s.heap.IsList q ws) (hsz : us.size = ws.size) (hu : A.units < cLine) (he : AllEq prog w A s us ws) (E Q : Value → Shared → Prop) (z : Q (.bool true) s) :
    wpAny (model prog w) A (richCompare .Eq (.ref p) (.ref q)) Q E s :=
  rcP_lists (e := fun _ => true) hl hb hsz hu he E Q (by rw [show ((List.range us.size).all fun _ => true) = true from List.all_eq_true.mpr fun _ _ => rfl]; exact z)
/-- dicts, by the walk over their pairs -/
theorem rcNe_dict_of {a b : Addr} (ta : s.TypeIs (.ref a) "dict") (tb : s.TypeIs (.ref b) "dict") (hu : A.units < cLine) (same : ∀ (nm : String) (E : Value → Shared → Prop) (Q : Bool → Shared → Prop), Q true s → wpAny (model prog w) A.in1 (Builtin.Dict.samePairs nm a b) Q E s) (E Q : Value → Shared → Prop) (z : Q (.bool false) s) :
    wpAny (model prog w) A (richCompare .NotEq (.ref a) (.ref b)) Q E s := by
  refine wpAny_richCompare_same_room (op := .NotEq) ta tb F.slot_dict_ne (wpAny_call_entry F.slot_dict_ne ta F.entry_dict_ne ?_ (F.args_dict_ne_2 _ _)) hu
  show wpAny _ _ (Builtin.Dict.dictSlotArgs "__ne__" ⟨[.ref a, .ref b], []⟩ >>= _) _ _ s
  refine wpAny_bind ?_
  unfold Builtin.Dict.dictSlotArgs
  refine wpAny_bind (wpAny_notOrdered_dict ta ?_)
  show wpAny _ _ (pure (Value.ref a, Value.ref b)) _ _ s
  refine wpAny_pure (wpAny_bind (wpAny_isInstance (T := "dict") tb F.sub_dict_dict ?_))
  simp only [Bool.not_true, Bool.false_eq_true, if_false]
  exact wpAny_bind (wpAny_pure (wpAny_bind (wpAny_pure (wpAny_bind (same _ _ _ (wpAny_pure ⟨_, rfl, (fun x => nomatch x), z⟩))))))
theorem rcEq_dict_of {a b : Addr} (ta : s.TypeIs (.ref a) "dict") (tb : s.TypeIs (.ref b) "dict") (hu : A.units < cLine) (same : ∀ (nm : String) (E : Value → Shared → Prop) (Q : Bool → Shared → Prop), Q true s → wpAny (model prog w) A.in1 (Builtin.Dict.samePairs nm a b) Q E s) (E Q : Value → Shared → Prop) (z : Q (.bool true) s) :
    wpAny (model prog w) A (richCompare .Eq (.ref a) (.ref b)) Q E s := by
  refine wpAny_richCompare_same_room (op := .Eq) ta tb F.slot_dict_eq (wpAny_call_entry F.slot_dict_eq ta F.entry_dict_eq ?_ (F.args_dict_eq_2 _ _)) hu
  show wpAny _ _ (Builtin.Dict.dictSlotArgs "__eq__" ⟨[.ref a, .ref b], []⟩ >>= _) _ _ s
  refine wpAny_bind ?_
  unfold Builtin.Dict.dictSlotArgs
  refine wpAny_bind (wpAny_notOrdered_dict ta ?_)
  show wpAny _ _ (pure (Value.ref a, Value.ref b)) _ _ s
  refine wpAny_pure (wpAny_bind (wpAny_isInstance (T := "dict") tb F.sub_dict_dict ?_))
  simp only [Bool.not_true, Bool.false_eq_true, if_false]
  exact wpAny_bind (wpAny_pure (wpAny_bind (wpAny_pure (wpAny_bind (same _ _ _ (wpAny_pure ⟨_, rfl, (fun x => nomatch x), z⟩))))))
/-- two dicts whose keys stand on the heap: every pair of the first has an equal one in the second -/
theorem samePairsH {K : Type} [DecidableEq K] {knd : HeapKind prog w K} {nm : String} {a b : Addr} {ka kb : List (K × Addr × Value)} {Q : Bool → Shared → Prop} {E : Value → Shared → Prop} (ha : (a == sysModules) = false) (hb : (b == sysModules) = false)
    (da : s.heap.DictOfH knd a ka) (db : s.heap.DictOfH knd b kb) (hr : knd.room A) (hl : ka.length = kb.length) (hit : ∀ x ∈ ka, ∃ (j : Nat) (p : Addr × Value), kb[j]? = some (x.1, p) ∧ EqP prog w A s x.2.2 p.2 true) (z : Q true s) :
    wpAny (model prog w) A (Builtin.Dict.samePairs nm a b) Q E s := by
  obtain ⟨oa, ea, na, hoa, _, hda, hka, hisa, _⟩ := da
  obtain ⟨ob, eb, nb, hob, _, hdb, hkb, hisb, hnb⟩ := db
  have la := size_of_entries hka
  have lb := size_of_entries hkb
  unfold Builtin.Dict.samePairs Builtin.Dict.showsAll
  rw [if_neg (by rw [ha]; exact Bool.false_ne_true), if_neg (by rw [hb]; exact Bool.false_ne_true)]
  refine wpAny_bind (wpAny_pure (wpAny_bind (wpAny_pure (wpAny_bind (wpAny_dictEntries hoa hda ?_)))))
  dsimp only
  refine wpAny_bind (wpAny_dictEntries hob hdb ?_)
  rw [if_neg (by rw [la, lb, hl]; simp)]
  refine wpAny_bind (wpAny_dictEpoch hoa hda (wpAny_bind ?_))
  rw [Std.Legacy.Range.forIn_eq_forIn_range']
  simp only [Std.Legacy.Range.size, Nat.sub_zero, Nat.add_sub_cancel, Nat.div_one]
  refine wpAny_forIn_list _ (fun todo st s' => s' = s ∧ st = (none, ()) ∧ ∃ i, i ≤ ea.size ∧ todo = List.range' i (ea.size - i)) _ ?_ ?_ _ _ ⟨rfl, rfl, 0, Nat.zero_le _, by simp⟩
  · rintro x todo st s' ⟨rfl, rfl, i, hi, hx⟩
    have il : i < ea.size := Classical.byContradiction fun q => by
      rw [Nat.sub_eq_zero_of_le (by omega)] at hx
      cases hx
    rw [show ea.size - i = (ea.size - (i + 1)) + 1 by omega, List.range'_succ] at hx
    injection hx with e1 e2
    subst e1
    have xl : x < ka.length := la ▸ il
    have hex : ea[x]? = some (entryOfKey knd ka[x]) := by rw [entry_at hka, List.getElem?_eq_getElem xl]; rfl
    obtain ⟨j0, p0, hj0, heq⟩ := hit ka[x] (List.getElem_mem xl)
    refine wpAny_bind (wpAny_dictEntries hoa hda ?_)
    rw [hex]
    refine wpAny_bind (wpAny_holding (wpAny_bind (wpAny_dictFind_heap hr (hisa _ (List.getElem_mem xl)) hob hdb hkb hisb hnb (fun no => (no j0 p0 hj0).elim) fun j p hj => ?_)))
    have epp : p = p0 := by
      have m1 := List.getElem?_eq_some_iff.mp hj
      have m2 := List.getElem?_eq_some_iff.mp hj0
      obtain ⟨l1, q1⟩ := m1
      obtain ⟨l2, q2⟩ := m2
      have : j = j0 := (List.getElem_inj (i := j) (j := j0) (h₀ := by rw [List.length_map]; exact l1) (h₁ := by rw [List.length_map]; exact l2) hnb).mp (by rw [List.getElem_map, List.getElem_map, q1, q2])
      subst this
      rw [q1] at q2
      exact congrArg Prod.snd q2
    subst epp
    refine wpAny_bind (wpAny_dictEntries hob hdb ?_)
    have hey : eb[j]? = some (entryOfKey knd (ka[x].1, p)) := by rw [entry_at hkb, hj]; rfl
    rw [hey]
    refine wpAny_holding (heq _ _ ?_)
    show wpAny _ _ (if (!true) = true then _ else _) _ _ _
    rw [if_neg (by decide)]
    refine wpAny_bind (wpAny_dictEpoch hoa hda ?_)
    rw [if_neg (by simp)]
    exact wpAny_pure ⟨rfl, rfl, x + 1, il, e2⟩
  · rintro st s' ⟨rfl, rfl, i, hi, hx⟩
    exact wpAny_pure z
end
end YQ
namespace Y
open PySem PySem.Spec PyProof.Rows L2
/-! ### the same over the abstract heap -/
/-- rows of equal things; dicts with equal things at the same keys -/
def EqR2 (K : PySem.W.Frag) (H : Hp) (F : V → V → Prop) (x y : V) : Prop :=
  (∃ a b xs ys, x = .ref a ∧ y = .ref b ∧ SqL K H a xs ∧ SqL K H b ys ∧ Paired F xs ys) ∨ (∃ a b xs ys, x = .ref a ∧ y = .ref b ∧ SqT K H a xs ∧ SqT K H b ys ∧ Paired F xs ys) ∨
    (∃ a b ks ls, x = .ref a ∧ y = .ref b ∧ H a = some (.dK ks) ∧ H b = some (.dK ls) ∧ ks.length = ls.length ∧ ∀ p ∈ ks, ∃ u, valV ls p.1 = some u ∧ F p.2 u) ∨
    ∃ a b ks ls, x = .ref a ∧ y = .ref b ∧ H a = some (.dT ks) ∧ H b = some (.dT ls) ∧ ks.length = ls.length ∧ ∀ p ∈ ks, ∃ u, valV ls p.1 = some u ∧ F p.2 u
/-- equal, nested below n -/
def EqW (K : PySem.W.Frag) (H : Hp) : Nat → V → V → Prop
  | 0 => fun _ _ => False
  | n + 1 => fun x y => (x = y ∧ flatB x = true) ∨ (∃ a, x = .ref a ∧ y = .ref a) ∨ EqR2 K H (EqW K H n) x y
section
variable {X : Cx} {pins : List (Addr × Obj)} {σ : L2.St} {H : Hp} {s : Shared} {A : Around}
theorem allEq_of {F : V → V → Prop} (ih : ∀ x y v u, F x y → RelV x v → RelV y u → SeqAt.EqP X.prog X.w A.in1 s v u true) {xs ys : List V} {us ws : List Value} (hp : Paired F xs ys) (r1 : Vals xs us) (r2 : Vals ys ws) : us.toArray.size = ws.toArray.size ∧ YQ.AllEq X.prog X.w A s us.toArray ws.toArray := by
  refine ⟨by rw [List.size_toArray, List.size_toArray, ← r1.length, ← r2.length]; exact Paired.length hp, fun j h1 h2 => ?_⟩
  have := items_run ih hp r1 r2 j (by simpa using h1) (by simpa using h2)
  simpa using this
theorem same_dK (I : Inv X pins σ H s) {F : V → V → Prop} {a b : Addr} {ks ls : List (Key × V)} (ih : ∀ x y v u, F x y → RelV x v → RelV y u → SeqAt.EqP X.prog X.w A s v u true) (ha : H a = some (.dK ks)) (hb : H b = some (.dK ls)) (hl : ks.length = ls.length) (hp : ∀ p ∈ ks, ∃ u, valV ls p.1 = some u ∧ F p.2 u) :
    (s.TypeIs (.ref a) "dict" ∧ s.TypeIs (.ref b) "dict") ∧ ∀ (nm : String) (E : Value → Shared → Prop) (Q : Bool → Shared → Prop), Q true s → wpAny (model X.prog X.w) A (Builtin.Dict.samePairs nm a b) Q E s := by
  obtain ⟨_, ya, va, ra, da⟩ := dk_of I.hok ha
  obtain ⟨_, yb, vb, rb, db⟩ := dk_of I.hok hb
  refine ⟨⟨da.typeIs, db.typeIs⟩, fun nm E Q q => PySem.W.samePairsP (r := true) ya yb da db (fun _ => hits_run ih rb ra hp) ?_⟩
  have e : va.length = vb.length := by rw [← ra.length, ← rb.length]; exact hl
  rw [e]
  simpa using q
theorem paired_get {α β : Type} {R : α → β → Prop} : ∀ {xs : List α} {ys : List β}, Paired R xs ys → ∀ {i : Nat} (h1 : i < xs.length) (h2 : i < ys.length), R xs[i] ys[i]
  | _, _, .cons h t, 0, _, _ => h
  | _, _, .cons h t, i + 1, h1, h2 => paired_get t (Nat.lt_of_succ_lt_succ h1) (Nat.lt_of_succ_lt_succ h2)
theorem atKey_some {κ α : Type} [DecidableEq κ] {xs : List (κ × α)} {k : κ} {p : α} (h : (xs.find? fun x => decide (x.1 = k)).map (·.2) = some p) : ∃ j : Nat, xs[j]? = some (k, p) := by
  obtain ⟨x, hx, rfl⟩ := Option.map_eq_some_iff.mp h
  obtain ⟨j, hj, e⟩ := List.getElem_of_mem (List.mem_of_find?_eq_some hx)
  have h1 := List.find?_some hx
  rw [decide_eq_true_eq] at h1
  exact ⟨j, by rw [List.getElem?_eq_getElem hj, e, ← h1]⟩
theorem same_dT (I : Inv X pins σ H s) {F : V → V → Prop} {a b : Addr} {ks ls : List (List Key × V)} (hr : (tupleKind (mixKind X.prog X.w)).room A) (ih : ∀ x y v u, F x y → RelV x v → RelV y u → SeqAt.EqP X.prog X.w A s v u true) (ha : H a = some (.dT ks)) (hb : H b = some (.dT ls)) (hl : ks.length = ls.length) (hp : ∀ p ∈ ks, ∃ u, valV ls p.1 = some u ∧ F p.2 u) :
    (s.TypeIs (.ref a) "dict" ∧ s.TypeIs (.ref b) "dict") ∧ ∀ (nm : String) (E : Value → Shared → Prop) (Q : Bool → Shared → Prop), Q true s → wpAny (model X.prog X.w) A (Builtin.Dict.samePairs nm a b) Q E s := by
  obtain ⟨_, ya, va, ra, da⟩ := dt_of I.hok ha
  obtain ⟨_, yb, vb, rb, db⟩ := dt_of I.hok hb
  refine ⟨⟨da.typeIs, db.typeIs⟩, fun nm E Q q => YQ.samePairsH ya yb da db hr (by rw [← Paired.length ra, ← Paired.length rb]; exact hl) (fun x hx => ?_) q⟩
  obtain ⟨i, hi, e⟩ := List.getElem_of_mem hx
  have hil : i < ks.length := by rw [Paired.length ra]; exact hi
  have hpr := paired_get ra hil hi
  rw [e] at hpr
  obtain ⟨h1, _, h3⟩ := hpr
  obtain ⟨u, hu, hF⟩ := hp ks[i] (List.getElem_mem hil)
  have rr : RelO (some u) ((atKey vb ks[i].1).map (·.2)) := by rw [← hu]; exact rb.val _
  obtain ⟨y, hy, ry⟩ := rr.some_of
  obtain ⟨q, hq, rfl⟩ := Option.map_eq_some_iff.mp hy
  obtain ⟨j, hj⟩ := atKey_some hq
  exact ⟨j, q, by rw [← h1]; exact hj, ih _ _ _ _ hF h3 ry⟩
end
section
variable {X : Cx} {pins : List (Addr × Obj)} {σ : L2.St} {H : Hp} {s : Shared}
theorem units_in1 {A : Around} : A.in1.units = A.units + 1 := rfl
theorem eqR2_run (I : Inv X pins σ H s) {A : Around} {F : V → V → Prop} (hu : A.units + 1 < cLine) (ih : ∀ x y v u, F x y → RelV x v → RelV y u → SeqAt.EqP X.prog X.w A.in1 s v u true) {x y : V} {v u : Value} (h : EqR2 X.K H F x y) (rx : RelV x v) (ry : RelV y u) (E Q : Value → Shared → Prop) :
    (Q (.bool true) s → wpAny (model X.prog X.w) A (richCompare .Eq v u) Q E s) ∧ (Q (.bool false) s → wpAny (model X.prog X.w) A (richCompare .NotEq v u) Q E s) := by
  have hu0 : A.units < cLine := by omega
  rcases h with ⟨a, b, xs, ys, rfl, rfl, ha, hb, hp⟩ | ⟨a, b, xs, ys, rfl, rfl, ha, hb, hp⟩ | ⟨a, b, ks, ls, rfl, rfl, ha, hb, hl, hp⟩ | ⟨a, b, ks, ls, rfl, rfl, ha, hb, hl, hp⟩
  all_goals
    cases (show v = Value.ref a from rx)
    cases (show u = Value.ref b from ry)
  · obtain ⟨us, r1, p1, _⟩ := I.list ha
    obtain ⟨ws, r2, p2, _⟩ := I.list hb
    obtain ⟨hsz, he⟩ := allEq_of ih hp r1 r2
    exact ⟨fun q => YQ.rcEq_list p1.isList p2.isList hsz hu0 he E Q q, fun q => YQ.rcNe_list p1.isList p2.isList hsz hu0 he E Q q⟩
  · obtain ⟨us, r1, p1, _⟩ := I.tuple ha
    obtain ⟨ws, r2, p2, _⟩ := I.tuple hb
    obtain ⟨hsz, he⟩ := allEq_of ih hp r1 r2
    exact ⟨fun q => YQ.rcEq_tup p1 p2 hsz hu0 he E Q q, fun q => YQ.rcNe_tup p1 p2 hsz hu0 he E Q q⟩
  · obtain ⟨⟨ta, tb⟩, same⟩ := same_dK I ih ha hb hl hp
    exact ⟨fun q => YQ.rcEq_dict_of ta tb hu0 same E Q q, fun q => YQ.rcNe_dict_of ta tb hu0 same E Q q⟩
  · obtain ⟨⟨ta, tb⟩, same⟩ := same_dT I (tupleKind_room_in1 hu) ih ha hb hl hp
    exact ⟨fun q => YQ.rcEq_dict_of ta tb hu0 same E Q q, fun q => YQ.rcNe_dict_of ta tb hu0 same E Q q⟩
theorem EqR2.refs {K : PySem.W.Frag} {F : V → V → Prop} {x y : V} (h : EqR2 K H F x y) : ∃ a b, x = .ref a ∧ y = .ref b := by
  rcases h with ⟨a, b, _, _, e1, e2, _⟩ | ⟨a, b, _, _, e1, e2, _⟩ | ⟨a, b, _, _, e1, e2, _⟩ | ⟨a, b, _, _, e1, e2, _⟩ <;> exact ⟨a, b, e1, e2⟩
theorem eqW_run (I : Inv X pins σ H s) : ∀ (n : Nat) (A : Around), A.units + n < cLine → ∀ (x y : V) (v u : Value), EqW X.K H n x y → RelV x v → RelV y u → SeqAt.EqP X.prog X.w A s v u true
  | 0, _, _, _, _, _, _, h, _, _ => (show False from h).elim
  | n + 1, A, hu, x, y, v, u, h, rx, ry => by
    rcases h with ⟨rfl, f⟩ | ⟨a, rfl, rfl⟩ | h
    · exact (eqAt_same rx ry f).eqP
    · cases (show v = Value.ref a from rx)
      cases (show u = Value.ref a from ry)
      exact (SeqAt.EqAt.same _).eqP
    · have step := fun E Q => (eqR2_run I (A := A) (by omega) (eqW_run I n A.in1 (by rw [units_in1]; omega)) h rx ry E Q).1
      obtain ⟨a, b, rfl, rfl⟩ := h.refs
      cases (show v = Value.ref a from rx)
      cases (show u = Value.ref b from ry)
      by_cases e : a = b
      · subst e
        exact (SeqAt.EqAt.same _).eqP
      · exact SeqAt.eqP_refs e step
end
section
variable {X : Cx}
/-- x == y, x != y of equal rows, dicts or scalars -/
def rEqW (K : PySem.W.Frag) : R2 := fun x y H Q => ∃ n, n ≤ 60 ∧ (EqR2 K H (EqW K H n) x y ∨ (x = y ∧ scal x y = true)) ∧ Q (.bl true) H
def rNeW (K : PySem.W.Frag) : R2 := fun x y H Q => ∃ n, n ≤ 60 ∧ (EqR2 K H (EqW K H n) x y ∨ (x = y ∧ scal x y = true)) ∧ Q (.bl false) H
theorem op_eqW {K : PySem.W.Frag} (hK : X.K = K) (hu : X.A.units + 64 < cLine) : OpR X (compareOp .Eq) (rEqW K) := by
  subst hK
  rintro pins s σ H x y v u Q I rx ry ⟨n, hn, h | ⟨rfl, h⟩, q⟩
  · exact (eqR2_run I (A := X.A) (by omega) (eqW_run I n X.A.in1 (by rw [units_in1]; omega)) h rx ry _ _).1 ⟨.bl true, H, I, rfl, q⟩
  · exact op_eq pins s σ H x x v u Q I rx ry ⟨h, by rw [decide_eq_true rfl]; exact q⟩
theorem op_neW {K : PySem.W.Frag} (hK : X.K = K) (hu : X.A.units + 64 < cLine) : OpR X (compareOp .NotEq) (rNeW K) := by
  subst hK
  rintro pins s σ H x y v u Q I rx ry ⟨n, hn, h | ⟨rfl, h⟩, q⟩
  · exact (eqR2_run I (A := X.A) (by omega) (eqW_run I n X.A.in1 (by rw [units_in1]; omega)) h rx ry _ _).2 ⟨.bl false, H, I, rfl, q⟩
  · exact op_ne pins s σ H x x v u Q I rx ry ⟨h, by rw [decide_eq_true rfl]; exact q⟩
end
end Y

/-! ### list(reversed(x)), x a list or a tuple -/
namespace YR
open PySem PySem.Spec PySem.Calls PyProof.Rows RT
theorem slot_hint : Slot "reversed" "__length_hint__" "reversed.__length_hint__" :=
  .of (owner := "reversed") (n := "__length_hint__") (by rw [typeLookup_type, builtinLookup_eq_fast]; kernel_rfl) (by decide +kernel) (by decide +kernel) (by decide +kernel)
    (by first | exact .inl (by decide +kernel) | exact .inr (by decide +kernel)) (by rw [isSubtype_type]; kernel_rfl)
theorem entry_hint : entryFor table "reversed.__length_hint__" = some Builtin.«reversed.__length_hint__» := entryFor_of_tree (by kernel_rfl)
theorem args_hint (a : Value) : argsOk "reversed.__length_hint__" ⟨[a], []⟩ := by
  unfold argsOk
  rw [signature?_of (id := "reversed.__length_hint__") (n := ['_', '_', 't', 'n', 'i', 'h', '_', 'h', 't', 'g', 'n', 'e', 'l', '_', '_']) (o := ['d', 'e', 's', 'r', 'e', 'v', 'e', 'r']) (by kernel_rfl) owner_rt]
  kernel_rfl
theorem nolen : typeLookup (.type "reversed") "__len__" = pure none := by rw [typeLookup_type, builtinLookup_eq_fast]; kernel_rfl
section
variable {prog : Program} {w : World} {A : Around} {E : Value → Shared → Prop} {s : Shared}
theorem hint_rt {it t : Addr} {i : Int} {items : Array Value} {Q : Bool → Shared → Prop} (hit : IsRt s.heap it t i) (ht : IsTup s.heap t items) (hi : i = (items.size : Int) - 1) (hz : items.size ≤ sizeLine) (h : ∀ (b : Bool) (tk : Nat), Q b { s with toks := tk }) :
    wpAny (model prog w) A (Builtin.List.listLengthHint (.ref it)) Q E s := by
  obtain ⟨o, ho, hc, hd⟩ := id hit
  rw [sizeLine_eq] at hz
  unfold Builtin.List.listLengthHint
  refine wpAny_bind (wpAny_specialOf hit.typeIs nolen ?_)
  show wpAny _ A (specialOf (Value.ref it) (Str.ofString "__length_hint__") >>= _) _ _ _
  refine wpAny_bind (wpAny_specialOf hit.typeIs slot_hint.lookup ?_)
  generalize hid : ("reversed.__length_hint__" : String) = id0
  wp_delta
  rw [show splitId id0 = some ("reversed", "__length_hint__") from by subst hid; decide +kernel]
  subst hid
  refine wpAny_bind (wpAny_isInstance (b := true) hit.typeIs (by rw [isSubtype_type]; kernel_rfl) ?_)
  refine wpAny_ite_split (fun q => absurd q (by decide)) (fun _ => ?_)
  refine wpAny_ite_split (fun q => absurd q (by decide +kernel)) (fun _ => ?_)
  refine wpAny_bind (wpAny_rule (wpAny_bind ?_))
  rw [slot_hint.bind (.ref it)]
  refine wpAny_pure (wpAny_bind (wpAny_attempt (wpAny_call_entry slot_hint hit.typeIs entry_hint ?_ (args_hint _))))
  unfold Builtin.«reversed.__length_hint__»
  refine wpAny_bind (wpAny_of_eq (a := Value.ref it) rfl ?_)
  refine wpAny_bind (wpAny_field ho hd (x := .ref t) rfl ?_)
  refine wpAny_ite_split (fun q => absurd q (by simp)) (fun _ => ?_)
  refine wpAny_bind (len_tuple (items := items) ht (by omega) ?_)
  refine wpAny_bind (wpAny_of_eq (a := some ((items.size : Nat) : Int)) rfl ?_)
  refine wpAny_bind (wpAny_field (s := { s with toks := s.toks + 1 + 1 }) ho hd (x := rawInt i) rfl ?_)
  subst hi
  show wpAny _ _ (if ((items.size : Nat) : Int) < (items.size : Int) - 1 + 1 then _ else _) _ _ _
  rw [if_neg (by omega)]
  unfold retInt
  refine wpAny_bind (wpAny_mkInt (wpAny_pure ⟨_, rfl, ?_⟩))
  show wpAny _ _ (asInt? (Value.int _ _) >>= _) _ _ _
  refine wpAny_bind (wpAny_of_eq (a := some ((items.size : Int) - 1 + 1)) rfl ?_)
  have e1 : (!Builtin.List.listFitsIndex ((items.size : Int) - 1 + 1)) = false := by
    unfold Builtin.List.listFitsIndex
    simp
    omega
  have e2 : Builtin.List.listTooLong ((items.size : Int) - 1 + 1).toNat = false := by
    unfold Builtin.List.listTooLong
    rw [sizeLine_eq]
    exact decide_eq_false (by omega)
  show wpAny _ _ (if (!Builtin.List.listFitsIndex ((items.size : Int) - 1 + 1)) = true then _ else if ((items.size : Int) - 1 + 1) < 0 then _ else if Builtin.List.listTooLong ((items.size : Int) - 1 + 1).toNat = true then _ else pure (((items.size : Int) - 1 + 1) != 0)) _ _ _
  rw [e1, e2, if_neg Bool.false_ne_true, if_neg (by omega), if_neg Bool.false_ne_true]
  exact wpAny_pure (h _ _)
end
section
variable {prog : Program} {w : World} {A : Around} {E : Value → Shared → Prop} {s : Shared} {T : String} {J : Addr} {fp wr : List Addr} {n : Nat} {P : Nat → Value → Prop} {St : Nat → Heap → Prop}
/-- list(an iterator that stands), from its start -/
theorem list_iter {Q : Value → Shared → Prop} (W : Walks prog w A.in1.in1 J fp wr n P St) (hT : ∀ (z : Shared) i, St i z.heap → z.TypeIs (.ref J) T) (n1 : (Value.type T == Value.type "list") = false) (n2 : (Value.type T == Value.type "tuple") = false)
    (hint : ∀ (z : Shared) (Q : Bool → Shared → Prop) (E : Value → Shared → Prop), St 0 z.heap → (∀ b tk, Q b { z with toks := tk }) → wpAny (model prog w) A.in1.in1 (Builtin.List.listLengthHint (.ref J)) Q E z) (st : St 0 s.heap) (hJ : J ∈ fp) (hfp : ∀ b ∈ fp, b < s.heap.objs.size) (hn : n ≤ sizeLine)
    (hQ : ∀ h' tk acc c, (∀ b o, b ∉ wr → s.heap.get? b = some o → h'.get? b = some o) → h'.get? s.heap.objs.size = some { cls := .type "list", dict := none, data := .seq acc c, slots := #[] } → ItemsOf P acc n → Q (.ref s.heap.objs.size) { s with heap := h', toks := tk }) :
    wpAny (model prog w) A (call (.type "list") [.ref J]) Q E s := by
  obtain ⟨S, hS⟩ : ∃ S, s.heap.objs.size = S := ⟨_, rfl⟩
  rw [hS] at hQ
  have nf : S ∉ fp := fun z => Nat.lt_irrefl S (by have := hfp S z; rwa [hS] at this)
  refine callType_codes (Q₁ := fun o z => o = .ref S ∧ z = { s with heap := s.heap.push { cls := .type "list", data := .seq #[] } }) F.called_list (F.typeCall_list_1 _) F.entry_list_init
    (code_list_new _ ⟨by rw [hS], rfl⟩) ?_
  rintro _ _ ⟨rfl, rfl⟩
  have g1 : (s.heap.push { cls := .type "list", data := .seq #[] }).get? S = some { cls := .type "list", data := .seq #[] } := by rw [← hS]; exact Heap.get?_push_size _ rfl
  have st1 : St 0 (s.heap.push { cls := .type "list", data := .seq #[] }) := W.frame 0 _ _ st fun b _ o e => Heap.get?_push_of_some _ e
  have old1 : ∀ b o, s.heap.get? b = some o → (s.heap.push { cls := .type "list", data := .seq #[] }).get? b = some o := fun b o e => Heap.get?_push_of_some _ e
  have ltS : ∀ b o, s.heap.get? b = some o → b ≠ S := fun b o e z => Nat.lt_irrefl S (by have := Heap.lt_size e; rwa [hS, z] at this)
  generalize s.heap.push { cls := .type "list", data := .seq #[] } = h1 at g1 st1 old1 ⊢
  refine ⟨⟨_, g1, rfl⟩, F.args_list_init_2 _ _, ?_⟩
  show wpAny _ _ (do let old ← Builtin.List.listItems (.ref S); Builtin.List.listUpdate (.ref S) (fun _ => #[]); letGo old.toList.reverse; Builtin.List.listExtendWith (.ref S) (.ref J) .none) _ _ _
  unfold Builtin.List.listItems
  refine wpAny_bind (wpAny_bind (wpAny_seqItems g1 rfl (wpAny_pure ?_)))
  refine wpAny_bind (wpAny_updateSeq g1 rfl ?_)
  have g2 := Heap.get?_update_self (Obj.mapSeq (fun _ => (#[] : Array Value))) g1 rfl
  have old2 : ∀ b o, b ≠ S → h1.get? b = some o → (h1.update S (Obj.mapSeq (fun _ => (#[] : Array Value)))).get? b = some o := fun b o nb e => (Heap.get?_update_other _ _ (Ne.symm nb)).trans e
  have st2 := W.frame 0 _ _ st1 fun b hb o e => old2 b o (fun z => nf (z ▸ hb)) e
  generalize h1.update S (Obj.mapSeq (fun _ => (#[] : Array Value))) = h2 at g2 old2 st2 ⊢
  refine wpAny_bind (wpAny_letGo ?_)
  have fin : ∀ (h3 : Heap) (c₁ tk : Nat), St 0 h3 → (∀ b o, b ≠ S → h2.get? b = some o → h3.get? b = some o) → h3.get? S = some { cls := .type "list", data := .seq #[] c₁ } →
      codeAny (model prog w) A.in1 (.builtin "list.extend.loop" ⟨[.ref S, .ref J, .none], []⟩) (wants (fun r z => r = .none ∧ Q (.ref S) z) E) { s with heap := h3, toks := tk } := by
    intro h3 c₁ tk st3 old3 g3
    refine codeAny_extend_loopS W.toS hn S nf .none n 0 _ #[] c₁ rfl (Nat.zero_le _) st3 g3 (ItemsOf.nil _) fun z acc c hm hz hacc => ⟨rfl, ?_⟩
    rw [Moved.eq_with hm]
    refine hQ z.heap z.toks acc c (fun b o hb e => hm.heap b o (fun hw => ?_) (old3 b o (ltS b o e) (old2 b o (ltS b o e) (old1 b o e)))) hz hacc
    rcases List.mem_cons.mp hw with e2 | e2
    · exact ltS b o e e2
    · exact hb e2
  unfold Builtin.List.listExtendWith
  refine wpAny_bind (wpAny_typeOf (hT _ 0 st2) ?_)
  have d1 : Builtin.List.listSameRef (.ref S) (.ref J) = false := by
    have : S ≠ J := fun z => nf (z ▸ hJ)
    simp [Builtin.List.listSameRef, this]
  simp only [d1, n1, n2, Bool.or_false, Bool.false_eq_true, if_false]
  refine wpAny_bind (W.self 0 _ _ _ st2 (wpAny_bind (wpAny_holding (hint _ _ _ st2 fun b tk => ?_))))
  refine wpAny_ite_split (fun _ => ?_) (fun _ => wpAny_pure ⟨plainId_quiet F.plain_extend_loop _, fin _ _ _ st2 (fun _ _ _ e => e) g2⟩)
  refine wpAny_bind (wpAny_rule (wpAny_bind ?_))
  show wpAny _ _ (updateSeq S (·.push .none) >>= fun _ => updateSeq S (·.pop)) _ _ _
  refine wpAny_bind (wpAny_updateSeq g2 rfl ?_)
  have g3 := Heap.get?_update_self (Obj.mapSeq (·.push Value.none)) g2 rfl
  refine wpAny_updateSeq (hz := by seq_fits) g3 rfl ?_
  have g4 := Heap.get?_update_self (Obj.mapSeq (·.pop)) g3 rfl
  refine wpAny_pure ⟨plainId_quiet F.plain_extend_loop _, fin _ _ _ (W.frame 0 _ _ st2 fun b hb o e => ?_) (fun b o nb e => ?_) g4⟩
  · have nb : b ≠ S := fun z => nf (z ▸ hb)
    exact (Heap.get?_update_other _ _ (Ne.symm nb)).trans ((Heap.get?_update_other _ _ (Ne.symm nb)).trans e)
  · exact (Heap.get?_update_other _ _ (Ne.symm nb)).trans ((Heap.get?_update_other _ _ (Ne.symm nb)).trans e)
end
end YR
namespace YR
open PySem PySem.Spec PySem.Calls PyProof.Rows RT L2
section
variable {prog : Program} {w : World} {A : Around} {E : Value → Shared → Prop} {s : Shared}
/-- the walk of reversed(a tuple) -/
theorem walks_rt {J t : Addr} {items : Array Value} (hh : A.handled = none) (hne : t ≠ J) (hz : items.size ≤ sizeLine) :
    Walks prog w A J [J, t] [J] items.size (fun i v => items[items.size - 1 - i]? = some v) (fun i h => i ≤ items.size ∧ IsRt h J t ((items.size : Int) - 1 - (i : Int)) ∧ IsTup h t items) where
  sub := by simp
  frame := fun i h h' ⟨a, b, c⟩ k => ⟨a, b.at fun o e => k J (by simp) o e, by
    obtain ⟨o, ho, r⟩ := c
    exact ⟨o, k t (by simp) o ho, r⟩⟩
  item := fun i s Q E hi ⟨a, b, c⟩ hQ => by
    have e1 : (items.size : Int) - 1 - (i : Int) = ((items.size - 1 - i : Nat) : Int) := by omega
    rw [e1] at b
    have hx : items[items.size - 1 - i]? = some items[items.size - 1 - i] := by simp [show items.size - 1 - i < items.size by omega]
    refine next_rt_item b c hx hz fun h' b' sb => hQ _ h' _ hx ⟨hi, ?_, ?_⟩ fun q o hq e => (sb.2 q (by simpa using hq)).trans e
    · have e2 : ((items.size - 1 - i : Nat) : Int) - 1 = (items.size : Int) - 1 - ((i + 1 : Nat) : Int) := by omega
      rw [← e2]
      exact b'
    · obtain ⟨o, ho, r⟩ := c
      exact ⟨o, (sb.2 t hne).trans ho, r⟩
  done := fun s Q E ⟨a, b, c⟩ hQ => by
    rw [show (items.size : Int) - 1 - (items.size : Int) = -1 by omega] at b
    exact next_rt_end hh b fun h' eb => hQ h' s.toks fun q o hq e => eb q o (by simpa using hq) e
  self := fun i s Q E ⟨a, b, c⟩ hQ => iter_rt b hQ
theorem hint_lr {J l : Addr} {i : Int} {Q : Bool → Shared → Prop} (hit : s.heap.IsRevIter J l i) (h : Q false s) : wpAny (model prog w) A (Builtin.List.listLengthHint (.ref J)) Q E s := by
  have hT : s.TypeIs (.ref J) "list_reverseiterator" := hit.typeIs
  unfold Builtin.List.listLengthHint
  refine wpAny_bind (wpAny_specialOf hT nolen_lri ?_)
  show wpAny _ A (specialOf (Value.ref J) (Str.ofString "__length_hint__") >>= _) _ _ _
  refine wpAny_bind (wpAny_specialOf hT hint_lri ?_)
  generalize hid : ("list_reverseiterator.__length_hint__" : String) = id0
  wp_delta
  rw [show splitId id0 = some ("list_reverseiterator", "__length_hint__") from by subst hid; decide +kernel]
  subst hid
  refine wpAny_bind (wpAny_isInstance (b := true) hT (by rw [isSubtype_type]; kernel_rfl) (wpAny_pure h))
end
end YR
namespace Y
open PySem PySem.Spec PySem.Calls PyProof.Rows L2 RT
/-- list(reversed(x)) -/
def rListRev (K : PySem.W.Frag) : V → Hp → VK → Prop := fun x H Q => ∃ (a : Addr) (xs : List V), x = .ref a ∧ (SqL K H a xs ∨ SqT K H a xs) ∧ ∀ p, H p = none → Q (.ref p) (upd H p (.lst xs.reverse))
def tListRev (K : PySem.W.Frag) (te : TE) : TE := fun σ H Q => te σ H fun x H1 => rListRev K x H1 Q
theorem pe_listRev {X : Cx} {K : PySem.W.Frag} {e : Expr} {te : TE} {p p2 pos pos2 : Pos} (hK : X.K = K) (hc : X.calm = true) (hg : Gl X "list") (hm : X.mg "list" = none) (hg2 : Gl X "reversed") (hm2 : X.mg "reversed" = none) (he : PE X e te) (hv : bootBuiltins "list" = some (.type "list") := by decide +kernel)
    (hs : starEach [e] X.env = (false, eval e X.env) :: starEach [] X.env := by rfl)
    (hs2 : starEach [.Call (.Name "reversed" p2) [e] [] pos2] X.env = (false, eval (.Call (.Name "reversed" p2) [e] [] pos2) X.env) :: starEach [] X.env := by rfl) :
    PE X (.Call (.Name "list" p) [.Call (.Name "reversed" p2) [e] [] pos2] [] pos) (tListRev K te) := by
  subst hK
  refine ⟨fun pins s σ H Q I h => ?_⟩
  refine Call_ (ld_blt I hg hm hv (PyProof.Rows.callWith_type1 (args_cons (Call_ (ld_blt I hg2 hm2 PyProof.Rows.boot_reversed (PyProof.Rows.callWith_type1 (args_cons (thn (he.run pins s σ H _ I h) fun u s1 ⟨x, H1, I1, rx, q1⟩ => args_nil ?_) hs) hs rfl))) hs2) hs2 rfl))
  obtain ⟨a, xs, ex, hsq, q⟩ := q1
  subst ex
  obtain rfl : u = Value.ref a := rx
  generalize hJ : s1.heap.objs.size = J
  have fJ : FpOk X pins H1 J := I1.fpOk (H' := H1) (by rw [hJ]; exact Nat.le_refl _) (I1.hok.fresh (by rw [hJ]; exact Nat.le_refl _))
  have fin : ∀ {s2 : Shared} {its : List Value} {h' : Heap} {tk c : Nat} {acc : Array Value}, Inv X pins σ H1 s2 → Vals xs its → xs.length ≤ sizeLine → (∀ b o, b ∉ [J] → s2.heap.get? b = some o → h'.get? b = some o) →
      h'.get? s2.heap.objs.size = some { cls := .type "list", dict := none, data := .seq acc c, slots := #[] } → ItemsOf (fun i v => its.toArray[its.toArray.size - 1 - i]? = some v) acc its.toArray.size → EP X pins σ Q (.ref s2.heap.objs.size) { s2 with heap := h', toks := tk } := by
    intro s2 its h' tk c acc I2 rv hz hk hg hi
    refine ⟨.ref _, upd H1 _ (.lst xs.reverse), I2.turnedNew (t' := tk) (ch := [J]) (fun b o hb e => hk b o hb e) (fun b hb => by simp at hb; subst hb; exact fJ) (Nat.le_refl _) (show ObjOk X.prog X.w _ _ _ (.lst xs.reverse) from ⟨by rw [List.length_reverse]; exact hz, acc.toList, c, vals_rev rv hi, ?_⟩), rfl, q _ (I2.hok.fresh (Nat.le_refl _))⟩
    rw [Array.toArray_toList]
    exact hg
  rcases hsq with hsq | hsq
  · obtain ⟨its, rv, p', hz⟩ := I1.list hsq
    have hl := p'.isList
    obtain ⟨ol, hol, _⟩ := id hl
    have hne : a ≠ J := by rw [← hJ]; exact Nat.ne_of_lt (Heap.lt_size hol)
    refine call_reversed_list hl (args_nil ?_)
    have I2 : Inv X pins σ H1 { s1 with heap := s1.heap.push (revObj a ((its.toArray.size : Int) - 1)) } := I1.kept (t' := s1.toks) fun b o e => Heap.get?_push_of_some _ e
    have hn : its.toArray.size ≤ sizeLine := by rw [List.size_toArray, ← rv.length]; exact hz
    rw [hJ]
    refine YR.list_iter (T := "list_reverseiterator") (Walks.listRev (A := X.A.in1.in1) (show X.A.in1.in1.handled = none from I1.ok.hd hc) J a hne its.toArray) (fun z i st => st.2.1.typeIs) (by decide) (by decide) (fun z Q E st h => YR.hint_lr st.2.1 (h false z.toks)) ⟨Nat.zero_le _, ⟨_, by rw [← hJ]; exact Heap.get?_push_size _ rfl, rfl, by simp [revObj]⟩, hl.push _⟩ (by simp) (fun b hb => ?_) hn (fun h' tk acc c hk hg hi => fin I2 rv hz hk hg hi)
    rw [Heap.size_push]
    simp only [List.mem_cons, List.not_mem_nil, or_false] at hb
    rcases hb with rfl | rfl
    · exact hJ ▸ Nat.lt_succ_self _
    · exact Nat.lt_succ_of_lt (Heap.lt_size hol)
  · obtain ⟨its, rv, p', hz⟩ := I1.tuple hsq
    have hl : IsTup s1.heap a its.toArray := p'
    obtain ⟨ol, hol, _⟩ := id hl
    have hne : a ≠ J := by rw [← hJ]; exact Nat.ne_of_lt (Heap.lt_size hol)
    have hn : its.toArray.size ≤ sizeLine := by rw [List.size_toArray, ← rv.length]; exact hz
    have ln := hn
    rw [sizeLine_eq] at ln
    refine call_reversed_tup hl (fun A E Q k => len_tuple hl (by omega) k) (args_nil ?_)
    have I2 : Inv X pins σ H1 { s1 with heap := s1.heap.push (rtObj a ((its.toArray.size : Int) - 1)), toks := s1.toks + 1 + 1 } := I1.kept (t' := s1.toks + 1 + 1) fun b o e => Heap.get?_push_of_some _ e
    rw [hJ]
    refine YR.list_iter (T := "reversed") (YR.walks_rt (A := X.A.in1.in1) (show X.A.in1.in1.handled = none from I1.ok.hd hc) hne hn) (fun z i st => st.2.1.typeIs) (by decide) (by decide) (fun z Q E st h => YR.hint_rt st.2.1 st.2.2 (by simp) hn h) ⟨Nat.zero_le _, ⟨_, by rw [← hJ]; exact Heap.get?_push_size _ rfl, rfl, by simp [rtObj]⟩, ?_⟩ (by simp) (fun b hb => ?_) hn (fun h' tk acc c hk hg hi => fin I2 rv hz hk hg hi)
    · obtain ⟨o, ho, r⟩ := hl
      exact ⟨o, Heap.get?_push_of_some _ ho, r⟩
    · rw [show (Shared.heap { s1 with heap := s1.heap.push (rtObj a ((its.toArray.size : Int) - 1)), toks := s1.toks + 1 + 1 }) = s1.heap.push (rtObj a ((its.toArray.size : Int) - 1)) from rfl, Heap.size_push]
      simp only [List.mem_cons, List.not_mem_nil, or_false] at hb
      rcases hb with rfl | rfl
      · exact hJ ▸ Nat.lt_succ_self _
      · exact Nat.lt_succ_of_lt (Heap.lt_size hol)
end Y
namespace Y
open PySem PySem.Spec PyProof.Rows L2
section
variable {K : PySem.W.Frag} {σ : L2.St} {G H : Hp} {Q : VK} {te : TE} {x : V} {ds : List PyData} {p : Addr}
theorem g_lrev (q : te σ H fun x H1 => rListRev K x H1 Q) : tListRev K te σ H Q := q
theorem dpAll_rev : ∀ {vs : List V} {ds : List PyData}, DpAll K G vs ds → DpAll K G vs.reverse ds.reverse
  | _, _, .nil => .nil
  | _, _, .cons a t => by
    rw [List.reverse_cons, List.reverse_cons]
    exact dpAll_snoc (dpAll_rev t) a
theorem g_lrevT (e : Ex G H) (h : Dp K G x (.tuple ds)) (q : ∀ p H', Nx [] G H G H' → H p = none → LstAt K p G H' ds.reverse → Q (.ref p) H') : rListRev K x H Q := by
  obtain ⟨a, xs, rfl, hs, hd⟩ := dp_tup h
  exact ⟨a, xs, rfl, .inr (e.seqT hs), fun p hp => q p _ (Nx.own e hp) hp ⟨_, upd_same, e.free hp, dpAll_rev hd⟩⟩
theorem g_lrevL (e : Ex G H) (h : Dp K G x (.list ds)) (q : ∀ p H', Nx [] G H G H' → H p = none → LstAt K p G H' ds.reverse → Q (.ref p) H') : rListRev K x H Q := by
  obtain ⟨a, xs, rfl, hs, hd⟩ := dp_lst h
  exact ⟨a, xs, rfl, .inl (e.seqL hs), fun p hp => q p _ (Nx.own e hp) hp ⟨_, upd_same, e.free hp, dpAll_rev hd⟩⟩
theorem g_lrevLs (e : Ex G H) (h : LstAt K p G H ds) (q : ∀ p H', Nx [] G H G H' → H p = none → LstAt K p G H' ds.reverse → Q (.ref p) H') : rListRev K (.ref p) H Q := by
  obtain ⟨xs, hs, g, hd⟩ := h
  exact ⟨p, xs, rfl, .inl (.of hs), fun p hp => q p _ (Nx.own e hp) hp ⟨_, upd_same, e.free hp, dpAll_rev hd⟩⟩
end
end Y

namespace Y
open PySem PySem.Spec PyProof.Rows L2
/-! ### equal things, told by their data -/
section
variable {K : PySem.W.Frag} {G H : Hp}
mutual
theorem eqW_dp : ∀ {v : V} {d : PyData}, Dp K H v d → ∀ {u : V} {n : Nat}, d.depth ≤ n → Dp K H u d → EqW K H (n + 1) v u
  | _, _, .non, u, n, _, h => .inl ⟨by cases h; rfl, rfl⟩
  | _, _, .bl b, u, n, _, h => .inl ⟨by cases h; rfl, rfl⟩
  | _, _, .int i, u, n, _, h => .inl ⟨by cases h; rfl, rfl⟩
  | _, _, .str x, u, n, _, h => .inl ⟨by cases h; rfl, rfl⟩
  | _, _, .lst hs hd, u, n, hn, h => by
    obtain ⟨b, ys, rfl, hs2, hd2⟩ := dp_lst h
    cases n with
    | zero => simp only [PyData.depth] at hn; omega
    | succ n => exact .inr (.inr (.inl ⟨_, _, _, _, rfl, rfl, hs, hs2, eqW_dpAll hd (by simp only [PyData.depth] at hn; omega) hd2⟩))
  | _, _, .tup hs hd, u, n, hn, h => by
    obtain ⟨b, ys, rfl, hs2, hd2⟩ := dp_tup h
    cases n with
    | zero => simp only [PyData.depth] at hn; omega
    | succ n => exact .inr (.inr (.inr (.inl ⟨_, _, _, _, rfl, rfl, hs, hs2, eqW_dpAll hd (by simp only [PyData.depth] at hn; omega) hd2⟩)))
theorem eqW_dpAll : ∀ {vs : List V} {ds : List PyData}, DpAll K H vs ds → ∀ {us : List V} {n : Nat}, PyData.depthAll ds ≤ n → DpAll K H us ds → Paired (EqW K H (n + 1)) vs us
  | _, _, .nil, us, n, _, h => by cases h; exact .nil
  | _, _, .cons a t, us, n, hn, h => by
    cases h with
    | cons b t2 =>
      simp only [PyData.depthAll] at hn
      exact .cons (eqW_dp a (by omega) b) (eqW_dpAll t (by omega) t2)
end
theorem EqW.same {n : Nat} {v : V} (h : flatB v = true) : EqW K H (n + 1) v v := .inl ⟨rfl, h⟩
theorem EqW.r {n : Nat} {v u : V} (h : EqR2 K H (EqW K H n) v u) : EqW K H (n + 1) v u := .inr (.inr h)
/-- two dicts of the same data -/
theorem eqR_dct {a b : Addr} {md : List (Key × PyData)} {n : Nat} (e : Ex G H) (r1 : DctAt K a G H md) (r2 : DctAt K b G H md) (hnd : (md.map (·.1)).Nodup) (hd : ∀ x ∈ md, x.2.depth ≤ n) : EqR2 K H (EqW K H (n + 1)) (.ref a) (.ref b) := by
  obtain ⟨ks, h1, _, k1, d1⟩ := r1
  obtain ⟨ls, h2, _, k2, d2⟩ := r2
  have l1 : ks.length = md.length := by simpa using congrArg List.length k1
  have l2 : ls.length = md.length := by simpa using congrArg List.length k2
  refine .inr (.inr (.inl ⟨a, b, ks, ls, rfl, rfl, h1, h2, by omega, fun p hp => ?_⟩))
  obtain ⟨i, hi, rfl⟩ := List.getElem_of_mem hp
  have him : i < md.length := by omega
  have ek : ks[i].1 = md[i].1 := by
    have := congrArg (fun l => l[i]?) k1
    simp [him, hi] at this
    exact this
  obtain ⟨x, hx, dx⟩ := dpAll_got d1 (i := i) (v := ks[i].2) (by simp [hi])
  have ex : x = md[i].2 := by simp [him] at hx; exact hx.symm
  subst ex
  have hg : gtM md ks[i].1 = some md[i].2 := by
    rw [ek]
    have key : ∀ (m : List (Key × PyData)) (i : Nat) (h : i < m.length), (m.map (·.1)).Nodup → gtM m m[i].1 = some m[i].2 := by
      intro m
      induction m with
      | nil => intro i h; simp at h
      | cons y m ih =>
        intro i h hn
        rw [List.map_cons, List.nodup_cons] at hn
        rw [gtM_cons]
        cases i with
        | zero => simp
        | succ i =>
          simp only [List.getElem_cons_succ]
          have hi2 : i < m.length := by simpa using h
          rw [if_neg (fun z => hn.1 (by rw [z]; exact List.mem_map_of_mem (List.getElem_mem hi2)))]
          exact ih i hi2 hn.2
    exact key md i him hnd
  obtain ⟨u, hu, du⟩ := (gt_rel ks[i].1 k2 d2).1 _ hg
  exact ⟨u, hu, eqW_dp (dp_mono e dx) (hd _ (List.getElem_mem him)) (dp_mono e du)⟩
theorem eqR_tup {a b : Addr} {xs ys : List V} {n : Nat} (e : Ex G H) (h1 : SqT K G a xs) (h2 : SqT K G b ys) (h : Paired (EqW K H n) xs ys) : EqR2 K H (EqW K H n) (.ref a) (.ref b) := .inr (.inl ⟨a, b, xs, ys, rfl, rfl, e.seqT h1, e.seqT h2, h⟩)
theorem g_neW {x y : V} {Q : VK} (n : Nat) (hn : n ≤ 60) (h : EqR2 K H (EqW K H n) x y) (q : Q (.bl false) H) : rNeW K x y H Q := ⟨n, hn, .inl h, q⟩
theorem g_eqW {x y : V} {Q : VK} (n : Nat) (hn : n ≤ 60) (h : EqR2 K H (EqW K H n) x y) (q : Q (.bl true) H) : rEqW K x y H Q := ⟨n, hn, .inl h, q⟩
theorem g_neWs {x : V} {Q : VK} (h : scal x x = true) (q : Q (.bl false) H) : rNeW K x x H Q := ⟨0, by omega, .inr ⟨rfl, h⟩, q⟩
theorem g_eqWs {x : V} {Q : VK} (h : scal x x = true) (q : Q (.bl true) H) : rEqW K x x H Q := ⟨0, by omega, .inr ⟨rfl, h⟩, q⟩
/-- rows that stand, of the same data -/
theorem eqR_lst {a b : Addr} {L : List PyData} {n : Nat} (e : Ex G H) (h1 : LstAt K a G H L) (h2 : LstAt K b G H L) (hd : PyData.depthAll L ≤ n) : EqR2 K H (EqW K H (n + 1)) (.ref a) (.ref b) := by
  obtain ⟨xs, x1, _, d1⟩ := h1
  obtain ⟨ys, y1, _, d2⟩ := h2
  exact .inl ⟨a, b, xs, ys, rfl, rfl, .of x1, .of y1, eqW_dpAll (dpAll_mono e d1) hd (dpAll_mono e d2)⟩
/-- items of a tuple of things that stand -/
theorem g_ixTR {Q : VK} {t : Addr} {xs : List V} {v : V} {i : Int} {k : Nat} (e : Ex G H) (h : SqT K G t xs) (hv : xs[k]? = some v) (hj : i = (k : Int)) (q : Q v H) : rIxT K (.ref t) (.int i) H Q := by
  subst hj
  exact ⟨t, xs, _, v, rfl, rfl, e.seqT h, atI_nat hv, q⟩
theorem g_lenTR {Q : VK} {t : Addr} {xs : List V} (e : Ex G H) (h : SqT K G t xs) (q : Q (.int (xs.length : Int)) H) : rLen K [.ref t] H Q := ⟨t, xs, rfl, .inr (e.seqT h), q⟩
end
end Y
namespace Y
open PySem PySem.Spec PyProof.Rows L2
/-! ### lists, known or standing -/
def LsV (K : PySem.W.Frag) (v : V) (G H : Hp) (L : List PyData) : Prop := ∃ p, v = .ref p ∧ (LstAt K p G H L ∨ Dp K G (.ref p) (.list L))
section
variable {K : PySem.W.Frag} {G H G' H' : Hp} {L : List PyData} {v : V} {p : Addr} {M : List Addr} {Q : VK} {t : Addr} {xs : List V}
theorem LstAt.lsv (r : LstAt K p G H L) : LsV K (.ref p) G H L := ⟨p, rfl, .inl r⟩
theorem LsV.of (h : Dp K G v (.list L)) : LsV K v G H L := by
  obtain ⟨a, vs, rfl, _⟩ := dp_lst h
  exact ⟨a, rfl, .inr h⟩
theorem LsV.go0 (r : LsV K v G H L) (n : Nx [] G H G' H') : LsV K v G' H' L := by
  obtain ⟨p, rfl, r | r⟩ := r
  · exact ⟨p, rfl, .inl (r.go n (by simp))⟩
  · exact ⟨p, rfl, .inr (dp_mono n.gg r)⟩
theorem g_walkV0 {P : Addr → Prop} (e : Ex G H) (r : LsV K v G H L) (q : ∀ p, v = .ref p → Src K [] (Itl K p) G H L → P p) : ∃ b, v = .ref b ∧ (∃ xs, SqL K H b xs) ∧ P b := by
  obtain ⟨p, rfl, r | r⟩ := r
  · exact g_walkLs r fun S => q p rfl (S [] (by simp))
  · obtain ⟨a, xs, ea, hs, hd⟩ := dp_lst r
    cases ea
    exact ⟨p, rfl, ⟨xs, e.seqL hs⟩, q p rfl (src_lst hs hd)⟩
theorem LsV.dp (r : LsV K v G H L) (e : Ex G H) : Dp K H v (.list L) := by
  obtain ⟨p, rfl, r | r⟩ := r
  · exact r.dp e
  · exact dp_mono e r
theorem tyT (h : SqT K H t xs) : TyX K H (.ref t) (.type "tuple") := by
  rcases h with (hs | ⟨o, hs⟩) | ⟨o, its, n, hs, hc, _⟩
  · exact .base (.tup hs)
  · exact .fTuple hs
  · exact .kTuple hs hc
theorem g_isiR (e : Ex G H) (h : SqT K G t xs) (q : Q (.bl true) H) : rIsi K [.ref t, .ty "tuple"] H Q :=
  ⟨.ref t, .ty "tuple", _, _, true, rfl, .ty "tuple", tyT (e.seqT h), kit_ty (by rfl), q⟩
end
end Y

namespace Y
open PySem PySem.Spec PyProof.Rows L2
/-! ### xs[i] op= e over a list -/
def rGetL (K : PySem.W.Frag) : V → V → Hp → VK → Prop := fun o i H Q => ∃ (p : Addr) (xs : List V) (j : Nat) (v : V), o = .ref p ∧ i = .int (j : Int) ∧ SqL K H p xs ∧ xs[j]? = some v ∧ Q v H
theorem get_list {X : Cx} {K : PySem.W.Frag} (hK : X.K = K) : PGet X (rGetL K) := by
  subst hK
  rintro pins s σ H o i ov iv Q I ro ri ⟨p, xs, j, v, rfl, rfl, hs, hv, q⟩
  cases ro
  obtain ⟨t, rfl⟩ := ri
  obtain ⟨its, r, pl, hz⟩ := I.list hs
  obtain ⟨u, hu, ru⟩ := r.get hv
  have hl := r.length
  have hn := line63
  have hj : j < xs.length := (List.getElem?_eq_some_iff.mp hv).1
  exact PySem.wpAny_getItem_list pl.isList (by omega) (by omega) (by simpa using hu) ⟨v, H, I, ru, q⟩
section
variable {K : PySem.W.Frag} {σ : L2.St} {G H : Hp} {Q : VK} {D : Ends} {to ti te : TE} {p : Addr} {L : List PyData} {d : PyData} {i j : Int}
theorem g_augS {tget : V → V → Hp → VK → Prop} {tip : TIp} {tset : TSet} (q : to σ H fun o H1 => ti σ H1 fun i H2 => tget o i H2 fun x H3 => te σ H3 fun y H4 => tip x y H4 fun z H5 => tset o i z H5 fun H6 => D.nx σ H6) : tAugS to ti te tget tip tset D σ H := q
theorem g_getLs {k : Nat} (r : LstAt K p G H L) (hi : L[k]? = some d) (hj : i = (k : Int)) (q : ∀ v, Dp K G v d → Q v H) : rGetL K (.ref p) (.int i) H Q := by
  obtain ⟨xs, h, g, da⟩ := r
  obtain ⟨v, hv, dv⟩ := dpAll_get da hi
  subst hj
  exact ⟨p, xs, k, v, rfl, rfl, .of h, hv, q v dv⟩
theorem g_ipI {f : Int → Int → Int} (q : Q (.int (f i j)) H) : ipI f (.int i) (.int j) H Q := ⟨i, j, rfl, rfl, q⟩
theorem g_au {i : Nat} {te : TE} {tip : TIp} {x : V} (hx : σ[i]? = some (some x)) (q : te σ H fun y H1 => tip x y H1 fun z H2 => D.nx (σ.set i (some z)) H2) : tAug i te tip D σ H := ⟨x, hx, q⟩
end
/-! ### sorted(a dict of ints), d.get(k), d.get(k, x) -/
def rSrtDI : List V → Hp → VK → Prop := fun xs H Q => ∃ (a : Addr) (kvs : List (Key × V)) (ks : List Int), xs = [.ref a] ∧ H a = some (.dK kvs) ∧ kvs.map (·.1) = ks.map Sum.inl ∧ ks.length < 64 ∧ ∀ (ys : List Int) (p : Addr), ys.Perm ks → ys.Pairwise (· ≤ ·) → H p = none → Q (.ref p) (upd H p (.lst (ys.map V.int)))
theorem call_srtDI {X : Cx} (hc : X.calm = true) : CallR X (.builtin "sorted") rSrtDI := fun pins s σ H xs us Q I r ⟨a, kvs, ks, e, h, q⟩ => call_sortedDI hc pins s σ H xs us Q I r ⟨a, kvs, ks, e, .inl h, q⟩
def DG1W (ty : TE) (σ : L2.St) (Q : VK) (x : V) (H1 : Hp) : Prop := ∃ a, x = .ref a ∧ IsD H1 a ∧ ty σ H1 fun y H2 => ∃ o, DGet H2 a y o ∧ Q (o.getD .non) H2
def DG2W (ty tx : TE) (σ : L2.St) (Q : VK) (x : V) (H1 : Hp) : Prop := ∃ a, x = .ref a ∧ IsD H1 a ∧ ty σ H1 fun y H2 => tx σ H2 fun z H3 => ∃ o, DGet H3 a y o ∧ Q (o.getD z) H3
section
variable {K : PySem.W.Frag} {σ : L2.St} {G H : Hp} {Q : VK} {td ty tx : TE} {d : Addr} {md : List (Key × PyData)} {k : Key} {y z : V}
theorem g_dg1 (q : td σ H fun x H1 => DG1W ty σ Q x H1) : tDGet1 td ty σ H Q := q
theorem g_dg2 (q : td σ H fun x H1 => DG2W ty tx σ Q x H1) : tDGet2 td ty tx σ H Q := q
theorem g_dg1W (r : DctAt K d G H md) (q : ty σ H fun y H2 => ∃ o, DGet H2 d y o ∧ Q (o.getD .non) H2) : DG1W ty σ Q (.ref d) H := by
  obtain ⟨kvs, h, _⟩ := r
  exact ⟨d, rfl, .inl ⟨kvs, .inl h⟩, q⟩
theorem g_dg2W (r : DctAt K d G H md) (q : ty σ H fun y H2 => tx σ H2 fun z H3 => ∃ o, DGet H3 d y o ∧ Q (o.getD z) H3) : DG2W ty tx σ Q (.ref d) H := by
  obtain ⟨kvs, h, _⟩ := r
  exact ⟨d, rfl, .inl ⟨kvs, .inl h⟩, q⟩
theorem g_dgR {z : V} (r : DctAt K d G H md) (hk : y = kV k) (q1 : ∀ x v, gtM md k = some x → Dp K G v x → Q v H) (q2 : gtM md k = none → Q z H) : ∃ o, DGet H d y o ∧ Q (o.getD z) H := by
  obtain ⟨kvs, h, g, he, dd⟩ := r
  refine ⟨valV kvs k, .inl ⟨kvs, k, .inl h, hk, rfl⟩, ?_⟩
  cases hg : gtM md k with
  | none =>
    rw [(gt_rel k he dd).2 hg]
    exact q2 hg
  | some x =>
    obtain ⟨v, hv, dv⟩ := (gt_rel k he dd).1 x hg
    rw [hv]
    exact q1 x v hg dv
theorem g_dgO {P : Option V → Prop} (r : DctAt K d G H md) (hk : y = kV k) (q1 : ∀ x v, gtM md k = some x → Dp K G v x → P (some v)) (q2 : gtM md k = none → P none) : ∃ o, DGet H d y o ∧ P o := by
  obtain ⟨kvs, h, g, he, dd⟩ := r
  refine ⟨valV kvs k, .inl ⟨kvs, k, .inl h, hk, rfl⟩, ?_⟩
  cases hg : gtM md k with
  | none =>
    rw [(gt_rel k he dd).2 hg]
    exact q2 hg
  | some x =>
    obtain ⟨v, hv, dv⟩ := (gt_rel k he dd).1 x hg
    rw [hv]
    exact q1 x v hg dv
end
section
variable {K : PySem.W.Frag} {G H : Hp} {Q : VK} {p : Addr} {L : List PyData} {v : V} {d : PyData} {M : List Addr} {G' H' : Hp}
/-- xs.pop() -/
theorem g_popLs (e : Ex G H) (r : LstAt K p G H (L ++ [d])) (q : ∀ v H', Dp K G v d → Nx [p] G H G H' → LstAt K p G H' L → Q v H') : rPop (.ref p) [] H Q := by
  obtain ⟨xs, h, g, da⟩ := r
  have hl := dpAll_len da
  rw [List.length_append, List.length_singleton] at hl
  obtain ⟨v, hv, dv⟩ := dpAll_get da (i := L.length) (d := d) (by simp)
  refine ⟨p, xs, v, rfl, rfl, h, by rw [hl]; simpa using hv, q v _ dv (Nx.set e g (by simp)) ⟨_, upd_same, g, ?_⟩⟩
  have := dpAll_take L.length da
  rw [List.take_left] at this
  rw [List.dropLast_eq_take, hl]
  simpa using this
theorem LsV.go (r : LsV K v G H L) (n : Nx M G H G' H') (hM : ∀ q ∈ M, v ≠ .ref q) : LsV K v G' H' L := by
  obtain ⟨p, rfl, r | r⟩ := r
  · exact ⟨p, rfl, .inl (r.go n fun z => hM p z rfl)⟩
  · exact ⟨p, rfl, .inr (dp_mono n.gg r)⟩
theorem g_lenV (e : Ex G H) (r : LsV K v G H L) (q : Q (.int (L.length : Int)) H) : rLen K [v] H Q := by
  obtain ⟨p, rfl, r | r⟩ := r
  · exact g_lenLs r q
  · exact g_lenL e r q
theorem g_ixV {i : Int} {k : Nat} (e : Ex G H) (r : LsV K v G H L) (hi : L[k]? = some d) (hj : i = (k : Int)) (q : ∀ v, Dp K G v d → Q v H) : rIxL K v (.int i) H Q := by
  obtain ⟨p, rfl, r | r⟩ := r
  · exact g_ixLs r hi hj q
  · exact g_ixL e r hi hj q
theorem g_walkVv {P : Addr → Prop} (e : Ex G H) (r : LsV K v G H L) (q : ∀ p, v = .ref p → (∀ M, (∀ q ∈ M, v ≠ .ref q) → Src K M (Itl K p) G H L) → P p) : ∃ b, v = .ref b ∧ (∃ xs, SqL K H b xs) ∧ P b := by
  obtain ⟨p, rfl, r | r⟩ := r
  · exact g_walkLs r fun S => q p rfl fun M hM => S M fun z => hM p z rfl
  · obtain ⟨a, xs, ea, hs, hd⟩ := dp_lst r
    cases ea
    exact ⟨p, rfl, ⟨xs, e.seqL hs⟩, q p rfl fun M _ => src_lst hs hd⟩
theorem g_walkEv {P : Addr → Prop} (e : Ex G H) (r : LsV K v G H L) (q : ∀ p, v = .ref p → (∀ M, (∀ q ∈ M, v ≠ .ref q) → Src K M (Ite K p) G H (prs 0 L)) → P p) : ∃ a xs, [v] = [V.ref a] ∧ SqL K H a xs ∧ P a := by
  obtain ⟨p, rfl, r | r⟩ := r
  · exact g_walkEs r fun S => q p rfl fun M hM => S M fun z => hM p z rfl
  · exact g_walkE e r fun a ea S => by cases ea; exact q p rfl fun M _ => S M
theorem g_walkVv0 {G0 H0 : Hp} {P : Addr → Prop} (r : LsV K v G0 H0 L) (n : Nx [] G0 H0 G H) (q : ∀ p, v = .ref p → (∀ M, (∀ q ∈ M, H0 q = none ∨ v ≠ .ref q) → Src K M (Itl K p) G H L) → P p) : ∃ b, v = .ref b ∧ (∃ xs, SqL K H b xs) ∧ P b := by
  obtain ⟨p, rfl, r | r⟩ := r
  · exact g_walkLs (r.go n (by simp)) fun S => q p rfl fun M hM => S M fun z => by
      rcases hM p z with h | h
      · exact r.live h
      · exact h rfl
  · obtain ⟨a, xs, ea, hs, hd⟩ := dp_lst (dp_mono n.gg r)
    cases ea
    exact ⟨p, rfl, ⟨xs, n.gh.seqL hs⟩, q p rfl fun M _ => src_lst hs hd⟩
theorem g_walkEv0 {G0 H0 : Hp} {P : Addr → Prop} (r : LsV K v G0 H0 L) (n : Nx [] G0 H0 G H) (q : ∀ p, v = .ref p → (∀ M, (∀ q ∈ M, H0 q = none ∨ v ≠ .ref q) → Src K M (Ite K p) G H (prs 0 L)) → P p) : ∃ a xs, [v] = [V.ref a] ∧ SqL K H a xs ∧ P a := by
  obtain ⟨p, rfl, r | r⟩ := r
  · exact g_walkEs (r.go n (by simp)) fun S => q p rfl fun M hM => S M fun z => by
      rcases hM p z with h | h
      · exact r.live h
      · exact h rfl
  · exact g_walkE n.gh (dp_mono n.gg r) fun a ea S => by cases ea; exact q p rfl fun M _ => S M
theorem g_listV (e : Ex G H) (r : LsV K v G H L) (q : ∀ p H', Nx [] G H G H' → H p = none → LstAt K p G H' L → Q (.ref p) H') : rListOf K [v] H Q := by
  obtain ⟨p, rfl, r | r⟩ := r
  · exact g_listL e r q
  · exact g_listM e r q
end
end Y
namespace Y
open PySem PySem.Spec PyProof.Rows L2
/-- a comprehension over told items or others; the list that is made stands meanwhile -/
theorem g_lcQ {K : PySem.W.Frag} {σ : L2.St} {G H : Hp} {Q : VK} {te : TE} {tt : TT} {g : TG} {J : It} {M : List Addr} {A : Addr} {n : Nat} {P : Nat → Hp → V → Prop} {js : List Nat} (S : SrcP M J G H n P) (e : Ex G H) (hA : H A = none) (hM : ∀ b ∈ M, H b ≠ none) (hz : n < sizeLine) (Jv : Nat → List V → Hp → Hp → Prop)
    (jA : ∀ i acc G' H' o, (H' A = none ∨ ∃ ys, H' A = some (.lst ys)) → Jv i acc G' H' → Jv i acc G' (upd H' A o)) (jN : ∀ i acc G' H' G1 H1, Nx [] G' H' G1 H1 → Jv i acc G' H' → Jv i acc G1 H1) (j0 : Jv 0 [] G H)
    (hs : ∀ i v acc G' H', i < n → P i G' v → Nx M G H G' H' → H' A ≠ none → acc.length ≤ i → Jv i acc G' H' → ∀ (QE : VK) (QN : Hp → Prop),
      (∀ y G4 H4, Nx M G' H' G4 H4 → Jv (i + 1) (acc ++ [y]) G4 H4 → QE y H4) → (∀ G3 H3, Nx M G' H' G3 H3 → Jv (i + 1) acc G3 H3 → QN H3) →
      g v (wipe σ js) H' fun σ2 H2 => wipe σ2 js = wipe σ js ∧ tt σ2 H2 fun b H3 => if b = true then te σ2 H3 QE else QN H3)
    (hd : ∀ G' H' ys, Jv n ys G' H' → Nx M G H G' H' → G' A = none → H' A = some (.lst ys) → ys.length ≤ n → Q (.ref A) H') : LcW J g tt te js σ A Q H := by
  have st0 : Nx [] G H G (upd H A (.lst [])) := Nx.own e hA
  have hAM : A ∉ M := fun z => hM A z hA
  refine ⟨fun i m H' => m = n - i ∧ i ≤ n ∧ ∃ G' ys, Nx M G H G' H' ∧ G' A = none ∧ H' A = some (.lst ys) ∧ ys.length ≤ i ∧ Jv i ys G' H',
    ⟨n, by simp, Nat.zero_le _, G, [], st0.pure, e.free hA, upd_same, Nat.le_refl _, jA _ _ _ _ _ (.inl hA) j0⟩, ?_⟩
  rintro i m H' ⟨rfl, hi, G', ys, nx, gA, hys, hl, jv⟩
  by_cases hlt : i < n
  · refine .inr ⟨S.go i G' H' nx hlt, fun H'' => ∃ G'' ys, Nx M G H G'' H'' ∧ G'' A = none ∧ H'' A = some (.lst ys) ∧ ys.length ≤ i + 1 ∧ Jv (i + 1) ys G'' H'',
      fun H'' ⟨G'', ys', r⟩ => ⟨n - (i + 1), by omega, rfl, hlt, G'', ys', r⟩, fun v H1 y => ?_⟩
    obtain ⟨G1, n1, d1⟩ := S.yld i G' H' v H1 nx hlt y
    have n2 : Nx M G H G1 H1 := nx.trans n1.pure
    have gA1 : G1 A = none := n1.old A gA ⟨_, hys, fun _ z => nomatch z⟩
    have hys1 : H1 A = some (.lst ys) := n1.fr A _ (by simp) hys
    refine hs i v ys G1 H1 hlt d1 n2 (by rw [hys1]; exact fun z => nomatch z) hl (jN _ _ _ _ _ _ n1 jv) _ _ (fun y G4 H4 n4 jv' => ?_) (fun G3 H3 n3 jv' => ?_)
    · have gA4 : G4 A = none := n4.old A gA1 ⟨_, hys1, fun _ z => nomatch z⟩
      have hys4 : H4 A = some (.lst ys) := n4.fr A _ hAM hys1
      have n5 : Nx M G H G4 H4 := n2.trans n4
      have n6 : Nx [A] G4 H4 G4 (upd H4 A (.lst (ys ++ [y]))) := Nx.set n4.gh gA4 (by simp)
      have n7 : Nx (A :: M) G H G4 (upd H4 A (.lst (ys ++ [y]))) := (n5.mono fun _ z => List.mem_cons_of_mem _ z).trans (n6.mono fun b z => by simp at z; simp [z])
      exact ⟨ys, hys4, by omega, G4, ys ++ [y], n7.drop hA, gA4, upd_same, by simp; omega, jA _ _ _ _ _ (.inr ⟨_, hys4⟩) jv'⟩
    · exact ⟨G3, ys, n2.trans n3, n3.old A gA1 ⟨_, hys1, fun _ z => nomatch z⟩, n3.fr A _ hAM hys1, by omega, jv'⟩
  · have e' : i = n := by omega
    subst e'
    exact .inl ⟨S.stop _ G' H' nx (Nat.le_refl _), hd G' H' ys jv nx gA hys hl⟩
end Y
namespace Y
open PySem PySem.Spec PyProof.Rows L2
/-! ### zip of two lists, known or standing -/
def Seen (K : PySem.W.Frag) (M : List Addr) (G H : Hp) (v : V) (L : List PyData) : Prop := ∃ a xs, v = .ref a ∧ DpAll K G xs L ∧ ∀ G' H', Nx M G H G' H' → SqL K H' a xs
def zpD (L1 L2 : List PyData) : List PyData := (L1.zip L2).map fun p => .tuple [p.1, p.2]
section
variable {K : PySem.W.Frag} {G H G0 H0 : Hp} {L L1 L2 : List PyData} {v w : V} {M : List Addr}
theorem LsV.seen (r : LsV K v G0 H0 L) (n : Nx [] G0 H0 G H) (hM : ∀ q ∈ M, H0 q = none ∨ v ≠ .ref q) : Seen K M G H v L := by
  obtain ⟨p, rfl, r | r⟩ := r
  · obtain ⟨xs, h, g, d⟩ := r.go n (by simp)
    refine ⟨p, xs, rfl, d, fun G' H' n' => .of (n'.fr p _ (fun z => ?_) h)⟩
    rcases hM p z with q | q
    · exact r.live q
    · exact q rfl
  · obtain ⟨a, xs, ea, hs, hd⟩ := dp_lst (dp_mono n.gg r)
    cases ea
    exact ⟨p, xs, rfl, hd, fun G' H' n' => n'.gh.seqL (n'.gg.seqL hs)⟩
theorem g_walkZ {P : Addr → Addr → Prop} (e : Ex G H) (s1 : Seen K M G H v L1) (s2 : Seen K M G H w L2) (q : ∀ a b, Src K M (Itz K a b) G H (zpD L1 L2) → P a b) : ∃ a b xs ys, [v, w] = [V.ref a, V.ref b] ∧ SqL K H a xs ∧ SqL K H b ys ∧ P a b := by
  obtain ⟨a, xs, rfl, d1, f1⟩ := s1
  obtain ⟨b, ys, rfl, d2, f2⟩ := s2
  have l1 := dpAll_len d1
  have l2 := dpAll_len d2
  refine ⟨a, b, xs, ys, rfl, f1 _ _ (Nx.refl e), f2 _ _ (Nx.refl e), q a b ⟨fun i G' H' n hi => ?_, fun i G' H' n hi => ?_, fun i d G' H' x H'' n hi y => ?_⟩⟩
  · simp only [zpD, List.length_map, List.length_zip] at hi
    exact ⟨xs, ys, xs[i]'(by omega), ys[i]'(by omega), f1 _ _ n, f2 _ _ n, by simp, by simp⟩
  · simp only [zpD, List.length_map, List.length_zip] at hi
    refine ⟨xs, ys, f1 _ _ n, f2 _ _ n, ?_⟩
    rw [l1, l2]
    exact (by omega : L1.length ≤ i ∨ L2.length ≤ i)
  · obtain ⟨T, x1, y1, rfl, hT, rfl, g1, g2⟩ := y
    have hx := g1 _ (f1 _ _ n)
    have hy := g2 _ (f2 _ _ n)
    unfold zpD at hi
    rw [List.getElem?_map] at hi
    obtain ⟨⟨a1, b1⟩, hz, rfl⟩ := Option.map_eq_some_iff.mp hi
    obtain ⟨h1, h2⟩ := List.getElem?_zip_eq_some.mp hz
    obtain ⟨v1, hv1, dv1⟩ := dpAll_get d1 h1
    obtain ⟨v2, hv2, dv2⟩ := dpAll_get d2 h2
    rw [hx] at hv1
    rw [hy] at hv2
    cases hv1
    cases hv2
    have h2 := nx_tup (K := K) n.gh (xs := [x1, y1]) (ds := [a1, b1]) (.cons (dp_mono n.gg dv1) (.cons (dp_mono n.gg dv2) .nil)) hT
    exact ⟨_, h2.1, h2.2⟩
end
end Y
namespace Y
open PySem PySem.Spec PyProof.Rows L2
/-! ### ints of a list -/
theorem g_iZip {K : PySem.W.Frag} {ta : TA} {σ : L2.St} {H : Hp} {R : It → Hp → Prop} (q : ta σ H fun vs H1 => ∃ a b xs ys, vs = [.ref a, .ref b] ∧ SqL K H1 a xs ∧ SqL K H1 b ys ∧ R (Itz K a b) H1) : iZip K ta σ H R := q
theorem LstAt.ints {K : PySem.W.Frag} {p : Addr} {G H : Hp} {ns : List Int} (r : LstAt K p G H (ns.map .int)) : H p = some (.lst (ns.map V.int)) := by
  obtain ⟨vs, h, _, d⟩ := r
  rw [h, dpAll_ints_inv d]
theorem LsV.ints {K : PySem.W.Frag} {v : V} {G H : Hp} {ns : List Int} (r : LsV K v G H (ns.map .int)) (e : Ex G H) : ∃ p, v = .ref p ∧ SqL K H p (ns.map V.int) := by
  obtain ⟨p, rfl, r | r⟩ := r
  · exact ⟨p, rfl, .of r.ints⟩
  · obtain ⟨a, xs, ea, hs, hd⟩ := dp_lst r
    cases ea
    rw [← dpAll_ints_inv hd]
    exact ⟨p, rfl, e.seqL hs⟩
theorem inV_int {ns : List Int} {i : Int} : inV (.int i) (ns.map V.int) = decide (i ∈ ns) := by
  show (ns.map V.int).any (fun y => eqV y (.int i)) = _
  rw [List.any_map, Bool.eq_iff_iff, List.any_eq_true, decide_eq_true_eq]
  constructor
  · rintro ⟨x, hx, hx2⟩
    have : x = i := eq_of_beq hx2
    exact this ▸ hx
  · intro hx
    exact ⟨i, hx, beq_self_eq_true i⟩
theorem g_inIF {K : PySem.W.Frag} {G H : Hp} {Q : VK} {v : V} {ns : List Int} {i : Int} (e : Ex G H) (r : LsV K v G H (ns.map .int)) (q : Q (.bl (decide (i ∈ ns))) H) : rIn K false (.int i) v H Q := by
  obtain ⟨p, rfl, h⟩ := r.ints e
  refine ⟨p, _, rfl, .inl h, rfl, ?_, ?_⟩
  · rw [List.all_map]
    exact List.all_eq_true.mpr fun _ _ => rfl
  · rw [inV_int]
    exact q
theorem g_inIT {K : PySem.W.Frag} {G H : Hp} {Q : VK} {v : V} {ns : List Int} {i : Int} (e : Ex G H) (r : LsV K v G H (ns.map .int)) (q : Q (.bl (!decide (i ∈ ns))) H) : rIn K true (.int i) v H Q := by
  obtain ⟨p, rfl, h⟩ := r.ints e
  refine ⟨p, _, rfl, .inl h, rfl, ?_, ?_⟩
  · rw [List.all_map]
    exact List.all_eq_true.mpr fun _ _ => rfl
  · rw [inV_int]
    exact q
end Y
namespace Y
open PySem PySem.Spec PyProof.Rows L2
/-! ### x is True, x is False, whatever x is -/
def rIsA : R2 := fun x y H Q => ∃ b : Bool, y = .bl b ∧ Q (.bl (decide (x = .bl b))) H
def rNotA : R2 := fun x y H Q => ∃ b : Bool, y = .bl b ∧ Q (.bl (!decide (x = .bl b))) H
theorem same_bl {X : Cx} {M : Model} {A : Around} {E : Value → Shared → Prop} {s : Shared} {x : V} {u : Value} {b : Bool} {R : Bool → Shared → Prop} (r : RelV x u) (q : R (decide (x = .bl b)) s) : wpAny M A (isSame u (.bool b)) R E s := by
  have other : x ≠ .bl b → plainIs u (.bool b) = true → (u == Value.bool b) = false → wpAny M A (isSame u (.bool b)) R E s := fun hn h1 h2 => wpAny_isSame_plain h1 (by rw [h2]; rw [decide_eq_false hn] at q; exact q)
  cases x with
  | bl c =>
    cases (show u = Value.bool c from r)
    refine wpAny_isSame_plain rfl ?_
    have e : (Value.bool c == Value.bool b) = decide (V.bl c = V.bl b) := by cases c <;> cases b <;> rfl
    rw [e]
    exact q
  | ref a => cases r; exact other (fun z => nomatch z) rfl rfl
  | non => cases r; exact other (fun z => nomatch z) rfl rfl
  | int i => obtain ⟨t, rfl⟩ := r; exact other (fun z => nomatch z) rfl rfl
  | str x => obtain ⟨t, rfl⟩ := r; exact other (fun z => nomatch z) rfl rfl
  | byt x => obtain ⟨t, rfl⟩ := r; exact other (fun z => nomatch z) rfl rfl
  | flt x => obtain ⟨t, rfl⟩ := r; exact other (fun z => nomatch z) rfl rfl
  | ty n => cases r; exact other (fun z => nomatch z) rfl rfl
theorem op_isA {X : Cx} : OpR X (compareOp .Is) rIsA := by
  intro pins s σ H x y v u Q I rx ry h
  obtain ⟨b, rfl, q⟩ := h
  cases (show u = Value.bool b from ry)
  exact wpAny_bind (same_bl (X := X) rx (wpAny_pure (fin_bl I q rfl)))
theorem g_isA {x : V} {b : Bool} {H : Hp} {Q : VK} (q : Q (.bl (decide (x = .bl b))) H) : rIsA x (.bl b) H Q := ⟨b, rfl, q⟩
end Y
namespace Y
open PySem PySem.Spec PyProof.Rows L2
/-! ### sorted of texts: of a dict, of a list; the order is one -/
def rSrtDS : List V → Hp → VK → Prop := fun xs H Q => ∃ (a : Addr) (kvs : List (Key × V)) (ks : List Str), xs = [.ref a] ∧ H a = some (.dK kvs) ∧ kvs.map (·.1) = ks.map Sum.inr ∧ ks.length < 64 ∧ ∀ (ys : List Str) (p : Addr), ys.Perm ks → sortedS ys = true → H p = none → Q (.ref p) (upd H p (.lst (ys.map V.str)))
theorem call_srtDS {X : Cx} (hc : X.calm = true) : CallR X (.builtin "sorted") rSrtDS := fun pins s σ H xs us Q I r ⟨a, kvs, ks, e, h, q⟩ => call_sortedD hc pins s σ H xs us Q I r ⟨a, kvs, ks, e, .inl h, q⟩
theorem cr_sortedSK {X : Cx} {K : PySem.W.Frag} (h : X.K = K) : CallR X (.builtin "sorted") (rSortedS K) := h ▸ cr_sortedS
theorem rising_le : ∀ (p : Str) (l : List Str), risingS p l = true → (p :: l).Pairwise fun a b => a.cps.toList ≤ b.cps.toList
  | p, [], _ => by simp
  | p, x :: r, h => by
    have h0 : (!ltCps x.cps.toList p.cps.toList && risingS x r) = true := h
    rw [Bool.and_eq_true, Bool.not_eq_true', ltCps_eq, decide_eq_false_iff_not] at h0
    have ih := rising_le x r h0.2
    have hpx : p.cps.toList ≤ x.cps.toList := h0.1
    refine List.pairwise_cons.mpr ⟨fun y hy => ?_, ih⟩
    rcases List.mem_cons.mp hy with rfl | hy
    · exact hpx
    · exact List.le_trans hpx ((List.pairwise_cons.mp ih).1 y hy)
theorem sorted_le : ∀ (l : List Str), sortedS l = true → l.Pairwise fun a b => a.cps.toList ≤ b.cps.toList
  | [], _ => .nil
  | x :: r, h => rising_le x r h
theorem sorted_one {xs ys : List Str} (h : xs.Perm ys) (hx : sortedS xs = true) (hy : sortedS ys = true) : xs = ys :=
  List.Perm.eq_of_pairwise (fun a b _ _ h1 h2 => by
    have e := List.le_antisymm h1 h2
    obtain ⟨⟨a⟩⟩ := a
    obtain ⟨⟨b⟩⟩ := b
    exact congrArg (fun l => Str.mk ⟨l⟩) e) (sorted_le _ hx) (sorted_le _ hy) h
end Y

/-! ### sorted(.., key = a lambda): the key of a cell is its row, then its column -/
namespace Y
open PySem PySem.Spec PyProof.Rows L2
/-- the parameters and the body: lambda cell: (cell[1], cell[0]) -/
structure LamYX (ps : Arguments) (body : Expr) (sc : Scope) : Prop where
  co : sc.isCoroutine = false
  gen : sc.isGenerator = false
  kind : sc.kind = .function
  nm : sc.names = [(("cell" : Str), NameKind.local)]
  bind : ∀ (q : Str) (cl : List (Str × Addr)) (pm cv ctv v : Value), bindArgs (PySem.W.kla_fn "<lambda>" q ps body sc cl pm cv ctv) ⟨[v], []⟩ = pure [(("cell" : Str), v)]
  dfl : ∀ env, defaultsOf ps env = ([], [])
  body : ∃ p1 p2 p3 p4 p5 p6 p7 k1 k2 k3, body = .Tuple [.Subscript (.Name "cell" p1) (.Constant (.int 1) k1 p2) p3, .Subscript (.Name "cell" p4) (.Constant (.int 0) k2 p5) p6] k3 p7
theorem eval_ix {prog : Program} {w : World} {A : Around} {E : Value → Shared → Prop} {s : Shared} {env : Env} {m : Str → Option Value} {t : Addr} {items : Array Value} {i : Int} {j : Nat} {v : Value} {p1 p2 p3 : Pos} {k1 : Nat} {Q : Value → Shared → Prop}
    (hk : env.scope.kind = .function) (hn : env.kindOf "cell" = some .local) (hm : s.heap.Ns env.locals m) (hv : m "cell" = some (.ref t)) (ht : IsTup s.heap t items) (h0 : -2 ^ 63 ≤ i) (h1 : i < 2 ^ 63) (hj : seqIndex? i items.size = some j) (hx : items[j]? = some v)
    (q : Q v { heap := s.heap, gens := s.gens, drawn := s.drawn, toks := s.toks + 1, os := s.os }) : wpAny (model prog w) A (eval (.Subscript (.Name "cell" p1) (.Constant (.int i) k1 p2) p3) env) Q E s := by
  refine wpAny_Subscript_Constant_late ?_
  refine wpAny_Name ?_
  refine wpAny_loadName_local hk hn hm hv ?_
  refine wpAny_Constant_int ?_
  exact ⟨"tuple", "tuple.__getitem__", slot_tuple_getitem.lookup, ht.typeIs, getItem_tuple ht h0 h1 hj hx q⟩
theorem lam_yx {prog : Program} {w : World} {A : Around} {s : Shared} {f t c' : Addr} {q : Str} {ps : Arguments} {body : Expr} {sc : Scope} {cl : List (Str × Addr)} {pm ctv : Value} {x y : Int} {tx ty : Tok} (L : LamYX ps body sc)
    (hA : A.depth + 2 < recursionLimit) (hf : s.heap.get? f = some (PySem.W.kla_obj "<lambda>" q ps body sc cl pm c' ctv)) (hc : s.heap.CodeRec (.ref c') q) (hn : s.heap.NoLimit) (ht : IsTup s.heap t #[.int x tx, .int y ty]) :
    wpAny (model prog w) A (call (.ref f) [.ref t]) (PySem.W.KeyPure (.tuple [.int y, .int x]) s) (fun _ _ => False) s := by
  refine wpAny_call ?_
  refine PySem.W.kla_callFunE (by omega) hf rfl L.co L.gen rfl hc ?_
  rw [L.bind]
  refine wpAny_pure ?_
  refine wpAny_newFunctionEnv (fun y hy => ?_) (fun y hy => ?_) (fun h' hN hS => ⟨hn.fresh _ hS, ?_⟩) L.kind
  · have : sc.names = [(("cell" : Str), NameKind.local)] := L.nm
    rw [show (PySem.W.kla_fn "<lambda>" q ps body sc cl pm (.ref c') ctv).scope.names = sc.names from rfl, this] at hy
    simp only [List.mem_cons, List.not_mem_nil, or_false] at hy
    subst hy
    exact fun z => nomatch z
  · simp only [List.mem_cons, List.not_mem_nil, or_false] at hy
    subst hy
    show List.lookup _ sc.names = _
    rw [L.nm]
    rfl
  have old : ∀ b o, s.heap.get? b = some o → h'.get? b = some o := fun b o hb => by
    rw [hS.2 b (Nat.ne_of_lt (Heap.lt_size hb))]
    exact Heap.get?_push_of_some _ hb
  have tup : ∀ {h : Heap}, (∀ b o, s.heap.get? b = some o → h.get? b = some o) → IsTup h t #[.int x tx, .int y ty] := fun k => by
    obtain ⟨o, h1, h2⟩ := ht
    exact ⟨o, k _ _ h1, h2⟩
  refine PySem.W.kla_codeExpr ?_
  obtain ⟨p1, p2, p3, p4, p5, p6, p7, k1, k2, k3, hb⟩ := L.body
  rw [hb]
  refine wpAny_Tuple_spliced ?_
  have hloc : (List.lookup ("cell" : Str) [(("cell" : Str), Value.ref t)].reverse : Option Value) = some (.ref t) := rfl
  refine spliced_more ?_ rfl
  refine eval_ix (t := t) (items := #[.int x tx, .int y ty]) (j := 1) (m := fun x => List.lookup x [(("cell" : Str), Value.ref t)].reverse) L.kind (by show List.lookup _ sc.names = _; rw [L.nm]; rfl) hN hloc (tup old) (by decide) (by decide) rfl rfl ?_
  refine spliced_more ?_ rfl
  refine eval_ix (t := t) (items := #[.int x tx, .int y ty]) (j := 0) (m := fun x => List.lookup x [(("cell" : Str), Value.ref t)].reverse) L.kind (by show List.lookup _ sc.names = _; rw [L.nm]; rfl) hN hloc (tup old) (by decide) (by decide) rfl rfl ?_
  refine spliced_none ?_
  refine ⟨by show 2 ≤ sizeLine; decide, ?_⟩
  refine ⟨_, _, rfl, fun b o hb => Heap.get?_push_of_some _ (old b o hb), ?_⟩
  refine .tuple (Heap.get?_push_size _ rfl) rfl rfl ?_
  exact .cons (.int y ty) (.cons (.int x tx) .nil)
/-- the thing at f is this function, its code at c' -/
def LamO (f : Addr) (q : Str) (ps : Arguments) (body : Expr) (sc : Scope) (c' : Addr) : HO := .ext fun h => ∃ pm ctv cl, h.get? f = some (PySem.W.kla_obj "<lambda>" q ps body sc cl pm c' ctv)
/-- the making of a function: nothing but its code in the table, if it was not there -/
def LamG (P : Addr) (q : Str) (H H1 : Hp) (c' : Addr) : Prop := (H1 = H ∧ H c' = some (LamX.CodeO c' q)) ∨
  ∃ (tab : Array Value) (pos : Pos), H P = some (.tbl tab) ∧ H c' = none ∧ H1 = upd (upd H P (.tbl (tab ++ #[rawInt ↑pos.line, rawInt ↑pos.col, .ref c']))) c' (LamX.CodeO c' q)
def tLamE (P : Addr) (q : Str) (ps : Arguments) (body : Expr) (sc : Scope) : TE := fun _ H Q => LamX.TabS H P q ∧ ∀ H1 f c', LamG P q H H1 c' → LamX.TabS H1 P q → H1 f = none → H1 c' = some (LamX.CodeO c' q) → Q (.ref f) (upd H1 f (LamO f q ps body sc c'))
theorem pe_lamE {X : Cx} {c P : Addr} {ps : Arguments} {body : Expr} {sc : Scope} {pos : Pos} (L : LamYX ps body sc) (TB : LamX.TabB X.base X.mg c P) (hcode : X.env.code = .ref c) : PE X (.Lambda ps body sc pos) (tLamE P (X.env.qual ++ "<lambda>") ps body sc) := by
  refine ⟨fun pins s σ H Q I ht => ?_⟩
  obtain ⟨⟨tab, hP, hT, hA⟩, q⟩ := ht
  refine PySem.W.kla_eval (L.dfl _) ?_
  have nofree : ∀ y ∈ sc.names, y.2 = NameKind.free → ∃ c, List.lookup y.1 X.env.cells = some c := fun y hy hf => by
    rw [L.nm] at hy
    simp only [List.mem_cons, List.not_mem_nil, or_false] at hy
    subst hy
    cases hf
  have hPo : s.heap.get? P = some (PySem.W.tabObj tab) := I.hok P _ hP
  have ob : ∀ (H1 : Hp) (h' : Heap) (c' : Addr) (ctv pm : Value) (cl : List (Str × Addr)), ObjOk X.prog X.w (upd H1 h'.objs.size (LamO h'.objs.size (X.env.qual ++ "<lambda>") ps body sc c')) (h'.push (PySem.W.kla_obj "<lambda>" (X.env.qual ++ "<lambda>") ps body sc cl pm c' ctv)) h'.objs.size (LamO h'.objs.size (X.env.qual ++ "<lambda>") ps body sc c') := fun H1 h' c' ctv pm cl => by
    have e := Heap.get?_push_size h' (o := PySem.W.kla_obj "<lambda>" (X.env.qual ++ "<lambda>") ps body sc cl pm c' ctv) rfl
    exact ⟨⟨_, _, _, e⟩, ⟨_, e⟩, fun h1 h2 ⟨pm, ctv, cl, h3⟩ k => ⟨pm, ctv, cl, k _ h3⟩⟩
  cases hit : codeAmong pos tab.toList with
  | some cv =>
    obtain ⟨c', rfl, hc'⟩ := hA pos cv hit
    refine PySem.W.kla_makeFunctionHit (closure_ok nofree) I.ok.glob (I.mod.glob.keeps I.bk) hcode (TB.code.keeps I.bk) hPo hT hit (TB.bm.keeps I.bk) (fun ctv h' tk k1 k2 => ?_)
    have fr : H h'.objs.size = none := HOk.fresh I.hok k2
    refine ⟨.ref h'.objs.size, _, I.laid (fun b o hb => Heap.get?_push_of_some _ (k1 b o hb)) k2 (ob H h' c' ctv _ _), rfl, q H _ c' (.inl ⟨rfl, hc'⟩) ⟨tab, hP, hT, hA⟩ fr hc'⟩
  | none =>
    refine PySem.W.kla_makeFunction (closure_ok nofree) I.ok.glob (I.mod.glob.keeps I.bk) hcode (TB.code.keeps I.bk) hPo hT hit TB.gP (TB.bm.keeps I.bk) (fun c' ctv h' tk k1 k2 k3 k4 k5 => ?_)
    have hc0 : H c' = none := HOk.fresh I.hok k2
    have hcP : c' ≠ P := fun z => by rw [z, hP] at hc0; cases hc0
    obtain ⟨_, o, vs, t, e1, e2, e3, e4⟩ := k4
    cases e1
    have I1 := LamX.inv_table (more := #[rawInt ↑pos.line, rawInt ↑pos.col, .ref c']) (t' := tk) I hP (fun b o hb hs => k1 b o hb hs) k5 k2 ⟨o, vs, t, e2, e3, e4⟩
    have fr : (upd (upd H P (.tbl (tab ++ #[rawInt ↑pos.line, rawInt ↑pos.col, .ref c']))) c' (LamX.CodeO c' (X.env.qual ++ "<lambda>"))) h'.objs.size = none := HOk.fresh I1.hok (Nat.le_refl _)
    refine ⟨.ref h'.objs.size, _, I1.laid (t' := tk) (a := h'.objs.size) (fun b o hb => Heap.get?_push_of_some _ hb) (Nat.le_refl _) (ob _ h' c' ctv _ _), rfl, q _ _ c' (.inr ⟨tab, pos, hP, hc0, rfl⟩) ⟨_, by rw [upd_ne hcP.symm, upd_same], ?_, ?_⟩ fr upd_same⟩
    · rw [Array.toList_append]
      exact TriplesOk_snoc _ _ _ _ hT
    · intro p' cv hp
      rw [Array.toList_append] at hp
      rcases LamX.among_app _ hT hp with h | h
      · obtain ⟨c2, e, h2⟩ := hA p' cv h
        refine ⟨c2, e, ?_⟩
        have n1 : c2 ≠ c' := fun z => by rw [z, hc0] at h2; cases h2
        have n2 : c2 ≠ P := fun z => by rw [z, hP] at h2; cases h2
        rw [upd_ne n1, upd_ne n2]
        exact h2
      · exact ⟨c', h, upd_same⟩
/-- a cell: its column and its row -/
abbrev Cell := Int × Int
def yxLe (p q : Cell) : Bool := decide (p.2 < q.2 ∨ p.2 = q.2 ∧ p.1 ≤ q.1)
/-- the value is this cell -/
def ClV (K : PySem.W.Frag) (H : Hp) (v : V) (c : Cell) : Prop := ∃ t, v = .ref t ∧ SqT K H t [.int c.1, .int c.2]
def rSrtYX (K : PySem.W.Frag) (vs zs : List V) (H : Hp) (Q : VK) : Prop := ∃ (a f c' : Addr) (q : Str) (ps : Arguments) (body : Expr) (sc : Scope) (xs : List V) (cs : List Cell) (S : V → Cell → Prop), (∀ v c, S v c → ClV K H v c) ∧ vs = [.ref a] ∧ zs = [.ref f] ∧ LamYX ps body sc ∧
  H f = some (LamO f q ps body sc c') ∧ H c' = some (LamX.CodeO c' q) ∧ SqL K H a xs ∧ PySem.Paired S xs cs ∧
  ∀ p ys, H p = none → PySem.Paired S ys (cs.mergeSort yxLe) → Q (.ref p) (upd H p (.lst ys))
theorem paired_each {α β γ : Type} {R : α → β → Prop} {S : α → γ → Prop} : ∀ {xs : List α} {us : List β} {cs : List γ}, PySem.Paired R xs us → PySem.Paired S xs cs → PySem.W.EachIs (fun u c => ∃ x, R x u ∧ S x c) us cs
  | _, _, _, .nil, .nil => .nil
  | _, _, _, .cons a as, .cons b bs => .cons ⟨_, a, b⟩ (paired_each as bs)
theorem each_paired {S : V → Cell → Prop} : ∀ {us : List Value} {cs : List Cell}, PySem.W.EachIs (fun u c => ∃ x, RelV x u ∧ S x c) us cs → ∃ xs, Vals xs us ∧ PySem.Paired S xs cs
  | _, _, .nil => ⟨[], .nil, .nil⟩
  | _, _, .cons ⟨x, a, b⟩ r => by
    obtain ⟨xs, h1, h2⟩ := each_paired r
    exact ⟨x :: xs, .cons a h1, .cons b h2⟩
theorem cr_srtYX {X : Cx} {k : Nat} (hr : Room k X.A) : CallRK X (.builtin "sorted") ["key"] (rSrtYX X.K) := by
  intro pins s σ H xs zs us ws Q I hx hz ⟨a, f, c', q, ps, body, sc, vs, cs, S, hS, e1, e2, L, hf, hc, hl, hp, hq⟩
  subst e1 e2
  cases hx with
  | cons h1 h2 =>
  cases h2
  cases hz with
  | cons g1 g2 =>
  cases g2
  cases h1
  cases g1
  obtain ⟨its, hv, pl, hle⟩ := I.list hl
  obtain ⟨⟨pm, ctv, cl, hfo⟩, _⟩ := I.hok f _ hf
  obtain ⟨⟨oc, cvs, ct, hco, hcd, hcs⟩, _⟩ := I.hok c' _ hc
  have hE := paired_each hv hp
  have hlen : vs.length = cs.length := hv.length.trans hE.length
  refine PySem.W.sorted_key_data (b := false) (fun c : Cell => PyData.tuple [.int c.2, .int c.1]) pl.isList hE ?_ ?_ (by omega) (fun x _ => ?_) (ksk_s1 _ _) (fun x => ksk_l1 _ _) (fun x => ksk_t1 _ _) (fun v x hR hm h tk hk => ?_) (fun out c h' tk hk hno hat hl' hR => ?_)
  · exact PySem.W.AllAlike.of fun b b' => by simp [PySem.W.alike, PySem.W.alikeAll]
  · exact PySem.W.Sortable.tuples fun b => ⟨_, _, rfl⟩
  · have := hr.un
    show X.A.units + 2 + PyData.depth (.tuple [.int x.2, .int x.1]) < cLine
    have e : PyData.depth (.tuple [.int x.2, .int x.1]) ≤ 1 := by simp [PyData.depth, PyData.depthAll]
    omega
  · obtain ⟨x0, hrel, hsx⟩ := hR
    obtain ⟨t, rfl, ht⟩ := hS _ _ hsx
    cases hrel
    obtain ⟨its2, hv2, htup, _⟩ := I.tuple ht
    cases hv2 with
    | cons r1 r2 =>
    cases r2 with
    | cons r3 r4 =>
    cases r4
    obtain ⟨tx, rfl⟩ := r1
    obtain ⟨ty, rfl⟩ := r3
    obtain ⟨o, k1, k2⟩ := htup
    have := hr.dp
    exact lam_yx L (by show X.A.depth + 2 < recursionLimit; omega) (hk _ _ hfo) ⟨c', oc, cvs, ct, rfl, hk _ _ hco, hcd, hcs⟩ (I.nolimit.keeps hk) ⟨o, hk _ _ k1, k2⟩
  · rw [PySem.W.dataLe_ii (fun c : Cell => c.2) (fun c : Cell => c.1)] at hR
    obtain ⟨ys, hys, hcl⟩ := each_paired hR
    refine ⟨.ref (s.heap.objs.size + 1), _, I.laid (o := .lst ys) (a := s.heap.objs.size + 1) (t' := tk) hk (Nat.le_succ _) ⟨by rw [hys.length, hl', ← hlen]; exact hle, _, _, hys, hat⟩, rfl, hq _ ys (HOk.fresh I.hok (Nat.le_succ _)) hcl⟩
end Y

/-! ### dict(d) of a dict whose keys are tuples -/
namespace Y
open PySem PySem.Spec PyProof.Rows L2
/-- the hash of a key -/
def kHash (k : List L2.Key) : Int := reduceHash (Builtin.Tuple.tupleHashOf (k.map fun a => match a with | .inl i => hashInt i | .inr _ => 0))
def rDictT : List V → Hp → VK → Prop := fun xs H Q => ∃ d kvs, xs = [.ref d] ∧ Rd H d (.dT kvs) ∧ (∀ e ∈ kvs, ∀ a ∈ e.1, ∃ i : Int, a = .inl i) ∧ (kvs.map fun e => kHash e.1).Nodup ∧ ∀ p, H p = none → Q (.ref p) (upd H p (.dT kvs))
theorem kHash_eq {P : Program} {w : World} {k : List L2.Key} (h : ∀ a ∈ k, ∃ i : Int, a = .inl i) : tupleKeyHash (mixKind P w) k = kHash k := by
  unfold tupleKeyHash kHash
  congr 2
  refine List.map_congr_left fun a ha => ?_
  obtain ⟨i, rfl⟩ := h a ha
  rfl
theorem kt_mem {H : Hp} : ∀ {kvs : List (List L2.Key × V)} {xs : List (List L2.Key × Addr × Value)}, KT H kvs xs → xs.map (·.1) = kvs.map (·.1)
  | _, _, .nil => rfl
  | _, _, .cons h r => by rw [List.map_cons, List.map_cons, kt_mem r, h.1]
theorem kt_tup {H : Hp} : ∀ {kvs : List (List L2.Key × V)} {xs : List (List L2.Key × Addr × Value)}, KT H kvs xs → ∀ x ∈ xs, H x.2.1 = some (.tup (x.1.map kV))
  | _, _, .nil, x, hx => absurd hx (by simp)
  | _, _, .cons h r, x, hx => by
    rcases List.mem_cons.mp hx with rfl | hx
    · rw [← h.1]; exact h.2.1
    · exact kt_tup r x hx
theorem kt_up {H : Hp} {a : Addr} {o : HO} (fr : H a = none) : ∀ {kvs : List (List L2.Key × V)} {xs : List (List L2.Key × Addr × Value)}, KT H kvs xs → PySem.Paired (fun p q => p.fst = q.fst ∧ (upd H a o) q.snd.fst = some (HO.tup (List.map kV p.fst)) ∧ RelV p.snd q.snd.snd) kvs xs
  | _, _, .nil => .nil
  | _, _, .cons h r => .cons ⟨h.1, by rw [upd_ne (ne_of_none h.2.1 fr)]; exact h.2.1, h.2.2⟩ (kt_up fr r)
theorem call_dictT {X : Cx} (hu : X.A.units + 10 < cLine) : CallR X (.type "dict") rDictT := by
  intro pins s σ H xs us Q I r ⟨d, kvs, e, h, hi, hn, q⟩
  subst e
  cases r with
  | cons r1 r2 =>
  cases r2
  cases r1
  obtain ⟨hl, hs, ps, hk, hd⟩ := dt_rd I.hok h
  have e1 := kt_mem hk
  have htup : ∀ x ∈ ps, s.TypeIs (.ref x.2.1) "tuple" := fun x hx => by
    obtain ⟨_, its, _, ht⟩ := I.hok _ _ (kt_tup hk x hx)
    exact ht.typeIs
  have hhash : (ps.map fun x => (tupleKind (mixKind X.prog X.w)).hash x.1).Nodup := by
    have e2 : (ps.map fun x => (tupleKind (mixKind X.prog X.w)).hash x.1) = kvs.map fun e => kHash e.1 := by
      have e3 : (ps.map fun x => (tupleKind (mixKind X.prog X.w)).hash x.1) = (ps.map (·.1)).map fun k => tupleKeyHash (mixKind X.prog X.w) k := by rw [List.map_map]; rfl
      rw [e3, e1, List.map_map]
      exact List.map_congr_left fun e he => kHash_eq (hi e he)
    rw [e2]
    exact hn
  have plen : ps.length = kvs.length := by simpa using congrArg List.length e1
  let h1 := s.heap.push { cls := Value.type "dict", data := Data.dict #[] }
  have old : ∀ b o, s.heap.get? b = some o → h1.get? b = some o := fun b o hb => Heap.get?_push_of_some _ hb
  have hne : s.heap.objs.size ≠ d := fun z => by
    obtain ⟨o, _, _, ho, _⟩ := hd
    rw [← z] at ho
    exact Nat.lt_irrefl _ (Heap.lt_size ho)
  refine callType_codes (Q₁ := fun obj s1 => obj = .ref s.heap.objs.size ∧ s1 = { heap := h1, gens := s.gens, drawn := s.drawn, toks := s.toks, os := s.os }) F.kt_called_dict (F.kt_typeCall_dict_1 _) F.entry_dict_init (kt_code_dict_new _ ⟨rfl, rfl⟩) (fun obj s1 hq => ?_)
  obtain ⟨rfl, rfl⟩ := hq
  have hnew : Heap.DictOfH (tupleKind (mixKind X.prog X.w)) h1 s.heap.objs.size [] := Heap.DictOfH.new s.heap
  have hold : Heap.DictOfH (tupleKind (mixKind X.prog X.w)) h1 d ps := by
    obtain ⟨o, es, ep, ho, hx, hd1, hes, hks, hnd⟩ := hd
    refine ⟨o, es, ep, old _ _ ho, hx, hd1, hes, fun x hx => ?_, hnd⟩
    obtain ⟨o2, items, n2, k1, k2, k3, k4⟩ := hks x hx
    exact ⟨o2, items, n2, old _ _ k1, k2, k3, k4⟩
  have hty : ({ heap := h1, gens := s.gens, drawn := s.drawn, toks := s.toks, os := s.os } : Shared).TypeIs (.ref s.heap.objs.size) "dict" := hnew.typeIs
  refine ⟨hty, F.args_dict_init_2 _ _, ?_⟩
  unfold Builtin.«dict.__init__» Builtin.Dict.selfAndRest
  refine wpAny_bind (wpAny_bind (wpAny_notOrdered_dict hty ?_))
  refine wpAny_bind (show wpAny _ _ (pure s.heap.objs.size) _ _ _ from wpAny_pure (wpAny_pure ?_))
  refine updateFrom_dictH (K := List L2.Key) (knd := tupleKind (mixKind X.prog X.w)) (A := X.A.in1) (kvs := []) (more := ps) Value.none (by show X.A.units + 1 + 1 < cLine; omega) hne hs hnew hold (.inr ⟨fun x hx => ?_, hhash⟩) (by show 0 + ps.length ≤ sizeLine; omega) (fun h' k1 k2 k3 => ?_)
  · obtain ⟨_, its, _, o, ho, hc⟩ := I.hok _ _ (kt_tup hk x hx)
    have ht : IsTup h1 x.2.1 its.toArray := ⟨o, old _ _ ho, hc⟩
    exact ht.typeIs
  · rw [storedAllH_nil_of_nodup ps hd.nodup] at k1
    refine ⟨rfl, .ref s.heap.objs.size, _, I.laid (o := .dT kvs) (t' := s.toks) (a := s.heap.objs.size) (h' := h') (fun b o hb => ?_) (Nat.le_refl _) ?_, rfl, q _ (HOk.fresh I.hok (Nat.le_refl _))⟩
    · rw [k3.2 b (Nat.ne_of_lt (Heap.lt_size hb))]
      exact old b o hb
    · obtain ⟨o, es, ep, ho, hx, hd1, hes, hks, hnd⟩ := k1
      refine ⟨hl, ?_, ps, ?_, o, es, ep, ho, hx, hd1, hes, hnd⟩
      · exact beq_eq_false_iff_ne.mpr (Nat.ne_of_gt I.big)
      · have fr : H s.heap.objs.size = none := HOk.fresh I.hok (Nat.le_refl _)
        have lift : ∀ {kvs : List (List L2.Key × V)} {xs : List (List L2.Key × Addr × Value)}, KT H kvs xs → PySem.Paired (fun p q => p.fst = q.fst ∧ (upd H s.heap.objs.size (.dT kvs)) q.snd.fst = some (HO.tup (List.map kV p.fst)) ∧ RelV p.snd q.snd.snd) kvs xs := fun k => kt_up fr k
        exact lift hk
end Y

namespace Y
open PySem PySem.Spec PyProof.Rows L2
/-! ### cells, lists of cells -/
def ckey (c : Cell) : List L2.Key := [.inl c.1, .inl c.2]
theorem ckey_inj {a b : Cell} (h : ckey a = ckey b) : a = b := by
  injection h with h1 h2
  injection h2 with h2 _
  exact Prod.ext (Sum.inl.inj h1) (Sum.inl.inj h2)
abbrev celD (c : Cell) : PyData := .tuple [.int c.1, .int c.2]
def Cl (G : Hp) (v : V) (c : Cell) : Prop := ∃ b, v = .ref b ∧ G b = some (.tup [.int c.1, .int c.2])
section
variable {K : PySem.W.Frag} {α : Type} {G H G' H' : Hp} {M : List Addr} {v : V} {c : Cell} {p A d : Addr} {o : HO} {cs : List Cell} {Q : VK} {x y : Int} {σ : L2.St}
theorem Cl.go (h : Cl G v c) (e : Ex G G') : Cl G' v c := by
  obtain ⟨b, rfl, hb⟩ := h
  exact ⟨b, rfl, e _ _ hb⟩
theorem Cl.dp (h : Cl G v c) : Dp K G v (celD c) := by
  obtain ⟨b, rfl, hb⟩ := h
  exact .tup (.of hb) (.cons (.int _) (.cons (.int _) .nil))
/-- a tuple that stands is known from now on -/
theorem know1 {xs : List V} {q : Addr} (e : Ex G H) (h : H q = some (.tup xs)) : ∃ G', Nx [] G H G' H ∧ G' q = some (.tup xs) := by
  cases hg : G q with
  | none => exact ⟨_, (Nx.refl e).knowT h hg, upd_same⟩
  | some o =>
    have := e _ _ hg
    rw [h] at this
    cases this
    exact ⟨G, Nx.refl e, hg⟩
theorem g_cl (e : Ex G H) (q : ∀ p G' H', Nx [] G H G' H' → H p = none → Cl G' (.ref p) (x, y) → Q (.ref p) H') : MkT [.int x, .int y] H Q :=
  ⟨by show 2 ≤ sizeLine; decide, fun p hp => q p _ _ ((Nx.own e hp).know hp upd_same (e.free hp)) hp ⟨p, rfl, upd_same⟩⟩
theorem pr_mono {R S : V → α → Prop} (f : ∀ v c, R v c → S v c) : ∀ {vs : List V} {cs : List α}, PySem.Paired R vs cs → PySem.Paired S vs cs
  | _, _, .nil => .nil
  | _, _, .cons a r => .cons (f _ _ a) (pr_mono f r)
theorem pr_get {R : V → α → Prop} : ∀ {vs : List V} {cs : List α} {i : Nat} {c : α}, PySem.Paired R vs cs → cs[i]? = some c → ∃ v, vs[i]? = some v ∧ R v c
  | _, _, 0, _, .cons a r, h => by cases h; exact ⟨_, rfl, a⟩
  | _, _, i + 1, _, .cons a r, h => pr_get (i := i) r h
  | _, _, 0, _, .nil, h => by cases h
  | _, _, i + 1, _, .nil, h => by cases h
theorem pr_got {R : V → α → Prop} : ∀ {vs : List V} {cs : List α} {i : Nat} {v : V}, PySem.Paired R vs cs → vs[i]? = some v → ∃ c, cs[i]? = some c ∧ R v c
  | _, _, 0, _, .cons a r, h => by cases h; exact ⟨_, rfl, a⟩
  | _, _, i + 1, _, .cons a r, h => pr_got (i := i) r h
  | _, _, 0, _, .nil, h => by cases h
  | _, _, i + 1, _, .nil, h => by cases h
theorem pr_len {R : V → α → Prop} : ∀ {vs : List V} {cs : List α}, PySem.Paired R vs cs → vs.length = cs.length
  | _, _, .nil => rfl
  | _, _, .cons _ r => by rw [List.length_cons, List.length_cons, pr_len r]
theorem pr_app {R : V → α → Prop} : ∀ {vs : List V} {cs : List α} {ws : List V} {ds : List α}, PySem.Paired R vs cs → PySem.Paired R ws ds → PySem.Paired R (vs ++ ws) (cs ++ ds)
  | _, _, _, _, .nil, h => h
  | _, _, _, _, .cons a r, h => .cons a (pr_app r h)
theorem pr_snoc {R : V → α → Prop} {vs : List V} {cs : List α} {v : V} {c : α} (h : PySem.Paired R vs cs) (a : R v c) : PySem.Paired R (vs ++ [v]) (cs ++ [c]) := pr_app h (.cons a .nil)
theorem pr_dp {f : α → PyData} {R : V → α → Prop} (h : ∀ v c, R v c → Dp K G v (f c)) : ∀ {vs : List V} {cs : List α}, PySem.Paired R vs cs → DpAll K G vs (cs.map f)
  | _, _, .nil => .nil
  | _, _, .cons a r => .cons (h _ _ a) (pr_dp h r)
/-- a list that stands, its items told by R over what is known -/
def LsR (R : Hp → V → α → Prop) (p : Addr) (G H : Hp) (cs : List α) : Prop := ∃ vs, H p = some (.lst vs) ∧ G p = none ∧ PySem.Paired (R G) vs cs
/-- R stays when more is known -/
def Mono (R : Hp → V → α → Prop) : Prop := ∀ G G' v c, Ex G G' → R G v c → R G' v c
variable {R : Hp → V → α → Prop} {as bs : List α}
theorem LsR.go (mR : Mono R) (r : LsR R p G H as) (n : Nx M G H G' H') (hp : p ∉ M) : LsR R p G' H' as := by
  obtain ⟨vs, h, g, q⟩ := r
  exact ⟨vs, n.fr p _ hp h, n.old p g ⟨_, h, fun _ z => nomatch z⟩, pr_mono (fun v c => mR _ _ v c n.gg) q⟩
theorem LsR.upd (r : LsR R p G H as) (h : A ≠ p) : LsR R p G (upd H A o) as := by
  obtain ⟨vs, h1, g, q⟩ := r
  exact ⟨vs, by rw [upd_ne h.symm]; exact h1, g, q⟩
theorem LsR.live (r : LsR R p G H as) : H p ≠ none := by
  obtain ⟨vs, h1, _⟩ := r
  rw [h1]; exact fun z => nomatch z
theorem src_lsR (mR : Mono R) {vs : List V} (h : H p = some (.lst vs)) (q : PySem.Paired (R G) vs as) (hM : p ∉ M) : SrcP M (Itl K p) G H as.length (fun i G x => ∃ c, as[i]? = some c ∧ R G x c) where
  go := fun i G' H' n hi => ⟨vs, vs[i]'(by rw [pr_len q]; exact hi), .of (n.fr p _ hM h), by simp⟩
  stop := fun i G' H' n hi => ⟨vs, .of (n.fr p _ hM h), by rw [pr_len q]; exact hi⟩
  yld := fun i G' H' x H'' n hi y => by
    obtain ⟨rfl, f⟩ := y
    have hx := f vs (.of (n.fr p _ hM h))
    obtain ⟨c, hc, rc⟩ := pr_got q hx
    exact ⟨G', Nx.refl n.gh, c, hc, mR _ _ _ _ n.gg rc⟩
theorem g_walkR0 {P : Addr → Prop} (r : LsR R p G H as) (q : ∀ vs, H p = some (.lst vs) → PySem.Paired (R G) vs as → P p) : ∃ b, V.ref p = .ref b ∧ (∃ xs, SqL K H b xs) ∧ P b := by
  obtain ⟨vs, h, _, hp⟩ := r
  exact ⟨p, rfl, ⟨vs, .of h⟩, q vs h hp⟩
/-- a loop over told items of any kind -/
theorem g_forQ {D : Ends} {g : TG} {tb : TS} {J : It} {n : Nat} {P : Nat → Hp → V → Prop} (S : SrcP M J G H n P) (e : Ex G H) (Pv : Nat → L2.St → Hp → Hp → Prop) (h0 : Pv 0 σ G H)
    (hs : ∀ i v σ' G' H' G1 H1, i < n → Nx M G H G' H' → Pv i σ' G' H' → Nx [] G' H' G1 H1 → P i G1 v →
      g v σ' H1 fun σ2 H2 => tb { D with nx := fun σ3 H3 => ∃ G3, Nx M G H G3 H3 ∧ Pv (i + 1) σ3 G3 H3, ct := fun σ3 H3 => ∃ G3, Nx M G H G3 H3 ∧ Pv (i + 1) σ3 G3 H3, bk := D.nx } σ2 H2)
    (hd : ∀ σ' G' H', Nx M G H G' H' → Pv n σ' G' H' → D.nx σ' H') : ForW J g tb D σ H := by
  refine ⟨fun i m σ' H' => m = n - i ∧ i ≤ n ∧ ∃ G', Nx M G H G' H' ∧ Pv i σ' G' H', ⟨n, by simp, Nat.zero_le _, G, Nx.refl e, h0⟩, ?_⟩
  rintro i m σ' H' ⟨rfl, hi, G', nx, p⟩
  by_cases hlt : i < n
  · refine .inr ⟨S.go i G' H' nx hlt, fun σ3 H3 => ∃ G3, Nx M G H G3 H3 ∧ Pv (i + 1) σ3 G3 H3, fun σ3 H3 ⟨G3, n3, p3⟩ => ⟨n - (i + 1), by omega, rfl, hlt, G3, n3, p3⟩, fun v H1 y => ?_⟩
    obtain ⟨G1, n1, d1⟩ := S.yld i G' H' v H1 nx hlt y
    exact hs i v σ' G' H' G1 H1 hlt nx p n1 d1
  · have e' : i = n := by omega
    subst e'
    exact .inl ⟨S.stop _ G' H' nx (Nat.le_refl _), hd σ' G' H' nx p⟩
theorem cl_mono : Mono Cl := fun _ _ _ _ e h => h.go e
abbrev ClsAt (p : Addr) (G H : Hp) (cs : List Cell) : Prop := LsR Cl p G H cs
theorem ClsAt.lst (r : ClsAt p G H cs) : LstAt K p G H (cs.map celD) := by
  obtain ⟨vs, h, g, q⟩ := r
  exact ⟨vs, h, g, pr_dp (fun v c h => h.dp) q⟩
theorem g_lsrN {xs : List V} (e : Ex G H) (h : PySem.Paired (R G) xs as) (hl : as.length ≤ 100000) (q : ∀ p H', Nx [] G H G H' → H p = none → LsR R p G H' as → Q (.ref p) H') : MkL xs H Q :=
  ⟨by rw [pr_len h]; exact szle hl, fun p hp => q p _ (Nx.own e hp) hp ⟨_, upd_same, e.free hp, h⟩⟩
theorem g_lsrCat {b : Addr} (e : Ex G H) (r1 : LsR R p G H as) (r2 : LsR R b G H bs) (hl : as.length + bs.length ≤ 100000) (q : ∀ r H', Nx [] G H G H' → H r = none → LsR R r G H' (as ++ bs) → Q (.ref r) H') : rCat (.ref p) (.ref b) H Q := by
  obtain ⟨xs, h1, g1, q1⟩ := r1
  obtain ⟨ys, h2, g2, q2⟩ := r2
  exact g_cat h1 h2 (by rw [pr_len q1, pr_len q2]; exact szle hl) e fun r H' n hr hh gr => q r H' n hr ⟨_, hh, gr, pr_app q1 q2⟩
theorem g_lsrApp {a : α} (mR : Mono R) (e : Ex G H) (r : LsR R p G H as) (ha : R G v a) (hl : as.length < 100000) (q : ∀ H', Nx [p] G H G H' → LsR R p G H' (as ++ [a]) → Q .non H') : rAppend (.ref p) [v] H Q := by
  obtain ⟨xs, h, g, hq⟩ := r
  exact ⟨p, xs, v, rfl, rfl, h, by rw [pr_len hq]; exact szl (by omega), q _ (Nx.set e g (by simp)) ⟨_, upd_same, g, pr_snoc hq ha⟩⟩
/-- an item of such a list, by its place -/
theorem g_ixLsR {i : Int} {k : Nat} {a : α} (r : LsR R p G H as) (hk : as[k]? = some a) (hi : i = (k : Int)) (q : ∀ v, R G v a → Q v H) : rIxL K (.ref p) (.int i) H Q := by
  obtain ⟨xs, h, g, hq⟩ := r
  obtain ⟨v, hv, rv⟩ := pr_get hq hk
  exact g_ixM h hv hi (q v rv)
end
end Y
/-! ### dicts of cells -/
namespace Y
open PySem PySem.Spec PyProof.Rows L2
abbrev Pic := List (Cell × Int)
def picK (m : Pic) : List (List L2.Key × V) := m.map fun e => (ckey e.1, V.int e.2)
/-- a dict of cells that stands; it may be locked -/
def PicRd (d : Addr) (G H : Hp) (m : Pic) : Prop := Rd H d (.dT (picK m)) ∧ G d = none
def PicAt (d : Addr) (G H : Hp) (m : Pic) : Prop := H d = some (.dT (picK m)) ∧ G d = none
section
variable {K : PySem.W.Frag} {G H G' H' : Hp} {M : List Addr} {v y : V} {c : Cell} {p A d : Addr} {o : HO} {m : Pic} {Q : VK} {σ : L2.St} {i : Int} {R : Hp → Prop}
theorem PicAt.rd (r : PicAt d G H m) : PicRd d G H m := ⟨.inl r.1, r.2⟩
theorem PicAt.go (r : PicAt d G H m) (n : Nx M G H G' H') (hd : d ∉ M) : PicAt d G' H' m := ⟨n.fr d _ hd r.1, n.old d r.2 ⟨_, r.1, fun _ z => nomatch z⟩⟩
theorem PicRd.go (r : PicRd d G H m) (n : Nx M G H G' H') (hd : d ∉ M) : PicRd d G' H' m := by
  obtain ⟨h | ⟨o, h⟩, g⟩ := r
  · exact ⟨.inl (n.fr d _ hd h), n.old d g ⟨_, h, fun _ z => nomatch z⟩⟩
  · exact ⟨.inr ⟨o, n.fr d _ hd h⟩, n.old d g ⟨_, h, fun _ z => nomatch z⟩⟩
theorem PicAt.upd (r : PicAt d G H m) (h : A ≠ d) : PicAt d G (upd H A o) m := ⟨by rw [upd_ne h.symm]; exact r.1, r.2⟩
theorem PicAt.live (r : PicAt d G H m) : H d ≠ none := by rw [r.1]; exact fun z => nomatch z
theorem pic_get {c : Cell} : ∀ {m : Pic}, valV (picK m) (ckey c) = (gtM m c).map V.int
  | [] => rfl
  | (k, x) :: m => by
    have ih := pic_get (c := c) (m := m)
    unfold valV picK gtM at ih ⊢
    rw [List.map_cons]
    by_cases h : k = c
    · rw [List.find?_cons_of_pos (by simp [h]), List.find?_cons_of_pos (by simp [h])]
      rfl
    · rw [List.find?_cons_of_neg (by simpa using fun z => h (ckey_inj z)), List.find?_cons_of_neg (by simpa using h)]
      exact ih
theorem pic_put : putK (picK m) (ckey c) (.int i) = picK (ptM m c i) := by
  have e : putK (picK m) (ckey c) (.int i) = ptM (picK m) (ckey c) (.int i) := rfl
  rw [e]
  unfold ptM picK
  rw [List.any_map]
  have e2 : (m.any ((fun p => decide (p.1 = ckey c)) ∘ fun e : Cell × Int => (ckey e.1, V.int e.2))) = m.any fun p => decide (p.1 = c) := by
    congr 1
    funext e
    exact decide_eq_decide.mpr ⟨fun h => ckey_inj h, fun h => congrArg ckey h⟩
  rw [e2]
  split
  · rw [List.map_map, List.map_map]
    refine List.map_congr_left fun e _ => ?_
    show (if ckey e.1 = ckey c then (ckey e.1, V.int i) else (ckey e.1, V.int e.2)) = (ckey (if e.1 = c then (e.1, i) else e).1, V.int (if e.1 = c then (e.1, i) else e).2)
    by_cases h : e.1 = c
    · rw [if_pos (congrArg ckey h), if_pos h]
    · rw [if_neg (fun z => h (ckey_inj z)), if_neg h]
  · rw [List.map_append]
    rfl
theorem g_pcIn (e : Ex G H) (r : PicRd d G H m) (h : Cl G y c) (q : Q (.bl (gtM m c).isSome) H) : DInW Q y (.ref d) H := by
  obtain ⟨b, rfl, hb⟩ := h
  exact ⟨d, _, rfl, .inr ⟨_, ckey c, b, r.1, rfl, e _ _ hb, rfl⟩, by rw [pic_get, Option.isSome_map]; exact q⟩
theorem g_pcNi (e : Ex G H) (r : PicRd d G H m) (h : Cl G y c) (q : Q (.bl (!(gtM m c).isSome)) H) : DNiW Q y (.ref d) H := by
  obtain ⟨b, rfl, hb⟩ := h
  exact ⟨d, _, rfl, .inr ⟨_, ckey c, b, r.1, rfl, e _ _ hb, rfl⟩, by rw [pic_get, Option.isSome_map]; exact q⟩
theorem g_pcGet (e : Ex G H) (r : PicRd d G H m) (h : Cl G y c) (hg : gtM m c = some i) (q : Q (.int i) H) : DGeW Q (.ref d) y H := by
  obtain ⟨b, rfl, hb⟩ := h
  exact ⟨d, .int i, rfl, .inr ⟨_, ckey c, b, r.1, rfl, e _ _ hb, by rw [pic_get, hg]; rfl⟩, q⟩
theorem g_pcPut (e : Ex G H) (r : PicAt d G H m) (h : Cl G y c) (hl : m.length < 100000) (q : ∀ H', Nx [d] G H G H' → PicAt d G H' (ptM m c i) → R H') : DPuW R (.int i) (.ref d) y H := by
  obtain ⟨b, rfl, hb⟩ := h
  refine ⟨d, _, rfl, .inr ⟨_, ckey c, b, r.1, rfl, e _ _ hb, by unfold picK; rw [List.length_map]; exact szl (by omega), rfl⟩, q _ (Nx.set e r.2 (by simp)) ⟨?_, r.2⟩⟩
  rw [upd_same, pic_put]
theorem g_pcNew (e : Ex G H) (q : ∀ p H', Nx [] G H G H' → H p = none → PicAt p G H' [] → Q (.ref p) H') : tDNewT σ H Q := fun p hp => q p _ (Nx.own e hp) hp ⟨upd_same, e.free hp⟩
theorem g_pcLen (r : PicAt d G H m) (q : Q (.int (m.length : Int)) H) : rLenT [.ref d] H Q := ⟨d, _, rfl, r.1, by rw [show (picK m).length = m.length from List.length_map ..]; exact q⟩
def rListT : List V → Hp → VK → Prop := fun xs H Q => ∃ d kvs, xs = [V.ref d] ∧ Rd H d (.dT kvs) ∧ ∀ p bs, H p = none → IsKeys H kvs bs → Q (.ref p) (L2.upd H p (.lst (bs.map V.ref)))
theorem call_listT {X : Cx} (hc : X.calm = true) : CallR X (.type "list") rListT := call_list_dT hc
theorem know_keys : ∀ {m : Pic} {bs : List Addr} {G : Hp}, Ex G H → IsKeys H (picK m) bs → ∃ G', Nx [] G H G' H ∧ PySem.Paired (Cl G') (bs.map V.ref) (m.map (·.1))
  | [], _, G, e, .nil => ⟨G, Nx.refl e, .nil⟩
  | (c, x) :: m, b :: bs, G, e, .cons h r => by
    obtain ⟨G1, n1, p1⟩ := know_keys (m := m) e r
    obtain ⟨G2, n2, hb⟩ := know1 n1.gh h
    exact ⟨G2, n1.trans n2, .cons ⟨b, rfl, hb⟩ (pr_mono (fun _ _ h => h.go n2.gg) p1)⟩
theorem g_pcList (e : Ex G H) (r : PicRd d G H m) (q : ∀ p G' H', Nx [] G H G' H' → H p = none → ClsAt p G' H' (m.map (·.1)) → Q (.ref p) H') : rListT [.ref d] H Q := by
  refine ⟨d, _, rfl, r.1, fun p bs hp hk => ?_⟩
  obtain ⟨G1, n1, h1⟩ := know_keys e hk
  exact q p G1 _ (n1.trans (Nx.own n1.gh hp)) hp ⟨_, upd_same, n1.gh.free hp, h1⟩
/-- the hashes of the cells are apart -/
def HNd (m : Pic) : Prop := (m.map fun e => kHash (ckey e.1)).Nodup
theorem g_pcCopy (e : Ex G H) (r : PicRd d G H m) (hn : HNd m) (q : ∀ p H', Nx [] G H G H' → H p = none → PicAt p G H' m → Q (.ref p) H') : rDictT [.ref d] H Q := by
  refine ⟨d, _, rfl, r.1, fun x hx a ha => ?_, ?_, fun p hp => q p _ (Nx.own e hp) hp ⟨upd_same, e.free hp⟩⟩
  · obtain ⟨z, _, rfl⟩ := List.mem_map.mp hx
    unfold ckey at ha
    simp only [List.mem_cons, List.not_mem_nil, or_false] at ha
    rcases ha with rfl | rfl <;> exact ⟨_, rfl⟩
  · unfold picK
    rw [List.map_map]
    exact hn
theorem src_pic {od : Obj} (h : H d = some (.frz od (.dT (picK m)))) (hM : d ∉ M) : SrcP M (Itkt d od (picK m)) G H m.length (fun i G v => ∃ c, (m.map (·.1))[i]? = some c ∧ Cl G v c) where
  go := fun i G' H' n hi => ⟨n.fr d _ hM h, by unfold picK; rw [List.length_map]; exact hi⟩
  stop := fun i G' H' n hi => ⟨n.fr d _ hM h, by unfold picK; rw [List.length_map]; exact hi⟩
  yld := fun i G' H' x H'' n hi y => by
    obtain ⟨rfl, k, v, q, hk, rfl, hq⟩ := y
    unfold picK at hk
    rw [List.getElem?_map] at hk
    obtain ⟨e0, he, h2⟩ := Option.map_eq_some_iff.mp hk
    cases h2
    obtain ⟨G2, n2, hb⟩ := know1 n.gh hq
    exact ⟨G2, n2, e0.1, by rw [List.getElem?_map, he]; rfl, q, rfl, hb⟩
/-- what is walked is locked meanwhile -/
theorem g_lockE {t : TE} (r : PicAt d G H m) (q : ∀ od, t σ (L2.upd H d (.frz od (.dT (picK m)))) (fun v H' => H' d = some (.frz od (.dT (picK m))) ∧ Q v (L2.upd H' d (.dT (picK m))))) : tLockE t σ H Q := ⟨d, _, r.1, trivial, q⟩
theorem g_lockS {t : TS} {D : Ends} (r : PicAt d G H m) (q : ∀ od, t ⟨fun σ' H' => H' d = some (.frz od (.dT (picK m))) ∧ D.nx σ' (L2.upd H' d (.dT (picK m))), fun v H' => H' d = some (.frz od (.dT (picK m))) ∧ D.rt v (L2.upd H' d (.dT (picK m))), fun σ' H' => H' d = some (.frz od (.dT (picK m))) ∧ D.bk σ' (L2.upd H' d (.dT (picK m))), fun σ' H' => H' d = some (.frz od (.dT (picK m))) ∧ D.ct σ' (L2.upd H' d (.dT (picK m)))⟩ σ (L2.upd H d (.frz od (.dT (picK m))))) : tLock t D σ H := ⟨d, _, r.1, trivial, q⟩
theorem pic_lock {od : Obj} (r : PicAt d G H m) (e : Ex G H) : Ex G (L2.upd H d (.frz od (.dT (picK m)))) ∧ PicRd d G (L2.upd H d (.frz od (.dT (picK m)))) m := ⟨e.out r.2, .inr ⟨od, upd_same⟩, r.2⟩
theorem pic_unlock {od : Obj} (r : PicAt d G H m) (hM : d ∉ M) (n : Nx M G (L2.upd H d (.frz od (.dT (picK m)))) G' H') : H' d = some (.frz od (.dT (picK m))) ∧ Nx M G H G' (L2.upd H' d (.dT (picK m))) ∧ PicAt d G' (L2.upd H' d (.dT (picK m))) m := by
  obtain ⟨a, b, c⟩ := unlock_nx r.1 r.2 hM n
  exact ⟨a, c, upd_same, b⟩
theorem g_iKeysT {td : TE} {R2 : It → Hp → Prop} {od : Obj} {kvs : List (List L2.Key × V)} (q : td σ H fun x H1 => x = .ref d ∧ H1 d = some (.frz od (.dT kvs)) ∧ R2 (Itkt d od kvs) H1) (hm : ∀ (P Q : VK), (∀ x H1, P x H1 → Q x H1) → td σ H P → td σ H Q) : iKeys td σ H R2 := hm _ _ (fun x H1 ⟨a, b, c⟩ => ⟨d, od, a, .inr ⟨kvs, b, c⟩⟩) q
/-- two dicts of the same cells and values, whatever the order -/
theorem eqR_pic {a b : Addr} {m2 : Pic} (r1 : PicAt a G H m) (r2 : PicAt b G H m2) (hl : m.length = m2.length) (hs : ∀ c x, (c, x) ∈ m → gtM m2 c = some x) (n : Nat) : EqR2 K H (EqW K H (n + 1)) (.ref a) (.ref b) := by
  refine .inr (.inr (.inr ⟨a, b, _, _, rfl, rfl, r1.1, r2.1, by unfold picK; rw [List.length_map, List.length_map]; exact hl, fun p hp => ?_⟩))
  obtain ⟨⟨c, x⟩, hx, rfl⟩ := List.mem_map.mp hp
  exact ⟨.int x, by rw [pic_get, hs c x hx]; rfl, .inl ⟨rfl, rfl⟩⟩
end
end Y

namespace Y
open PySem PySem.Spec PyProof.Rows L2
/-! ### a def that makes a lambda: its code is told; the table of its lambdas stands -/
theorem okC {P : Program} {w : World} {K : PySem.W.Frag} {mg : Str → Option Value} {base : Heap} {x qual : Str} {params : Arguments} {body : List Stmt} {scope : Scope} {dvs : List V} {kws : List (Str × V)} {p : Str × Option Str} {fd : FuncData} {CX : CXT} {N ps : List Str} {k : Nat} {sp : Sp}
    (F : FunD K x qual params body scope dvs kws (He.fAd K p) fd) (sc : FnScope N ps scope) (h1 : ∀ (vs : List V) (H : Hp) (Q : VK) (E : XK), sp vs H Q E → vs.length = ps.length)
    (h2 : ∀ (A : Around) (outer : List Env) (s : Shared) (H : Hp) (vs : List V) (Q : VK) (E : XK), Room k (A.deeper (envOfC qual scope s.heap.objs.size (He.fAd K p) (.ref (He.codeOf K p)))) → sp vs H Q E → ∃ t, PSs (cxOf CX P w K mg base N qual scope (He.fAd K p) (.ref (He.codeOf K p)) A outer s H E) body t ∧ t { nx := fun x H' => Q V.non H', rt := Q } (L2.start N vs) H) :
    FnOk P w K mg base CX (k + 1) (He.fAd K p) fd ps sp := by
  obtain ⟨oc, od, dV, kV, doc, pm, an, cdv, ct, osl, rfl, hl, hc, _, _⟩ := F.ex
  obtain ⟨c, rfl⟩ := He.codeIn_ref hc
  have e : He.codeOf K p = c := He.codeOf_eq hl rfl
  refine ⟨h1, fun A outer s H args us vs Q E hr e0 hb hv hsp => ?_⟩
  exact LamX.run_ofS hl hc sc hr e0 hb hv (h1 _ _ _ _ hsp) fun hr2 => by
    rw [← e] at hr2 ⊢
    exact h2 A outer s H vs Q E hr2 hsp
/-- the table at P, apart from what is known; its codes are known -/
def TabAt (P : Addr) (q : Str) (G H : Hp) : Prop := G P = none ∧ ∃ tab, H P = some (.tbl tab) ∧ TriplesOk tab.toList ∧ ∀ pos cv, codeAmong pos tab.toList = some cv → ∃ c, cv = .ref c ∧ G c = some (LamX.CodeO c q)
section
variable {K : PySem.W.Frag} {P a : Addr} {q : Str} {G H G' H' : Hp} {M : List Addr} {cs : List Cell} {ps : Arguments} {body : Expr} {sc : Scope} {Q : VK} {σ : L2.St}
theorem TabAt.go (t : TabAt P q G H) (n : Nx M G H G' H') (hP : P ∉ M) : TabAt P q G' H' := by
  obtain ⟨g, tab, h, hT, hA⟩ := t
  exact ⟨n.old P g ⟨_, h, fun _ z => nomatch z⟩, tab, n.fr P _ hP h, hT, fun pos cv hc => by
    obtain ⟨c, e, hg⟩ := hA pos cv hc
    exact ⟨c, e, n.gg _ _ hg⟩⟩
theorem TabAt.tab (t : TabAt P q G H) (e : Ex G H) : LamX.TabS H P q := by
  obtain ⟨g, tab, h, hT, hA⟩ := t
  exact ⟨tab, h, hT, fun pos cv hc => by
    obtain ⟨c, e2, hg⟩ := hA pos cv hc
    exact ⟨c, e2, e _ _ hg⟩⟩
theorem TabAt.live (t : TabAt P q G H) : H P ≠ none := by
  obtain ⟨g, tab, h, _⟩ := t
  rw [h]; exact fun z => nomatch z
theorem TabAt.neL {α : Type} {R : Hp → V → α → Prop} {as : List α} (t : TabAt P q G H) (r : LsR R a G H as) : a ≠ P := fun z => by
  obtain ⟨g, tab, h, _⟩ := t
  obtain ⟨vs, h1, _⟩ := r
  rw [z, h] at h1
  cases h1
theorem TabAt.neP {m : Pic} (t : TabAt P q G H) (r : PicAt a G H m) : a ≠ P := fun z => by
  obtain ⟨g, tab, h, _⟩ := t
  have h1 := r.1
  rw [z, h] at h1
  cases h1
theorem TabAt.neD {m : List (Key × PyData)} (t : TabAt P q G H) (r : DctAt K a G H m) : a ≠ P := fun z => by
  obtain ⟨g, tab, h, _⟩ := t
  obtain ⟨_, h1, _⟩ := r
  rw [z, h] at h1
  cases h1
theorem g_srtYX (e : Ex G H) (t : TabAt P q G H) (r : ClsAt a G H cs) (L : LamYX ps body sc) (k : ∀ p G' H', Nx [P] G H G' H' → TabAt P q G' H' → H p = none → ClsAt p G' H' (cs.mergeSort yxLe) → Q (.ref p) H') :
    tCons (tLamE P q ps body sc) tNil σ H fun zs H2 => rSrtYX K [.ref a] zs H2 Q := by
  have haP := t.neL r
  refine ⟨t.tab e, fun H1 f c' hG hT hf hc => ?_⟩
  have key : ∃ G1, Nx [P] G H G1 H1 ∧ TabAt P q G1 H1 := by
    obtain ⟨g, tab, h, hT0, hA⟩ := id t
    rcases hG with ⟨rfl, _⟩ | ⟨tab2, pos, h2, hc0, rfl⟩
    · exact ⟨G, Nx.refl e, t⟩
    · rw [h] at h2
      cases h2
      have hcP : c' ≠ P := fun z => by rw [z, h] at hc0; cases hc0
      have n1 : Nx [P] G H G (L2.upd H P (.tbl (tab ++ #[rawInt ↑pos.line, rawInt ↑pos.col, .ref c']))) := Nx.set e g (by simp)
      have n2 := Nx.new (o := LamX.CodeO c' q) n1.gh (p := c') (by rw [upd_ne hcP]; exact hc0)
      refine ⟨_, n1.trans n2.pure, by rw [upd_ne hcP.symm]; exact g, _, by rw [upd_ne hcP.symm, upd_same], ?_, fun p' cv hp => ?_⟩
      · rw [Array.toList_append]
        exact TriplesOk_snoc _ _ _ _ hT0
      · rw [Array.toList_append] at hp
        rcases LamX.among_app _ hT0 hp with h3 | h3
        · obtain ⟨c2, e2, h4⟩ := hA p' cv h3
          exact ⟨c2, e2, by rw [upd_ne (fun z => by rw [z, n1.gh.free (by rw [upd_ne hcP]; exact hc0)] at h4; cases h4)]; exact h4⟩
        · exact ⟨c', h3, upd_same⟩
  obtain ⟨G1, n1, t1⟩ := key
  have n2 : Nx [] G1 H1 G1 (L2.upd H1 f (LamO f q ps body sc c')) := Nx.own n1.gh hf
  have r1 := r.go cl_mono n1 (by simp [haP])
  obtain ⟨vs, h1, g1, p1⟩ := r1.go cl_mono n2 (by simp)
  have hcf : c' ≠ f := fun z => by rw [z, hf] at hc; cases hc
  refine ⟨a, f, c', q, ps, body, sc, vs, cs, Cl G1, fun v c hv => ?_, rfl, rfl, L, upd_same, by rw [upd_ne hcf]; exact hc, .of h1, p1, fun p ys hp hy => ?_⟩
  · obtain ⟨b, rfl, hb⟩ := hv
    exact ⟨b, rfl, .of (n2.gh _ _ hb)⟩
  · have n3 : Nx [] G1 (L2.upd H1 f (LamO f q ps body sc c')) G1 (L2.upd (L2.upd H1 f (LamO f q ps body sc c')) p (.lst ys)) := Nx.own n2.gh hp
    exact k p G1 _ (n1.trans (n2.trans n3).pure) (t1.go (n2.trans n3) (by simp)) (n1.fresh (n2.fresh hp)) ⟨ys, upd_same, n2.gh.free hp, hy⟩
/-- the first heap, the table hidden -/
def hide (H : Hp) (P : Addr) : Hp := fun b => if b = P then none else H b
theorem start_tab {ns : List Int} (h : H P = some (.tbl #[])) (hs : SqL K H a (ns.map V.int)) : Ex (hide H P) H ∧ TabAt P q (hide H P) H ∧ SqL K (hide H P) a (ns.map V.int) := by
  refine ⟨fun b o hb => ?_, ⟨by simp [hide], #[], h, ?_⟩, ?_⟩
  · unfold hide at hb
    split at hb
    · cases hb
    · exact hb
  · obtain ⟨ps, h1, h2, h3⟩ := LamX.TabS.nil (q := q) h
    rw [h] at h1
    cases h1
    exact ⟨h2, fun pos cv hc => nomatch hc⟩
  · rcases hs with (h1 | ⟨o, h1⟩) | h1
    · exact .inl (.inl (by unfold hide; rw [if_neg (fun z => by rw [z, h] at h1; cases h1)]; exact h1))
    · exact .inl (.inr ⟨o, by unfold hide; rw [if_neg (fun z => by rw [z, h] at h1; cases h1)]; exact h1⟩)
    · exact .inr h1
end
end Y
namespace Y
open PySem PySem.Spec PyProof.Rows L2
theorem call_dictTR {X : Cx} {k : Nat} (hr : Room k X.A) : CallR X (.type "dict") rDictT := call_dictT (by have := hr.un; omega)
end Y
namespace Y
open PySem PySem.Spec PyProof.Rows L2
theorem g_ckw {r : List V → List V → Hp → VK → Prop} {ta tk : TA} {σ : L2.St} {H : Hp} {Q : VK} (q : ta σ H fun vs H1 => tk σ H1 fun zs H2 => r vs zs H2 Q) : tCKw r ta tk σ H Q := q
end Y

namespace Y
open PySem PySem.Spec PyProof.Rows L2
section
variable {K : PySem.W.Frag} {α β : Type} {G H G' H' : Hp} {M : List Addr} {v : V} {c : Cell} {p A a d : Addr} {cs : List Cell} {Q : VK} {σ : L2.St} {te : TE} {tt : TT} {g : TG} {J : It} {n : Nat} {P : Nat → Hp → V → Prop} {js : List Nat}
/-- the items of a known tuple, as they are -/
theorem src_rawT {xs : List V} (h : SqT K G a xs) : SrcP M (Itt K a) G H xs.length (fun i _ x => xs[i]? = some x) where
  go := fun i G' H' n hi => ⟨xs, xs[i], n.gh.seqT (n.gg.seqT h), by simp [hi]⟩
  stop := fun i G' H' n hi => ⟨xs, n.gh.seqT (n.gg.seqT h), hi⟩
  yld := fun i G' H' x H'' n hi y => by
    obtain ⟨rfl, f⟩ := y
    exact ⟨G', Nx.refl n.gh, f xs (n.gh.seqT (n.gg.seqT h))⟩
theorem g_walkRawT {P : Addr → Prop} {xs : List V} (e : Ex G H) (h : SqT K G a xs) (q : P a) : ∃ b, V.ref a = .ref b ∧ (∃ xs, SqT K H b xs) ∧ P b := ⟨a, rfl, ⟨xs, e.seqT h⟩, q⟩
/-- a comprehension over told items, its own items told by R' -/
theorem g_lcR {R' : Hp → V → β → Prop} {es : Nat → List β} (mR : Mono R') (S : SrcP M J G H n P) (e : Ex G H) (hA : H A = none) (hM : ∀ b ∈ M, H b ≠ none) (hz : n < sizeLine) (e0 : es 0 = [])
    (hs : ∀ i v acc G' H', i < n → P i G' v → Nx M G H G' H' → PySem.Paired (R' G') acc (es i) → ∀ (QE : VK) (QN : Hp → Prop),
      (∀ y G4 H4 b, Nx M G' H' G4 H4 → R' G4 y b → es (i + 1) = es i ++ [b] → QE y H4) → (∀ G3 H3, Nx M G' H' G3 H3 → es (i + 1) = es i → QN H3) →
      g v (wipe σ js) H' fun σ2 H2 => wipe σ2 js = wipe σ js ∧ tt σ2 H2 fun b H3 => if b = true then te σ2 H3 QE else QN H3)
    (hd : ∀ G' H', Nx M G H G' H' → LsR R' A G' H' (es n) → Q (.ref A) H') : LcW J g tt te js σ A Q H := by
  refine g_lcP S e hA hM hz (fun i acc G' _ => PySem.Paired (R' G') acc (es i)) (fun _ _ _ _ _ _ h => h) (fun _ _ _ _ _ _ n h => pr_mono (fun v c => mR _ _ v c n.gg) h) (by rw [e0]; exact .nil) (fun i v acc G' H' hi hp n _ hj QE QN k1 k2 => ?_) fun G' H' ys hj n g h _ => hd G' H' n ⟨ys, h, g, hj⟩
  exact hs i v acc G' H' hi hp n hj QE QN (fun y G4 H4 b n4 dy ee => k1 y G4 H4 n4 (by rw [ee]; exact pr_snoc (pr_mono (fun v c => mR _ _ v c n4.gg) hj) dy)) fun G3 H3 n3 ee => k2 G3 H3 n3 (by rw [ee]; exact pr_mono (fun v c => mR _ _ v c n3.gg) hj)
end
/-! ### the one sorted list -/
theorem sorted_uniq {α : Type} {le : α → α → Prop} (anti : ∀ a b, le a b → le b a → a = b) : ∀ {xs ys : List α}, xs.Perm ys → xs.Pairwise le → ys.Pairwise le → xs = ys
  | [], ys, h, _, _ => by rw [List.nil_perm.mp h]
  | x :: xs, [], h, _, _ => by cases List.perm_nil.mp h
  | x :: xs, y :: ys, h, h1, h2 => by
    rw [List.pairwise_cons] at h1 h2
    have e : x = y := by
      rcases List.mem_cons.mp (h.mem_iff.mp (List.mem_cons_self ..) : x ∈ y :: ys) with e | hx
      · exact e
      rcases List.mem_cons.mp (h.mem_iff.mpr (List.mem_cons_self ..) : y ∈ x :: xs) with e | hy
      · exact e.symm
      exact anti _ _ (h1.1 _ hy) (h2.1 _ hx)
    subst e
    rw [sorted_uniq anti (List.Perm.cons_inv h) h1.2 h2.2]
def lexLe (p q : Cell) : Bool := decide (p.1 < q.1 ∨ p.1 = q.1 ∧ p.2 ≤ q.2)
theorem lexLe_trans (a b c : Cell) (h1 : lexLe a b = true) (h2 : lexLe b c = true) : lexLe a c = true := by
  unfold lexLe at *
  rw [decide_eq_true_eq] at *
  omega
theorem lexLe_total (a b : Cell) : (lexLe a b || lexLe b a) = true := by
  unfold lexLe
  rw [Bool.or_eq_true, decide_eq_true_eq, decide_eq_true_eq]
  omega
theorem lexLe_anti (a b : Cell) (h1 : lexLe a b = true) (h2 : lexLe b a = true) : a = b := by
  unfold lexLe at *
  rw [decide_eq_true_eq] at *
  exact Prod.ext (by omega) (by omega)
theorem yxLe_trans (a b c : Cell) (h1 : yxLe a b = true) (h2 : yxLe b c = true) : yxLe a c = true := by
  unfold yxLe at *
  rw [decide_eq_true_eq] at *
  omega
theorem yxLe_total (a b : Cell) : (yxLe a b || yxLe b a) = true := by
  unfold yxLe
  rw [Bool.or_eq_true, decide_eq_true_eq, decide_eq_true_eq]
  omega
theorem yxLe_anti (a b : Cell) (h1 : yxLe a b = true) (h2 : yxLe b a = true) : a = b := by
  unfold yxLe at *
  rw [decide_eq_true_eq] at *
  exact Prod.ext (by omega) (by omega)
theorem lexLe_not {p q : Cell} : SrtO.lexB q p = false → lexLe p q = true := fun h => by
  unfold lexLe
  unfold SrtO.lexB at h
  rw [decide_eq_true_eq]
  split at h
  · have := of_decide_eq_false h
    omega
  · have := of_decide_eq_false h
    omega
theorem inRows_perm {cs ds : List Cell} (h : cs.Perm ds) : cs.mergeSort yxLe = ds.mergeSort yxLe :=
  sorted_uniq (le := fun a b => yxLe a b = true) yxLe_anti ((List.mergeSort_perm _ _).trans (h.trans (List.mergeSort_perm _ _).symm)) (List.pairwise_mergeSort yxLe_trans yxLe_total _) (List.pairwise_mergeSort yxLe_trans yxLe_total _)
def swp (c : Cell) : Cell := (c.2, c.1)
theorem rows_swap {cs : List Cell} : ((cs.map swp).mergeSort lexLe).map swp = cs.mergeSort yxLe := by
  refine sorted_uniq (le := fun a b => yxLe a b = true) yxLe_anti ?_ ?_ (List.pairwise_mergeSort yxLe_trans yxLe_total _)
  · have h1 := (List.mergeSort_perm (cs.map swp) lexLe).map swp
    have e : (cs.map swp).map swp = cs := by
      rw [List.map_map]
      have : cs.map (swp ∘ swp) = cs.map id := List.map_congr_left fun c _ => rfl
      rw [this, List.map_id]
    rw [e] at h1
    exact h1.trans (List.mergeSort_perm _ _).symm
  · refine List.pairwise_map.mpr ((List.pairwise_mergeSort lexLe_trans lexLe_total _).imp fun {a b} h => ?_)
    unfold lexLe at h
    unfold yxLe swp
    simpa using h
/-- sorted of cells by column, then row -/
def cellV (H : Hp) (v : V) : Cell := match v with
  | .ref t => match H t with
    | some (.tup [.int x, .int y]) => (x, y)
    | _ => (0, 0)
  | _ => (0, 0)
theorem cellV_of {G H : Hp} {v : V} {c : Cell} (e : Ex G H) (h : Cl G v c) : cellV H v = c := by
  obtain ⟨b, rfl, hb⟩ := h
  show (match H b with | some (.tup [.int x, .int y]) => ((x, y) : Cell) | _ => (0, 0)) = c
  rw [e _ _ hb]
theorem g_srtP {K : PySem.W.Frag} {G H : Hp} {a : Addr} {cs : List Cell} {Q : VK} (e : Ex G H) (r : ClsAt a G H cs) (q : ∀ p H', Nx [] G H G H' → H p = none → ClsAt p G H' (cs.mergeSort lexLe) → Q (.ref p) H') : rSortedPO K [.ref a] H Q := by
  obtain ⟨vs, h, g, hp⟩ := r
  have hm : ∀ v ∈ vs, Cl G v (cellV H v) := fun v hv => by
    obtain ⟨i, hi⟩ := List.getElem?_of_mem hv
    obtain ⟨c, _, hc⟩ := pr_got hp hi
    rw [cellV_of e hc]
    exact hc
  have hcs : vs.map (cellV H) = cs := by
    clear h g hm q
    induction hp with
    | nil => rfl
    | cons a _ ih => rw [List.map_cons, cellV_of e a, ih]
  refine ⟨a, vs, cellV H, rfl, .of h, fun x hx => ?_, fun ys p hs hst hpn => q p _ (Nx.own e hpn) hpn ⟨ys, upd_same, e.free hpn, ?_⟩⟩
  · obtain ⟨b, rfl, hb⟩ := hm x hx
    exact ⟨b, rfl, e _ _ hb⟩
  · have e1 : ys.map (cellV H) = cs.mergeSort lexLe := by
      refine sorted_uniq (le := fun a b => lexLe a b = true) lexLe_anti ?_ ?_ (List.pairwise_mergeSort lexLe_trans lexLe_total _)
      · have := hst.perm.map (cellV H)
        rw [hcs] at this
        exact this.trans (List.mergeSort_perm _ _).symm
      · exact List.pairwise_map.mpr (hs.imp fun {x y} h => lexLe_not h)
    rw [← e1]
    have hm2 : ∀ v ∈ ys, Cl G v (cellV H v) := fun v hv => hm v (hst.perm.mem_iff.mp hv)
    clear e1 hst hs
    induction ys with
    | nil => exact .nil
    | cons y ys ih => exact .cons (hm2 y (by simp)) (ih fun v hv => hm2 v (List.mem_cons_of_mem _ hv))
end Y
namespace Y
open PySem PySem.Spec PyProof.Rows L2
def KeysW (R : It → Hp → Prop) (x : V) (H1 : Hp) : Prop := ∃ d o, x = .ref d ∧ ((∃ kvs, H1 d = some (.frz o (.dK kvs)) ∧ R (Itk d o kvs) H1) ∨ ∃ kvs, H1 d = some (.frz o (.dT kvs)) ∧ R (Itkt d o kvs) H1)
theorem g_iKeys0 {td : TE} {σ : L2.St} {H : Hp} {R : It → Hp → Prop} (q : td σ H fun x H1 => KeysW R x H1) : iKeys td σ H R := q
theorem g_keysT {R : It → Hp → Prop} {H : Hp} {d : Addr} {o : Obj} {kvs : List (List L2.Key × V)} (h : H d = some (.frz o (.dT kvs))) (q : R (Itkt d o kvs) H) : KeysW R (.ref d) H := ⟨d, o, rfl, .inr ⟨kvs, h, q⟩⟩
theorem lsR_new {α : Type} {R : Hp → V → α → Prop} {p d : Addr} {G H : Hp} {as : List α} {o : HO} (r : LsR R p G H as) (h : d ≠ p) : LsR R p G (L2.upd H d o) as := r.upd h
end Y

/-! ### min(.., key = a lambda whose keys are pairs of ints) -/
namespace Y
open PySem PySem.Spec PyProof.Rows L2
def lt2 (a b : Int × Int) : Bool := HT.lexLt [a.1, a.2] [b.1, b.2]
theorem lt2_iff {a b : Int × Int} : lt2 a b = true ↔ (a.1 < b.1 ∨ a.1 = b.1 ∧ a.2 < b.2) := by
  unfold lt2
  rw [HT.lexLt_cons, HT.lexLt_cons, HT.lexLt_nil_nil]
  by_cases h : a.1 = b.1
  · rw [if_pos h]
    by_cases h2 : a.2 = b.2
    · rw [if_pos h2]; simp; omega
    · rw [if_neg h2, decide_eq_true_eq]; omega
  · rw [if_neg h, decide_eq_true_eq]; omega
theorem min_name : (toString "min" ++ toString ".loop" : String) = "min.loop" := by decide +kernel
/-- all but what is at I and S is kept -/
def Kept2 (I S : Addr) (h h' : Heap) : Prop := ∀ b o, b ≠ I → b ≠ S → h.get? b = some o → h'.get? b = some o
theorem reads_pair {h : Heap} {v : Value} {a b : Int} (r : Reads h v (.tuple [.int a, .int b]) []) : ∃ t ta tb, v = .ref t ∧ IsTup h t #[.int a ta, .int b tb] := by
  cases r with
  | tuple h1 h2 h3 h4 =>
    rename_i t o vs n
    cases vs with
    | mk l =>
    generalize hz : ([] : List Addr) = as at h4
    cases h4 with
    | cons r1 r2 =>
    cases r1
    cases r2 with
    | cons r3 r4 =>
    cases r3
    cases r4
    exact ⟨t, _, _, rfl, o, h1, h2, n, h3⟩
section
variable {prog : Program} {w : World} {A : Around} {s : Shared} {I S f : Addr} {n : Nat} {P : Nat → Value → Prop} {St : Nat → Heap → Prop} {fp : List Addr} {kd : Nat → Int × Int} {R : Result → Shared → Prop}
theorem mk_loop (hu : A.units + 10 < cLine) (W : Walks prog w A.in1 I fp [I] n P St) (hSf : S ∉ fp) (hIS : S ≠ I) (hI : ∀ j h items, St j h → ¬ IsTup h I items)
    (key : ∀ i v h tk, i < n → P i v → Kept2 I S s.heap h → wpAny (model prog w) A.in1 (call (.ref f) [v]) (PySem.W.KeyPure (.tuple [.int (kd i).1, .int (kd i).2]) { heap := h, gens := s.gens, drawn := s.drawn, toks := tk, os := s.os }) (fun _ _ => False) { heap := h, gens := s.gens, drawn := s.drawn, toks := tk, os := s.os })
    (fin : ∀ b v h tk, b < n → P b v → (∀ i, i < n → lt2 (kd i) (kd b) = false) → Kept2 I S s.heap h → R (.ok (.ret v)) { heap := h, gens := s.gens, drawn := s.drawn, toks := tk, os := s.os }) :
    ∀ (r j b : Nat) (h : Heap) (tk : Nat) (vb : Value) (t : Addr) (t1 t2 : Tok) (c : Nat), n - j = r → 1 ≤ j → j ≤ n → Kept2 I S s.heap h → St j h → h.get? S = some (seqObj "list" #[vb, .ref t] c) → IsTup h t #[.int (kd b).1 t1, .int (kd b).2 t2] → P b vb → b < j → (∀ i, i < j → lt2 (kd i) (kd b) = false) → t ≠ I → t ≠ S →
      codeAny (model prog w) A (.builtin "min.loop" ⟨[.ref I, .ref f, .ref S], []⟩) R { heap := h, gens := s.gens, drawn := s.drawn, toks := tk, os := s.os } := by
  intro r
  induction r with
  | zero =>
    intro j b h tk vb t t1 t2 c hr h1 hj hk hSt hS hT hP hb hmin htI htS
    have : j = n := by omega
    subst this
    refine codeAny_builtin F.entry_min_loop ?_
    rw [Around.under_plainId F.plain_min_loop]
    refine wpAny_bind (wpAny_seqItems hS rfl ?_)
    refine wpAny_bind (wpAny_tryCatch (W.done _ _ _ hSt fun h' tk' hk' => ?_))
    have hS' : h'.get? S = some (seqObj "list" #[vb, .ref t] c) := hk' _ _ (by simp [hIS]) hS
    refine wpAny_bind (wpAny_updateSeq hS' rfl ?_ (by show 2 ≤ sizeLine; decide) (by show 0 ≤ sizeLine + 1; omega))
    refine wpAny_bind (wpAny_letGo ?_)
    refine wpAny_pure ?_
    refine fin b vb _ _ hb hP hmin fun a o ha hb2 hg => ?_
    have := hk' a o (by simp [ha]) (hk a o ha hb2 hg)
    rw [← this]
    exact (Heap.SameBut.update _ _ _).2 a hb2
  | succ r ih =>
    intro j b h tk vb t t1 t2 c hr h1 hj hk hSt hS hT hP hb hmin htI htS
    have hjn : j < n := by omega
    refine codeAny_builtin F.entry_min_loop ?_
    rw [Around.under_plainId F.plain_min_loop]
    refine wpAny_bind (wpAny_seqItems hS rfl ?_)
    refine wpAny_bind (wpAny_tryCatch (W.item j _ _ _ hjn hSt fun v h' tk' hPv hSt' hk' => ?_))
    have hS' : h'.get? S = some (seqObj "list" #[vb, .ref t] c) := hk' _ _ (by simp [hIS]) hS
    have kept' : Kept2 I S s.heap h' := fun a o ha hb2 hg => hk' a o (by simp [ha]) (hk a o ha hb2 hg)
    refine wpAny_bind (wpAny_tryCatch (wpAny_holding (wpAny_mono (key j v h' tk' hjn hPv kept') (fun kv s2 hkp => ?_) (fun _ _ z => z.elim))))
    obtain ⟨h2, tk2, rfl, keep2, hr2⟩ := hkp
    obtain ⟨u, ta, tb, rfl, hU⟩ := reads_pair hr2
    have hS2 : h2.get? S = some (seqObj "list" #[vb, .ref t] c) := keep2 _ _ hS'
    have hT2 : IsTup h2 t #[.int (kd b).1 t1, .int (kd b).2 t2] := by
      obtain ⟨o, k1, k2⟩ := hT
      exact ⟨o, keep2 _ _ (hk' _ _ (by simp [htI]) k1), k2⟩
    have hSt2 : St (j + 1) h2 := W.frame _ _ _ hSt' fun a _ o ho => keep2 a o ho
    have kept2 : Kept2 I S s.heap h2 := fun a o ha hb2 hg => keep2 a o (kept' a o ha hb2 hg)
    refine wpAny_bind (wpAny_tryCatch (wpAny_holding (wpAny_bind ?_)))
    have cmp : ∀ (Q E : Value → Shared → Prop), Q (.bool (lt2 (kd j) (kd b))) { heap := h2, gens := s.gens, drawn := s.drawn, toks := tk2, os := s.os } → wpAny (model prog w) A.in1 (richCompare .Lt (.ref u) (.ref t)) Q E { heap := h2, gens := s.gens, drawn := s.drawn, toks := tk2, os := s.os } := fun Q E q =>
      HT.lt_tupInts (s := { heap := h2, gens := s.gens, drawn := s.drawn, toks := tk2, os := s.os }) hU hT2 (.cons _ _ (.cons _ _ .nil)) (.cons _ _ (.cons _ _ .nil)) (by show A.units + 1 < cLine; omega) q
    refine cmp _ _ ?_
    refine wpAny_bind (wpAny_holding (wpAny_truthy_bool ?_))
    refine wpAny_bind (wpAny_letGo (wpAny_pure ?_))
    have huI : u ≠ I := fun z => hI _ _ _ hSt2 (z ▸ hU)
    have huS : u ≠ S := fun z => by
      obtain ⟨o, k1, k2, _⟩ := hU
      rw [z, hS2] at k1
      cases k1
      injection k2 with k2
      exact absurd k2 (by decide)
    cases hlt : lt2 (kd j) (kd b) with
    | true =>
      refine wpAny_bind (wpAny_updateSeq hS2 rfl ?_ (by show 2 ≤ sizeLine; decide) (by show 2 ≤ sizeLine + 1; decide))
      refine wpAny_bind (wpAny_letGo ?_)
      refine wpAny_pure ?_
      rw [min_name]
      refine ⟨plainId_quiet F.plain_min_loop _, ?_⟩
      refine ih (j + 1) j _ tk2 v u ta tb _ (by omega) (by omega) (by omega) (fun a o ha hb2 hg => ?_) (W.frame _ _ _ hSt2 fun a hfa o ho => ?_) (get?_update_seq hS2 _) ?_ hPv (by omega) (fun i hi => ?_) huI huS
      · rw [← kept2 a o ha hb2 hg]
        exact (Heap.SameBut.update _ _ _).2 a hb2
      · rw [← ho]
        exact (Heap.SameBut.update _ _ _).2 a fun z => hSf (z ▸ hfa)
      · obtain ⟨o, k1, k2⟩ := hU
        exact ⟨o, by rw [← k1]; exact (Heap.SameBut.update _ _ _).2 u huS, k2⟩
      · cases hx : lt2 (kd i) (kd j) with
        | false => rfl
        | true =>
          by_cases hij : i = j
          · subst hij
            have := lt2_iff.mp hx
            omega
          · have a1 := hmin i (by omega)
            have a2 := lt2_iff.mp hx
            have a3 := lt2_iff.mp hlt
            have : lt2 (kd i) (kd b) = true := lt2_iff.mpr (by omega)
            rw [this] at a1
            cases a1
    | false =>
      refine wpAny_bind (wpAny_letGo ?_)
      refine wpAny_pure ?_
      rw [min_name]
      refine ⟨plainId_quiet F.plain_min_loop _, ?_⟩
      refine ih (j + 1) b _ tk2 vb t t1 t2 c (by omega) (by omega) (by omega) kept2 hSt2 hS2 hT2 hP (by omega) (fun i hi => ?_) htI htS
      by_cases hij : i = j
      · rw [hij]; exact hlt
      · exact hmin i (by omega)
theorem mk_first (hu : A.units + 10 < cLine) (W : Walks prog w A.in1 I fp [I] n P St) (hSf : S ∉ fp) (hIS : S ≠ I) (hI : ∀ j h items, St j h → ¬ IsTup h I items) (hn : 0 < n)
    (key : ∀ i v h tk, i < n → P i v → Kept2 I S s.heap h → wpAny (model prog w) A.in1 (call (.ref f) [v]) (PySem.W.KeyPure (.tuple [.int (kd i).1, .int (kd i).2]) { heap := h, gens := s.gens, drawn := s.drawn, toks := tk, os := s.os }) (fun _ _ => False) { heap := h, gens := s.gens, drawn := s.drawn, toks := tk, os := s.os })
    (fin : ∀ b v h tk, b < n → P b v → (∀ i, i < n → lt2 (kd i) (kd b) = false) → Kept2 I S s.heap h → R (.ok (.ret v)) { heap := h, gens := s.gens, drawn := s.drawn, toks := tk, os := s.os })
    (hSt : St 0 s.heap) (hS : s.heap.get? S = some (seqObj "list" #[] 0)) : codeAny (model prog w) A (.builtin "min.loop" ⟨[.ref I, .ref f, .ref S], []⟩) R s := by
  refine codeAny_builtin F.entry_min_loop ?_
  rw [Around.under_plainId F.plain_min_loop]
  refine wpAny_bind (wpAny_seqItems hS rfl ?_)
  refine wpAny_bind (wpAny_tryCatch (W.item 0 _ _ _ hn hSt fun v h' tk' hPv hSt' hk' => ?_))
  have hS' : h'.get? S = some (seqObj "list" #[] 0) := hk' _ _ (by simp [hIS]) hS
  have kept' : Kept2 I S s.heap h' := fun a o ha hb2 hg => hk' a o (by simp [ha]) hg
  refine wpAny_bind (wpAny_tryCatch (wpAny_holding (wpAny_mono (key 0 v h' tk' hn hPv kept') (fun kv s2 hkp => ?_) (fun _ _ z => z.elim))))
  obtain ⟨h2, tk2, rfl, keep2, hr2⟩ := hkp
  obtain ⟨u, ta, tb, rfl, hU⟩ := reads_pair hr2
  have hS2 : h2.get? S = some (seqObj "list" #[] 0) := keep2 _ _ hS'
  have hSt2 : St 1 h2 := W.frame _ _ _ hSt' fun a _ o ho => keep2 a o ho
  have kept2 : Kept2 I S s.heap h2 := fun a o ha hb2 hg => keep2 a o (kept' a o ha hb2 hg)
  have huI : u ≠ I := fun z => hI _ _ _ hSt2 (z ▸ hU)
  have huS : u ≠ S := fun z => by
    obtain ⟨o, k1, k2, _⟩ := hU
    rw [z, hS2] at k1
    cases k1
    injection k2 with k2
    exact absurd k2 (by decide)
  refine wpAny_bind (wpAny_updateSeq hS2 rfl ?_ (by show 0 ≤ sizeLine; omega) (by show 2 ≤ sizeLine + 1; decide))
  refine wpAny_pure ?_
  rw [min_name]
  refine ⟨plainId_quiet F.plain_min_loop _, ?_⟩
  refine mk_loop hu W hSf hIS hI key fin (n - 1) 1 0 _ tk2 v u ta tb _ rfl (by omega) (by omega) (fun a o ha hb2 hg => ?_) (W.frame _ _ _ hSt2 fun a hfa o ho => ?_) (get?_update_seq hS2 _) ?_ hPv (by omega) (fun i hi => ?_) huI huS
  · rw [← kept2 a o ha hb2 hg]
    exact (Heap.SameBut.update _ _ _).2 a hb2
  · rw [← ho]
    exact (Heap.SameBut.update _ _ _).2 a fun z => hSf (z ▸ hfa)
  · obtain ⟨o, k1, k2⟩ := hU
    exact ⟨o, by rw [← k1]; exact (Heap.SameBut.update _ _ _).2 u huS, k2⟩
  · have : i = 0 := by omega
    subst this
    cases hx : lt2 (kd 0) (kd 0) with
    | false => rfl
    | true =>
      have := lt2_iff.mp hx
      omega
end
theorem mk_min {prog : Program} {w : World} {A : Around} {s : Shared} {d f : Addr} {kvs : List (L2.Key × Value)} {kd : Nat → Int × Int} {Q E : Value → Shared → Prop} (hd : A.handled = none) (hu : A.units + 10 < cLine) (hs : (d == sysModules) = false) (hD : Heap.DictOf (mixKind prog w) s.heap d kvs) (hn : 0 < kvs.length)
    (key : ∀ i v h tk, i < kvs.length → (∃ k x, kvs[i]? = some (k, x) ∧ (mixKind prog w).is k v = true) → (∀ b o, s.heap.get? b = some o → h.get? b = some o) → wpAny (model prog w) A.in1 (call (.ref f) [v]) (PySem.W.KeyPure (.tuple [.int (kd i).1, .int (kd i).2]) { heap := h, gens := s.gens, drawn := s.drawn, toks := tk, os := s.os }) (fun _ _ => False) { heap := h, gens := s.gens, drawn := s.drawn, toks := tk, os := s.os })
    (fin : ∀ b v h tk, b < kvs.length → (∃ k x, kvs[b]? = some (k, x) ∧ (mixKind prog w).is k v = true) → (∀ i, i < kvs.length → lt2 (kd i) (kd b) = false) → (∀ b o, s.heap.get? b = some o → h.get? b = some o) → Q v { heap := h, gens := s.gens, drawn := s.drawn, toks := tk, os := s.os }) :
    wpAny (model prog w) A (call (.builtin "min") [.ref d] [(Str.ofString "key", .ref f)]) Q E s := by
  obtain ⟨ep, hDA⟩ := hD.dictAt
  refine kmb_tree F.kind_min F.plain_min F.entry_min (kmb_min_key _ _) ?_
  refine wpAny_bind (wpAny_of_eq (show _ = pure [some (Value.ref f), none] from rfl) ?_)
  refine wpAny_bind (wpAny_pure ?_)
  refine wpAny_bind (wpAny_pyIter_dict hs hDA ?_)
  refine wpAny_bind (wpAny_newList ?_)
  refine wpAny_pure ?_
  rw [min_name]
  refine ⟨plainId_quiet F.plain_min_loop _, ?_⟩
  generalize hoI : ({ cls := Value.type "dict_keyiterator", data := Data.fields #[Value.ref d, Value.int 0 0, Value.int (↑kvs.length) 0, Value.int (↑ep) 0] } : Obj) = oI
  have fI : oI.isFreed = false := by rw [← hoI]; rfl
  have sz1 : (s.heap.push oI).objs.size = s.heap.objs.size + 1 := size_push' _ _
  have old1 : ∀ b o, s.heap.get? b = some o → (s.heap.push oI).get? b = some o := fun b o hb => Heap.get?_push_of_some _ hb
  have old2 : ∀ b o, (s.heap.push oI).get? b = some o → ((s.heap.push oI).push { cls := Value.type "list", data := Data.seq #[] }).get? b = some o := fun b o hb => Heap.get?_push_of_some _ hb
  have hlt : ∀ b o, s.heap.get? b = some o → b < s.heap.objs.size := fun b o hb => Heap.lt_size hb
  have hdlt : d < s.heap.objs.size := by
    obtain ⟨o, es, h1, _⟩ := hDA
    exact hlt _ _ h1
  have up : ∀ h : Heap, Kept2 s.heap.objs.size (s.heap.push oI).objs.size ((s.heap.push oI).push { cls := Value.type "list", data := Data.seq #[] }) h → ∀ b o, s.heap.get? b = some o → h.get? b = some o := fun h hk b o hb => by
    have := hlt b o hb
    exact hk b o (Nat.ne_of_lt this) (by rw [sz1]; exact Nat.ne_of_lt (Nat.lt_succ_of_lt this)) (old2 _ _ (old1 _ _ hb))
  have sNot : (s.heap.push oI).objs.size ∉ [s.heap.objs.size, d] := fun z => by
    rw [sz1] at z
    rcases List.mem_cons.mp z with z | z
    · exact Nat.succ_ne_self _ z
    · rw [← List.mem_singleton.mp z] at hdlt
      exact Nat.not_succ_lt_self hdlt
  refine mk_first (n := kvs.length) (kd := kd) (I := s.heap.objs.size) (S := (s.heap.push oI).objs.size) hu (Walks.dictKeys (A := A.in1) (knd := mixKind prog w) hd s.heap.objs.size d (Nat.ne_of_lt hdlt) kvs ep) sNot (by rw [sz1]; exact Nat.succ_ne_self _) (fun j h items hst ⟨o, k1, k2, _⟩ => ?_) hn (fun i v h tk hi hP hk => key i v h tk hi hP (up h hk)) (fun b v h tk hb hP hm hk => fin b v h tk hb hP hm (up h hk)) ⟨⟨oI, old2 _ _ (Heap.get?_push_size _ fI), by rw [← hoI], by rw [← hoI]; rfl⟩, ?_⟩ (Heap.get?_push_size _ rfl)
  · obtain ⟨⟨o2, e1, e2, _⟩, _⟩ := hst
    rw [e1] at k1
    cases k1
    rw [e2] at k2
    injection k2 with k2
    exact absurd k2 (by decide)
  · obtain ⟨o, es, h1, h2⟩ := hDA
    exact ⟨o, es, old2 _ _ (old1 _ _ h1), h2⟩
/-! ### the lambda: (-tally[value], value), tally captured -/
structure LamMT (ps : Arguments) (body : Expr) (sc : Scope) : Prop where
  co : sc.isCoroutine = false
  gen : sc.isGenerator = false
  kind : sc.kind = .function
  nm : sc.names = [(("value" : Str), NameKind.local), (("tally" : Str), NameKind.free)]
  bind : ∀ (q : Str) (cl : List (Str × Addr)) (pm cv ctv v : Value), bindArgs (PySem.W.kla_fn "<lambda>" q ps body sc cl pm cv ctv) ⟨[v], []⟩ = pure [(("value" : Str), v)]
  dfl : ∀ env, defaultsOf ps env = ([], [])
  body : ∃ p1 p2 p3 p4 p5 p6 k1, body = .Tuple [.UnaryOp .USub (.Subscript (.Name "tally" p1) (.Name "value" p2) p3) p4, .Name "value" p5] k1 p6
theorem lam_mt {prog : Program} {w : World} {A : Around} {s : Shared} {f d c0 c' : Addr} {q : Str} {ps : Arguments} {body : Expr} {sc : Scope} {cl : List (Str × Addr)} {pm ctv : Value} {kvs : List (L2.Key × Value)} {k n : Int} {tk0 tv0 : Tok} (L : LamMT ps body sc)
    (hA : A.depth + 2 < recursionLimit) (hf : s.heap.get? f = some (PySem.W.kla_obj "<lambda>" q ps body sc cl pm c' ctv)) (hc : s.heap.CodeRec (.ref c') q) (hn : s.heap.NoLimit) (hcl : List.lookup ("tally" : Str) cl = some c0) (hc0 : s.heap.IsCell c0 (some (.ref d))) (hD : Heap.DictOf (mixKind prog w) s.heap d kvs) (hv : valueAt kvs (Sum.inl k : L2.Key) = some (.int n tv0)) :
    wpAny (model prog w) A (call (.ref f) [.int k tk0]) (PySem.W.KeyPure (.tuple [.int (-n), .int k]) s) (fun _ _ => False) s := by
  refine wpAny_call ?_
  refine PySem.W.kla_callFunE (by omega) hf rfl L.co L.gen rfl hc ?_
  rw [L.bind]
  refine wpAny_pure ?_
  refine wpAny_newFunctionEnv (fun y hy => ?_) (fun y hy => ?_) (fun h' hN hS => ⟨hn.fresh _ hS, ?_⟩) L.kind
  · rw [show (PySem.W.kla_fn "<lambda>" q ps body sc cl pm (.ref c') ctv).scope.names = sc.names from rfl, L.nm] at hy
    simp only [List.mem_cons, List.not_mem_nil, or_false] at hy
    rcases hy with rfl | rfl <;> exact fun z => nomatch z
  · simp only [List.mem_cons, List.not_mem_nil, or_false] at hy
    subst hy
    show List.lookup _ sc.names = _
    rw [L.nm]
    rfl
  have old : ∀ b o, s.heap.get? b = some o → h'.get? b = some o := fun b o hb => by
    rw [hS.2 b (Nat.ne_of_lt (Heap.lt_size hb))]
    exact Heap.get?_push_of_some _ hb
  have hC : h'.IsCell c0 (some (.ref d)) := by
    obtain ⟨o, h1, h2⟩ := hc0
    exact ⟨o, old _ _ h1, h2⟩
  have hD' : Heap.DictOf (mixKind prog w) h' d kvs := hD.at fun o ho => old _ _ ho
  refine PySem.W.kla_codeExpr ?_
  obtain ⟨p1, p2, p3, p4, p5, p6, k1, hb⟩ := L.body
  rw [hb]
  refine wpAny_Tuple_spliced ?_
  have kv : ∀ E, (newEnv sc s.heap.objs.size mainGlobals cl E (some f) (.ref c') none builtinsNs).kindOf "value" = some .local := fun E => by show List.lookup _ sc.names = _; rw [L.nm]; rfl
  have kt : ∀ E, (newEnv sc s.heap.objs.size mainGlobals cl E (some f) (.ref c') none builtinsNs).kindOf "tally" = some .free := fun E => by show List.lookup _ sc.names = _; rw [L.nm]; rfl
  have hloc : (List.lookup ("value" : Str) [(("value" : Str), Value.int k tk0)].reverse : Option Value) = some (.int k tk0) := rfl
  refine spliced_more ?_ rfl
  refine wpAny_UnaryOp ?_
  refine wpAny_Subscript_Name_late ?_
  refine wpAny_Name ?_
  refine wpAny_loadName_free L.kind (kt _) hcl hC ?_
  refine wpAny_Name ?_
  refine wpAny_loadName_local (m := fun x => List.lookup x [(("value" : Str), Value.int k tk0)].reverse) L.kind (kv _) hN hloc ?_
  refine ⟨"dict", "dict.__getitem__", F.slot_dict_getitem.lookup, hD'.typeIs, wpAny_getItem_of (knd := mixKind prog w) (k := Sum.inl k) ?_ hD'.mapOf hv ?_⟩
  · show Value.isInt k (.int k tk0) = true
    simp [Value.isInt]
  refine PyProof.Rows.neg_int ?_
  refine spliced_more ?_ rfl
  refine wpAny_Name ?_
  refine wpAny_loadName_local (m := fun x => List.lookup x [(("value" : Str), Value.int k tk0)].reverse) L.kind (kv _) hN hloc ?_
  refine spliced_none ?_
  refine ⟨by show 2 ≤ sizeLine; decide, ?_⟩
  refine ⟨_, _, rfl, fun b o hb => Heap.get?_push_of_some _ (old b o hb), ?_⟩
  refine .tuple (Heap.get?_push_size _ rfl) rfl rfl ?_
  exact .cons (.int (-n) _) (.cons (.int k tk0) .nil)
end Y
/-! ### the expression -/
namespace Y
open PySem PySem.Spec PyProof.Rows L2
/-- a dict of ints that stands, just so -/
def intK (m : List (Int × Int)) : List (L2.Key × V) := m.map fun e => ((Sum.inl e.1 : L2.Key), V.int e.2)
def tMinMT (P : Addr) (q : Str) (i : Nat) : TE := fun σ H Q => LamX.TabS H P q ∧ ∃ d m, σ[i]? = some (some (.ref d)) ∧ H d = some (.dK (intK m)) ∧ m ≠ [] ∧
  ∀ H1 c' k n, LamG P q H H1 c' → LamX.TabS H1 P q → (k, n) ∈ m → (∀ e ∈ m, lt2 (-e.2, e.1) (-n, k) = false) → Q (.int k) H1
theorem kv_int : ∀ {m : List (Int × Int)} {vs : List (L2.Key × Value)}, KV (intK m) vs → vs.length = m.length ∧ ∀ (i : Nat) (e : Int × Int), m[i]? = some e → ∃ t, vs[i]? = some ((Sum.inl e.1 : L2.Key), Value.int e.2 t)
  | [], _, .nil => ⟨rfl, fun i e h => by simp at h⟩
  | e :: m, _, .cons (b := b) h r => by
    obtain ⟨h1, h2⟩ := kv_int (m := m) r
    refine ⟨by rw [List.length_cons, List.length_cons, h1], fun i e' he => ?_⟩
    cases i with
    | zero =>
      cases he
      obtain ⟨k1, t, k2⟩ := h
      obtain ⟨b1, b2⟩ := b
      simp only at k1 k2
      subst k1 k2
      exact ⟨t, rfl⟩
    | succ i => exact h2 i e' he
theorem valueAt_nd : ∀ {vs : List (L2.Key × Value)} {i : Nat} {k : L2.Key} {x : Value}, (vs.map (·.1)).Nodup → vs[i]? = some (k, x) → valueAt vs k = some x
  | [], i, k, x, _, h => by simp at h
  | (k0, x0) :: vs, 0, k, x, _, h => by
    cases h
    unfold valueAt
    rw [List.find?_cons_of_pos (by simp)]
    rfl
  | (k0, x0) :: vs, i + 1, k, x, hn, h => by
    rw [List.map_cons, List.nodup_cons] at hn
    have hk : k ∈ vs.map (·.1) := List.mem_map.mpr ⟨(k, x), List.mem_of_getElem? h, rfl⟩
    have hne : k0 ≠ k := fun z => hn.1 (z ▸ hk)
    have := valueAt_nd (i := i) hn.2 h
    unfold valueAt at this ⊢
    rw [List.find?_cons_of_neg (by simpa using hne)]
    exact this
theorem pe_minMT {X : Cx} {k0 i : Nat} {c P : Addr} {ps : Arguments} {body : Expr} {sc : Scope} {p pt lpos kp pos : Pos} (hr : Room k0 X.A) (hg : Gl X "min") (hm : X.mg "min" = none) (L : LamMT ps body sc) (TB : LamX.TabB X.base X.mg c P) (hcode : X.env.code = .ref c) (hN : X.N[i]? = some "tally") (hk : X.env.kindOf "tally" = some .cell) (hvis : Vis X.env.scope "tally") (ha : PA X [.Name "tally" pt] (tCons (tVar i) tNil))
    (he : backTo pos (starEach [.Name "tally" pt] X.env) = (false, eval (.Name "tally" pt) X.env) :: backTo pos (starEach [] X.env) := by rfl) (hpl : (backTo pos (starEach [.Name "tally" pt] X.env)).any (·.1) = false := by rfl)
    (hall : (backToKw pos (keywordEach [⟨some (Str.ofString "key"), .Lambda ps body sc lpos, kp⟩] X.env)).all (·.1.isSome) = true := by rfl) (hnone : (backToKw pos (keywordEach [⟨some (Str.ofString "key"), .Lambda ps body sc lpos, kp⟩] X.env)).any (·.1.isNone) = false := by rfl) :
    PE X (.Call (.Name "min" p) [.Name "tally" pt] [⟨some (Str.ofString "key"), .Lambda ps body sc lpos, kp⟩] pos) (tMinMT P (X.env.qual ++ "<lambda>") i) := by
  refine ⟨fun pins s0 σ H Q I0 h => ?_⟩
  obtain ⟨⟨tab, hP, hT, hA⟩, d, m, hσ, hd, hne, q⟩ := h
  refine wpAny_Call_Name_kw (ld_blt I0 hg hm (by rfl) ?_)
  refine PyProof.Rows.callWith_kw (thn (ha.run pos pins s0 σ H (fun vs H1 => vs = [.ref d] ∧ H1 = H) I0 ⟨_, hσ, rfl, rfl⟩) fun us s ⟨vs, H1, I, r1, e1, e2⟩ => ?_) he hpl hall hnone
  subst e1 e2
  obtain rfl := Vals.ref1 r1
  -- the cell of the dict
  obtain ⟨c0, hc0, hcell⟩ : ∃ c0, List.lookup ("tally" : Str) X.env.cells = some c0 ∧ s.heap.IsCell c0 (some (.ref d)) := by
    obtain ⟨mm, _, hl⟩ := I.loc
    obtain ⟨u, hu, hlook⟩ := hl i "tally" (.ref d) hN hσ hvis
    cases hu
    rcases hlook with ⟨z, _⟩ | ⟨_, c0, z1, z2⟩
    · rw [hk] at z; cases z
    · exact ⟨c0, z1, z2⟩
  have hfree : ∀ y ∈ sc.names, y.2 = NameKind.free → ∃ c, List.lookup y.1 X.env.cells = some c := fun y hy hf => by
    rw [L.nm] at hy
    simp only [List.mem_cons, List.not_mem_nil, or_false] at hy
    rcases hy with rfl | rfl
    · cases hf
    · exact ⟨c0, hc0⟩
  have hclo : List.lookup ("tally" : Str) (cloFrom X.env.cells sc.names []) = some c0 := by
    rw [L.nm]
    show List.lookup ("tally" : Str) [(("tally" : Str), (List.lookup ("tally" : Str) X.env.cells).getD 0)] = some c0
    rw [hc0]
    rfl
  have hPo : s.heap.get? P = some (PySem.W.tabObj tab) := I.hok P _ hP
  -- the call, whatever the heap is by then
  have fin : ∀ (H2 : Hp) (h' : Heap) (f c' : Addr) (tk : Nat) (pm ctv : Value), Inv X pins σ H2 { heap := h', gens := s.gens, drawn := s.drawn, toks := tk, os := s.os } → (∀ b o, b ≠ P → s.heap.get? b = some o → h'.get? b = some o) → h'.get? f = some (PySem.W.kla_obj "<lambda>" (X.env.qual ++ "<lambda>") ps body sc (cloFrom X.env.cells sc.names []) pm c' ctv) → H2 c' = some (LamX.CodeO c' (X.env.qual ++ "<lambda>")) → H2 d = some (.dK (intK m)) →
      (∀ k n, (k, n) ∈ m → (∀ e ∈ m, lt2 (-e.2, e.1) (-n, k) = false) → Q (.int k) H2) →
      wpAny (model X.prog X.w) X.A (call (.builtin "min") [.ref d] [(Str.ofString "key", .ref f)]) (EP X pins σ Q) X.xe { heap := h', gens := s.gens, drawn := s.drawn, toks := tk, os := s.os } := fun H2 h' f c' tk pm ctv I2 hkp hf hc hd2 q2 => by
    obtain ⟨hl, hs, vs, hkv, hD⟩ := dk_rd I2.hok (.inl hd2)
    obtain ⟨vl, vget⟩ := kv_int hkv
    have hnd : (vs.map (·.1)).Nodup := by
      obtain ⟨_, _, _, _, _, _, _, _, z⟩ := hD
      exact z
    obtain ⟨⟨oc, cvs, ct, hco, hcd, hcs⟩, _⟩ := I2.hok c' _ hc
    have hcP : c0 ≠ P := fun z => by
      obtain ⟨o, h1, h2⟩ := hcell
      rw [z, hPo] at h1
      cases h1
      cases h2
    have hcell' : h'.IsCell c0 (some (.ref d)) := by
      obtain ⟨o, h1, h2⟩ := hcell
      exact ⟨o, hkp _ _ hcP h1, h2⟩
    have hml : 0 < m.length := List.length_pos_iff.mpr hne
    have item : ∀ (i : Nat) (k : L2.Key) (x : Value), vs[i]? = some (k, x) → ∃ e : Int × Int, m[i]? = some e ∧ k = Sum.inl e.1 ∧ ∃ t, x = Value.int e.2 t := fun i k x hx => by
      have hi : i < m.length := by rw [← vl]; exact (List.getElem?_eq_some_iff.mp hx).1
      have he : m[i]? = some m[i] := by simp [hi]
      obtain ⟨t, ht⟩ := vget i _ he
      rw [ht] at hx
      cases hx
      exact ⟨_, he, rfl, t, rfl⟩
    have asInt : ∀ (k : Int) (v : Value), (mixKind X.prog X.w).is (Sum.inl k) v = true → ∃ t, v = .int k t := fun k v hv => by
      have hv : Value.isInt k v = true := hv
      cases v with
      | int i t =>
        simp [Value.isInt] at hv
        exact ⟨t, by rw [hv]⟩
      | _ => simp [Value.isInt] at hv
    have gd : ∀ (i : Nat) (e : Int × Int), m[i]? = some e → m.getD i (0, 0) = e := fun i e he => by simp [List.getD, he]
    refine mk_min (kvs := vs) (kd := fun i => (-(m.getD i (0, 0)).2, (m.getD i (0, 0)).1)) hr.hd (by have := hr.un; omega) hs hD (by rw [vl]; exact hml) (fun i v h tk2 hi ⟨k, x, hx, hkis⟩ hkeep => ?_) (fun b v h tk2 hb ⟨k, x, hx, hkis⟩ hmin hkeep => ?_)
    · obtain ⟨e, he, rfl, t, rfl⟩ := item i k x hx
      obtain ⟨tv, rfl⟩ := asInt _ _ hkis
      simp only [gd i e he]
      have := hr.dp
      refine lam_mt (s := { heap := h, gens := s.gens, drawn := s.drawn, toks := tk2, os := s.os }) (kvs := vs) L (by show X.A.depth + 2 < recursionLimit; omega) (hkeep _ _ hf) ⟨c', oc, cvs, ct, rfl, hkeep _ _ hco, hcd, hcs⟩ (I2.nolimit.keeps hkeep) hclo ?_ (hD.at fun o ho => hkeep _ _ ho) (valueAt_nd hnd hx)
      obtain ⟨o, h1, h2⟩ := hcell'
      exact ⟨o, hkeep _ _ h1, h2⟩
    · obtain ⟨e, he, rfl, t, rfl⟩ := item b k x hx
      obtain ⟨tv, rfl⟩ := asInt _ _ hkis
      refine ⟨.int e.1, H2, I2.kept (t' := tk2) hkeep, ⟨tv, rfl⟩, q2 e.1 e.2 (List.mem_of_getElem? he) fun e2 he2 => ?_⟩
      obtain ⟨i2, hi2⟩ := List.getElem?_of_mem he2
      have := hmin i2 (by rw [vl]; exact (List.getElem?_eq_some_iff.mp hi2).1)
      simp only [gd b e he, gd i2 e2 hi2] at this
      exact this
  refine kws_cons ?_
  refine PySem.W.kla_eval (L.dfl _) ?_
  cases hit : codeAmong lpos tab.toList with
  | some cv =>
    obtain ⟨c', rfl, hc'⟩ := hA lpos cv hit
    refine PySem.W.kla_makeFunctionHit (closure_ok hfree) I.ok.glob (I.mod.glob.keeps I.bk) hcode (TB.code.keeps I.bk) hPo hT hit (TB.bm.keeps I.bk) (fun ctv h' tk k1 k2 => ?_)
    refine kws_nil ?_
    exact fin H1 _ _ c' tk _ ctv (I.kept (t' := tk) fun b o hb => Heap.get?_push_of_some _ (k1 b o hb)) (fun b o _ hb => Heap.get?_push_of_some _ (k1 b o hb)) (Heap.get?_push_size _ rfl) hc' hd (fun k n h1 h2 => q _ c' k n (.inl ⟨rfl, hc'⟩) ⟨tab, hP, hT, hA⟩ h1 h2)
  | none =>
    refine PySem.W.kla_makeFunction (closure_ok hfree) I.ok.glob (I.mod.glob.keeps I.bk) hcode (TB.code.keeps I.bk) hPo hT hit TB.gP (TB.bm.keeps I.bk) (fun c' ctv h' tk k1 k2 k3 k4 k5 => ?_)
    have hc0' : H1 c' = none := HOk.fresh I.hok k2
    have hcP : c' ≠ P := fun z => by rw [z, hP] at hc0'; cases hc0'
    obtain ⟨_, o, vs, t, e1, e2, e3, e4⟩ := k4
    cases e1
    have I1 := LamX.inv_table (more := #[rawInt ↑lpos.line, rawInt ↑lpos.col, .ref c']) (t' := tk) I hP (fun b o hb hs => k1 b o hb hs) k5 k2 ⟨o, vs, t, e2, e3, e4⟩
    have hdc : d ≠ c' := fun z => by rw [← z, hd] at hc0'; cases hc0'
    have hdP : d ≠ P := fun z => by rw [← z, hd] at hP; cases hP
    refine kws_nil ?_
    refine fin _ _ _ c' tk _ ctv (I1.kept (t' := tk) fun b o hb => Heap.get?_push_of_some _ hb) (fun b o hb2 hb => Heap.get?_push_of_some _ (k1 b o hb2 hb)) (Heap.get?_push_size _ rfl) upd_same (by rw [upd_ne hdc, upd_ne hdP]; exact hd) (fun k n h1 h2 => q _ c' k n (.inr ⟨tab, lpos, hP, hc0', rfl⟩) ⟨_, by rw [upd_ne hcP.symm, upd_same], ?_, ?_⟩ h1 h2)
    · rw [Array.toList_append]
      exact TriplesOk_snoc _ _ _ _ hT
    · intro p' cv hp
      rw [Array.toList_append] at hp
      rcases LamX.among_app _ hT hp with h | h
      · obtain ⟨c2, e, h2⟩ := hA p' cv h
        refine ⟨c2, e, ?_⟩
        have n1 : c2 ≠ c' := fun z => by rw [z, hc0'] at h2; cases h2
        have n2 : c2 ≠ P := fun z => by rw [z, hP] at h2; cases h2
        rw [upd_ne n1, upd_ne n2]
        exact h2
      · exact ⟨c', h, upd_same⟩
end Y

namespace Y
open PySem PySem.Spec PyProof.Rows L2
section
variable {X : Cx}
/-- max(o.values()) (as the library's rule for min), a dict with int values, one at least -/
def tMaxVals (td : TE) : TE := fun σ H Q => td σ H fun x H1 => ∃ a kvs is, x = V.ref a ∧ H1 a = some (.dK kvs) ∧ kvs.map (·.2) = is.map V.int ∧ is ≠ [] ∧ ∀ m, m ∈ is → (∀ j ∈ is, j ≤ m) → Q (.int m) H1
variable {o : Expr} {p pos apos mpos : Pos} {td : TE}
theorem pe_maxVals (hc : X.calm = true) (hg : Gl X "max") (hm : X.mg "max" = none) (hd : PE X o td) (hbase : attributeBase o "values" X.env (eval o X.env) = eval o X.env := by rfl) (hline : (apos.endLine == mpos.line) = true := by rfl)
    (hse : starEach [Expr.Call (.Attribute o "values" apos) [] [] mpos] X.env = [(false, eval (Expr.Call (.Attribute o "values" apos) [] [] mpos) X.env)] := by rfl) :
    PE X (.Call (.Name "max" p) [.Call (.Attribute o "values" apos) [] [] mpos] [] pos) (tMaxVals td) := by
  refine ⟨fun pins s σ H Q I h => ?_⟩
  refine wpAny_Call_Name_kw (ld_blt I hg hm (u := .builtin "max") (by first | rfl | decide +kernel) ?_ (by first | decide +kernel | decide) (by first | decide +kernel | decide))
  rw [hse]
  refine PySem.callWith_builtin1 (wpAny_Call_method0_late hbase hline (thn (hd.run pins s σ H _ I h) fun v s1 ⟨x, H1, I1, r1, a, kvs, is, ex, ha, hv, hne, q⟩ => ?_))
  subst ex
  obtain rfl : v = Value.ref a := r1
  obtain ⟨_, hsys, vs, rel, dof⟩ := dk_of I1.hok ha
  obtain ⟨ep, dat⟩ := dof.dictAt
  have dat' := dat
  obtain ⟨ob, es, ho, ex, hdat, hko, hpr, hnd⟩ := dat'
  refine ⟨"dict", "dict.values", F.plainAttrs_dict, F.slot_dict_values, F.type_dict_values, ⟨ob, ho, ex.1⟩, fun b e => ?_, Calls.callWith_builtin rfl (PySem.evalArgs_none ?_)⟩
  · cases e
    exact ⟨ob, ho, ex.2.1⟩
  refine call_meetsIn F.slot_dict_values ⟨ob, ho, ex.1⟩ F.entry_dict_values (F.args_dict_values_1 _) (meets_dict_values (mixKind X.prog X.w) a hsys) ⟨⟨vs, dof⟩, ?_⟩
  have k1 : ∀ b u, s1.heap.get? b = some u → (s1.heap.push { cls := .type "dict_values", data := .fields #[.ref a] }).get? b = some u := fun b u e => Heap.get?_push_of_some _ e
  have dat1 : (s1.heap.push { cls := .type "dict_values", data := .fields #[.ref a] }).DictAt (mixKind X.prog X.w) a vs ep := dat.keep k1
  have hlv : vs.length = is.length := by
    have e1 := congrArg List.length hv
    rw [List.length_map, List.length_map] at e1
    rw [← e1]
    exact (KV.length rel).symm
  have hlen : 0 < vs.length := by
    rw [hlv]
    exact List.length_pos_iff.mpr hne
  have hval : ∀ (i : Nat) (v : Value), (∃ k, vs[i]? = some (k, v)) → ∃ t, v = Value.int (is.getD i 0) t := fun i v ⟨k, hk⟩ => by
    obtain ⟨x, h1, h2⟩ := KV.at' rel hk
    have e1 : (kvs.map (·.2))[i]? = some x := by rw [List.getElem?_map, h1] <;> rfl
    rw [hv, List.getElem?_map] at e1
    obtain ⟨j, hj, e2⟩ := Option.map_eq_some_iff.mp e1
    subst e2
    obtain ⟨t, e3⟩ := h2
    refine ⟨t, ?_⟩
    rw [e3, List.getD_eq_getElem?_getD, hj] <;> rfl
  refine call_max_walk (wpAny_pyIter_values (v := s1.heap.objs.size) (d := a) ⟨_, Heap.get?_push_size _ rfl, rfl, rfl⟩ dat1 ?_)
  have hlt : a < s1.heap.objs.size := Heap.lt_size ho
  have hsz : (s1.heap.push { cls := .type "dict_values", data := .fields #[.ref a] }).objs.size = s1.heap.objs.size + 1 := Heap.size_push _ _
  refine ⟨_, _, _, _, _, _, _, rfl, Walks.dictValues (knd := mixKind X.prog X.w) (A := X.A.in1) (I.ok.hd hc) (s1.heap.push { cls := .type "dict_values", data := .fields #[.ref a] }).objs.size a (by rw [hsz]; exact Nat.ne_of_lt (Nat.lt_succ_of_lt hlt)) vs ep,
    ⟨⟨_, Heap.get?_push_size _ rfl, rfl, rfl⟩, dat1.keep fun b u e => Heap.get?_push_of_some _ e⟩, fun b hb => ?_, hlen, CmpOf.ints_gt (fun i => is.getD i 0) hval, fun v h' tk hP hk => ?_⟩
  · show b < ((s1.heap.push _).push _).objs.size
    rw [Heap.size_push, Heap.size_push]
    rw [hsz] at hb
    rcases List.mem_cons.mp hb with e | hb
    · rw [e]
      exact Nat.lt_succ_self _
    · have e : b = a := List.mem_singleton.mp hb
      rw [e]
      exact Nat.lt_succ_of_lt (Nat.lt_succ_of_lt hlt)
  · obtain ⟨t, rfl⟩ := hval _ v hP
    obtain ⟨b1, b2⟩ := argBest_gt (fun i => is.getD i 0) (vs.length - 1)
    refine ⟨.int _, H1, I1.kept (t' := tk) fun b u e => hk b u (fun hmem => ?_) (Heap.get?_push_of_some _ (k1 b u e)), ⟨t, rfl⟩, q _ ?_ fun j hj => ?_⟩
    · have e1 : b = (s1.heap.push { cls := .type "dict_values", data := .fields #[.ref a] }).objs.size := List.mem_singleton.mp hmem
      have e2 := Heap.lt_size e
      rw [hsz] at e1
      rw [e1] at e2
      exact absurd e2 (Nat.not_lt.mpr (Nat.le_succ _))
    · have hb : argBest (fun i j => decide (is.getD i 0 > is.getD j 0)) (vs.length - 1) < is.length := by omega
      rw [List.getD_eq_getElem?_getD, List.getElem?_eq_getElem hb]
      exact List.getElem_mem hb
    · obtain ⟨i, hi, e⟩ := List.mem_iff_getElem.mp hj
      have e2 : is.getD i 0 = j := by rw [List.getD_eq_getElem?_getD, List.getElem?_eq_getElem hi, ← e] <;> rfl
      rw [← e2]
      exact b2 i (by omega)

end
/-! ### {k: v for ..}, the keys tuples -/
theorem d_dictSetT {X : Cx} {pins : List (Addr × Obj)} {σ : L2.St} {H : Hp} {s : Shared} {E : Value → Shared → Prop} {D b : Addr} {kvs : List (List L2.Key × V)} {k : List L2.Key} {v : V} {u r : Value} {Q : Unit → Shared → Prop} (hu : X.A.units < cLine) (I : Inv X pins σ H s) (hD : H D = some (.dT kvs)) (hb : H b = some (.tup (k.map kV))) (hz : kvs.length < sizeLine)
    (ry : RelV (V.ref b) u) (rv : RelV v r) (h : ∀ s', Inv X pins σ (L2.upd H D (.dT (putK kvs k v))) s' → Q () s') : wpAny (model X.prog X.w) X.A (dictSet D u r) Q E s := by
  obtain rfl : u = Value.ref b := ry
  obtain ⟨z, hd, xs, rel, dd⟩ := dt_of I.hok hD
  have hzv : xs.length ≤ sizeLine := by rw [← Paired.length rel]; exact z
  have hl : (putK kvs k v).length ≤ sizeLine := by have := length_putK kvs k v; omega
  refine wpAny_dictSet_heap (hsz := hzv) (knd := tupleKind (mixKind X.prog X.w)) hu (key_of I.hok hb) dd fun h' dd' hs => h _ ?_
  obtain ⟨q, es, ep, hq, h2, h3, h4, _, h5⟩ := dd'
  refine d_write I (by rw [hD]; exact True.intro) hs ⟨q, hq⟩ ⟨hl, hd, _, (rel.put k hb rv).keeps fun c ys ec => ?_, q, es, ep, hq, h2, h3, h4, h5⟩
  rw [upd_ne (ne_of ec hD (fun z => nomatch z))]
  exact ec
section
variable {X : Cx}
/-- {k: v for target in iter if ..}, keys tuples of ints and texts (as the library's rule for flat keys): D the new dict -/
def tDcT (wi : TI) (g : TG) (tt : TT) (tk tv : TE) (vs : List Nat) : TE := fun σ H Q => wi σ H fun J H1 => ∀ D, H1 D = none → ∃ W : Nat → Nat → Hp → Prop, (∃ m, W 0 m (L2.upd H1 D (.dT []))) ∧ ∀ i m H, W i m H →
  (J.stop i H ∧ Q (.ref D) H) ∨ (J.go i H ∧ ∃ Nx : Hp → Prop, (∀ H', Nx H' → ∃ m', m' < m ∧ W (i + 1) m' H') ∧ ∀ x H', J.yld i H x H' → g x (wipe σ vs) H' fun σ2 H2 => wipe σ2 vs = wipe σ vs ∧ tt σ2 H2 fun b H3 =>
    if b = true then tk σ2 H3 fun y H4 => tv σ2 H4 fun z H5 => ∃ kvs k b, y = V.ref b ∧ H5 b = some (.tup (k.map kV)) ∧ H5 D = some (.dT kvs) ∧ kvs.length < sizeLine ∧ Nx (L2.upd H5 D (.dT (putK kvs k z))) else Nx H3)
theorem dcT_core {pins : List (Addr × Obj)} {s : Shared} {σ : L2.St} {H : Hp} {Q : VK} {kx vx tg iter : Expr} {ifs : List Expr} {scope : Scope} {own : List (Str × Nat)} {pos pos' : Pos} {wi : TI} {g : TG} {tt : TT} {tk tv : TE} {use : Option (Value → Sem Unit)} {Qf : Value → Shared → Prop}
    (hu : X.A.units < cLine) (hc : X.calm = true) (hN : X.N.Nodup) (I : Inv X pins σ H s) (hi : PI X tg iter wi) (ok : BlkOk X.N X.env.scope scope own)
    (hg : ∀ (s : Shared) (H : Hp) (C : Addr) (cl : List (Str × Addr)) (fp : List Addr), PG (X.blk s H scope (compEnvC scope cl C X.env) fp) tg g) (ht : ∀ (s : Shared) (H : Hp) (C : Addr) (cl : List (Str × Addr)) (fp : List Addr), PTs (X.blk s H scope (compEnvC scope cl C X.env) fp) ifs tt)
    (hk : ∀ (s : Shared) (H : Hp) (C : Addr) (cl : List (Str × Addr)) (fp : List Addr), PE (X.blk s H scope (compEnvC scope cl C X.env) fp) kx tk)
    (he : ∀ (s : Shared) (H : Hp) (C : Addr) (cl : List (Str × Addr)) (fp : List Addr), PE (X.blk s H scope (compEnvC scope cl C X.env) fp) vx tv) (hs : ∀ x, foldedSetIterable iter X.env x = pure x)
    (h : tDcT wi g tt tk tv (own.map (·.2)) σ H Q)
    (hRR : ∀ D C s' m H', Inv X pins σ H' s' → Q (.ref D) H' → s'.heap.Ns C m → FpOk X pins H' C → compPost (model X.prog X.w) X.A X.xe use Qf (.ref D) C (.ok .next) s') :
    wpAny (model X.prog X.w) X.A (comprehension (.DictComp kx vx [⟨tg, iter, ifs, 0⟩] scope pos) scope X.env pos' newDict false (eval iter X.env) use) Qf X.xe s := by
  have hfree : ∀ y ∈ scope.names, y.2 = .free → ∃ c, X.env.cells.lookup y.1 = some c := fun y hy e => by
    rcases ok.free y hy e with k | k
    · exact I.ok.has _ (.inl k)
    · exact I.ok.has _ (.inr k)
  refine wpAny_comprehension_free (use := use) rfl hs (closure_ok hfree) ok.kind (fun y hy e => by rw [ok.uniq y hy, e])
    (thn (hi.run pins s σ H _ I h) fun xv s1 hx => thn hx fun itv s2 h2 => ?_)
  obtain ⟨it, fp, tn, J, H2, e, I2, T, st2, f2, q⟩ := h2
  subst e
  refine wpAny_newObj_type (newEnv_comp ?_)
  generalize hD : s2.heap.objs.size = D
  have hDn : H2 D = none := I2.hok.fresh (Nat.le_of_eq hD)
  obtain ⟨W, ⟨m0, w0⟩, turn⟩ := q D hDn
  -- the new list
  generalize hs3 : ({ s2 with heap := s2.heap.push { cls := .type "dict", data := .dict #[] } } : Shared) = s3
  have I3 : Inv X pins σ (L2.upd H2 D (.dT [])) s3 := by
    rw [← hs3]
    refine I2.laid (t' := s2.toks) (fun b o e => Heap.get?_push_of_some _ e) (Nat.le_of_eq hD) ?_
    rw [← hD]
    exact dt_empty s2.heap I2.big
  have h3 : s3.heap = s2.heap.push { cls := .type "dict", data := .dict #[] } := by rw [← hs3]
  have sz : ∀ b ∈ fp, b < s2.heap.objs.size := fun b hb => by
    obtain ⟨o, e, _⟩ := T.obj _ _ st2 b hb
    exact Heap.lt_size e
  have f3 : ∀ b ∈ fp, FpOk X pins (L2.upd H2 D (.dT [])) b ∧ b < s3.heap.objs.size := fun b hb => by
    have hlt := sz b hb
    refine ⟨⟨?_, (f2 b hb).2⟩, by rw [h3, Heap.size_push]; exact Nat.lt_succ_of_lt hlt⟩
    rw [upd_ne (by rw [← hD]; exact Nat.ne_of_lt hlt)]
    exact (f2 b hb).1
  have st3 : tn 0 s3.heap := T.keep _ _ _ st2 fun b _ o e => by rw [h3]; exact Heap.get?_push_of_some _ e
  have I4 := block_start I3 ok hN f3
  have pg := hg s3 (L2.upd H2 D (.dT [])) s3.heap.objs.size (cellsFrom (s3.heap.objs.size + 1) scope.names (cloFrom X.env.cells scope.names [])) fp
  have pt := ht s3 (L2.upd H2 D (.dT [])) s3.heap.objs.size (cellsFrom (s3.heap.objs.size + 1) scope.names (cloFrom X.env.cells scope.names [])) fp
  have pk := hk s3 (L2.upd H2 D (.dT [])) s3.heap.objs.size (cellsFrom (s3.heap.objs.size + 1) scope.names (cloFrom X.env.cells scope.names [])) fp
  have pe := he s3 (L2.upd H2 D (.dT [])) s3.heap.objs.size (cellsFrom (s3.heap.objs.size + 1) scope.names (cloFrom X.env.cells scope.names [])) fp
  show codeAny _ _ (.compStart (.DictComp kx vx [⟨tg, iter, ifs, 0⟩] scope pos) 0 (.ref it) (.ref D) (compEnvC scope (cellsFrom (s3.heap.objs.size + 1) scope.names (cloFrom X.env.cells scope.names [])) s3.heap.objs.size X.env)) (compPost (model X.prog X.w) X.A X.xe use Qf (.ref D) s3.heap.objs.size) { s3 with heap := pushCells (s3.heap.push { cls := .type "dict", data := .dict #[] }) scope.names }
  have nfp : ∀ b ∈ fp, (L2.upd H2 D (.dT [])) b = none := fun b hb => (f3 b hb).1.1
  generalize hce : compEnvC scope (cellsFrom (s3.heap.objs.size + 1) scope.names (cloFrom X.env.cells scope.names [])) s3.heap.objs.size X.env = ce at I4 pg pt pk pe ⊢
  have cL : ce.locals = s3.heap.objs.size := by subst hce; rfl
  generalize hH3 : L2.upd H2 D (.dT []) = H3 at I3 I4 pg pt pk pe w0 nfp f3
  generalize hs4 : ({ s3 with heap := pushCells (s3.heap.push { cls := .type "dict", data := .dict #[] }) scope.names } : Shared) = s4 at I4 ⊢
  have st4 : tn 0 s4.heap := T.keep _ _ _ st3 fun b _ o e => by rw [← hs4]; exact pushCells_keeps _ _ _ _ (Heap.get?_push_of_some _ e)
  have stat : ∀ {σ' : L2.St} {H' : Hp} {s' : Shared}, Inv (X.blk s3 H3 scope ce fp) [] σ' H' s' → (∀ b ∈ fp, H' b = none) → ∀ b ∈ fp, FpOk (X.blk s3 H3 scope ce fp) [] H' b := fun {σ' H' s'} I' hn b hb =>
    ⟨hn b hb, (I'.ok.exf b hb).1, I'.ok.exfs b hb, .inl hb, fun x c e => (I'.ok.exf b hb).2 x c e, fun p hp => absurd (show p ∈ ([] : List (Addr × Obj)) ++ [] from hp) (by simp)⟩
  have loop : codeAny (model X.prog X.w) X.A (.compLoop (.DictComp kx vx [⟨tg, iter, ifs, 0⟩] scope pos) 0 (.ref it) (.ref D) ce) (compPost (model X.prog X.w) X.A X.xe use Qf (.ref D) s3.heap.objs.size) s4 := by
    refine compLoop_anyD (fun n s' => ∃ i H', Inv (X.blk s3 H3 scope ce fp) [] (wipe σ (own.map (·.2))) H' s' ∧ tn i s'.heap ∧ (∀ b ∈ fp, H' b = none) ∧ W i n H') ?_ m0 ⟨0, H3, I4, st4, nfp, w0⟩
    rintro n s5 ⟨i, H5, I5, st5, n5, w5⟩
    rcases turn i n H5 w5 with ⟨stop, qq⟩ | ⟨go, Nx, hNx, step⟩
    · have td := T.done (X.blk s3 H3 scope ce fp) rfl rfl rfl hc i [] s5 _ H5 (fun _ _ => False) I5 (stat I5 n5) st5 stop
      refine thnF td fun r s6 ⟨hr, I6⟩ => ?_
      subst hr
      -- back in the def's context
      have I7 : Inv X pins σ H5 s6 := I3.call' (ch := fp) I6.os I6.base I6.hok I6.bare fun b hb => ⟨(f3 b hb).1.2.2.2.1, (f3 b hb).1.2.1, (f3 b hb).1.2.2.2.2.1, (f3 b hb).1.2.2.2.2.2⟩
      have nC : H5 s3.heap.objs.size = none := by
        have z : H5 ce.locals = none := I6.free
        rw [cL] at z
        exact z
      obtain ⟨m, hn, _⟩ := I6.loc
      have hn : s6.heap.Ns ce.locals m := hn
      rw [cL] at hn
      exact hRR D s3.heap.objs.size s6 m H5 I7 qq hn (I3.fpOk (Nat.le_refl _) nC)
    · have ti := T.item (X.blk s3 H3 scope ce fp) rfl rfl rfl hc i [] s5 _ H5 (fun _ _ => False) I5 (stat I5 n5) st5 go
      refine thnF ti fun r s6 ⟨u, hr, h6⟩ => ?_
      subst hr
      refine thnF h6 fun _ s7 ⟨x, H7, I7, r7, y7, st7, n7⟩ => ?_
      have I7' := I7.pinned (stat I7 n7) (T.obj _ _ st7)
      refine thnF (pg.run _ s7 _ H7 x u _ I7' r7 (step x H7 y7)) fun _ s8 ⟨σ8, H8, I8, hw8, q8⟩ => ?_
      refine thnF (pt.run _ s8 σ8 H8 _ I8 q8) fun b s9 ⟨H9, I9, q9⟩ => ?_
      -- the turn's end
      have fin : ∀ {s' : Shared} {H' : Hp}, Inv (X.blk s3 H3 scope ce fp) ([] ++ pinsAt fp s7.heap) σ8 H' s' → Nx H' → ∃ m, m < n ∧ ∃ i H', Inv (X.blk s3 H3 scope ce fp) [] (wipe σ (own.map (·.2))) H' s' ∧ tn i s'.heap ∧ (∀ b ∈ fp, H' b = none) ∧ W i m H' := fun {s' H'} I' nx => by
        obtain ⟨m', hm, w'⟩ := hNx H' nx
        have pin' : ∀ b ∈ fp, ∀ o, s7.heap.get? b = some o → s'.heap.get? b = some o ∧ H' b = none := fun b hb o e =>
          let z := I'.pin (b, o) (List.mem_append_right _ (List.mem_append_right _ (mem_pinsAt hb e)))
          ⟨z.1, z.2.1⟩
        have hl : (wipe σ (own.map (·.2))).length = σ8.length := by rw [← hw8, wipe_length]
        refine ⟨m', hm, i + 1, H', (I'.unpinned (pins := [])).weak hl (fun j v e => ?_), T.keep _ _ _ st7 fun b hb o e => (pin' b hb o e).1, fun b hb => ?_, w'⟩
        · rw [← hw8] at e
          exact (wipe_some e).1
        · obtain ⟨o, e, _⟩ := T.obj _ _ st7 b hb
          exact (pin' b hb o e).2
      cases b with
      | false =>
        simp only [Bool.false_eq_true, if_false] at q9 ⊢
        exact fin I9 q9
      | true =>
        simp only [if_true] at q9 ⊢
        refine thnF (pk.run _ s9 σ8 H9 _ I9 q9) fun z s10 ⟨yk, H10, I10, r10, q10⟩ => ?_
        refine thnF (pe.run _ s10 σ8 H10 _ I10 q10) fun z2 s11 ⟨yv, H11, I11, r11, kvs, k, bk, ek, hbk, hD11, hz11, nx⟩ => ?_
        subst ek
        exact d_dictSetT (X := X.blk s3 H3 scope ce fp) hu I11 hD11 hbk hz11 r10 r11 fun s12 I12 => fin I12 nx
  exact codeAny_compStart_dict loop (T.self X.A 0 _ _ _ st4 loop)
/-- as a value -/
theorem pe_dcT {kx vx tg iter : Expr} {ifs : List Expr} {scope : Scope} {own : List (Str × Nat)} {pos : Pos} {wi : TI} {g : TG} {tt : TT} {tk tv : TE} (hu : X.A.units < cLine) (hc : X.calm = true) (hN : X.N.Nodup) (hi : PI X tg iter wi) (ok : BlkOk X.N X.env.scope scope own)
    (hg : ∀ (s : Shared) (H : Hp) (C : Addr) (cl : List (Str × Addr)) (fp : List Addr), PG (X.blk s H scope (compEnvC scope cl C X.env) fp) tg g) (ht : ∀ (s : Shared) (H : Hp) (C : Addr) (cl : List (Str × Addr)) (fp : List Addr), PTs (X.blk s H scope (compEnvC scope cl C X.env) fp) ifs tt)
    (hk : ∀ (s : Shared) (H : Hp) (C : Addr) (cl : List (Str × Addr)) (fp : List Addr), PE (X.blk s H scope (compEnvC scope cl C X.env) fp) kx tk)
    (he : ∀ (s : Shared) (H : Hp) (C : Addr) (cl : List (Str × Addr)) (fp : List Addr), PE (X.blk s H scope (compEnvC scope cl C X.env) fp) vx tv) (hs : ∀ x, foldedSetIterable iter X.env x = pure x := by intro _; rfl) :
    PE X (.DictComp kx vx [⟨tg, iter, ifs, 0⟩] scope pos) (tDcT wi g tt tk tv (own.map (·.2))) := by
  refine ⟨fun pins s σ H Q I h => ?_⟩
  rw [arm_eval_DictComp]
  refine dcT_core hu hc hN I hi ok hg ht hk he hs h fun D C s' m H' I' q hn f => ⟨m, hn, fun h'' sb => ?_⟩
  obtain ⟨f0, f1, f2, f3, f4, f5⟩ := f
  exact ⟨.ref D, H', I'.turned (t' := s'.toks) (fun b o hb e => (sb.2 b hb).trans e) f0 f1 f3 f4 f5, rfl, q⟩
end
end Y

/-! ### dicts of cells, data as values -/
namespace Y
open PySem PySem.Spec PyProof.Rows L2
abbrev Dt := List (Cell × PyData)
def dtK (md : Dt) : List (List L2.Key × PyData) := md.map fun e => (ckey e.1, e.2)
def DtC (K : PySem.W.Frag) (G : Hp) (kvs : List (List L2.Key × V)) (md : Dt) : Prop := kvs.map (·.1) = (dtK md).map (·.1) ∧ DpAll K G (kvs.map (·.2)) ((dtK md).map (·.2))
/-- it stands, apart from what is known -/
def DtAt (K : PySem.W.Frag) (d : Addr) (G H : Hp) (md : Dt) : Prop := ∃ kvs, H d = some (.dT kvs) ∧ G d = none ∧ DtC K G kvs md
/-- it stands, locked or not -/
def DtRd (K : PySem.W.Frag) (d : Addr) (G H : Hp) (md : Dt) : Prop := ∃ kvs, Rd H d (.dT kvs) ∧ DtC K G kvs md
/-- it is known -/
def DtKn (K : PySem.W.Frag) (d : Addr) (G : Hp) (md : Dt) : Prop := ∃ kvs, G d = some (.dT kvs) ∧ DtC K G kvs md
section
variable {K : PySem.W.Frag} {G H G' H' : Hp} {M : List Addr} {v y z : V} {c : Cell} {p A d P : Addr} {o : HO} {md m2 : Dt} {Q : VK} {σ : L2.St} {i : Int} {R : Hp → Prop} {x : PyData} {kvs : List (List L2.Key × V)} {q : Str}
theorem DtC.go (h : DtC K G kvs md) (e : Ex G G') : DtC K G' kvs md := ⟨h.1, dpAll_mono e h.2⟩
theorem DtC.len (h : DtC K G kvs md) : kvs.length = md.length := by
  have := congrArg List.length h.1
  simpa [dtK] using this
theorem DtAt.rd (r : DtAt K d G H md) : DtRd K d G H md := by
  obtain ⟨kvs, h, _, c⟩ := r
  exact ⟨kvs, .inl h, c⟩
theorem DtKn.rd (r : DtKn K d G md) (e : Ex G H) : DtRd K d G H md := by
  obtain ⟨kvs, h, c⟩ := r
  exact ⟨kvs, .inl (e _ _ h), c⟩
theorem DtKn.go (r : DtKn K d G md) (e : Ex G G') : DtKn K d G' md := by
  obtain ⟨kvs, h, c⟩ := r
  exact ⟨kvs, e _ _ h, c.go e⟩
theorem DtAt.know (r : DtAt K d G H md) (e : Ex G H) : ∃ G', Ex G G' ∧ Ex G' H ∧ DtKn K d G' md ∧ (∀ b, b ≠ d → G' b = G b) := by
  obtain ⟨kvs, h, g, c⟩ := r
  exact ⟨L2.upd G d (.dT kvs), .new g, e.put h, ⟨kvs, upd_same, c.go (.new g)⟩, fun b hb => upd_ne hb⟩
theorem DtAt.go (r : DtAt K d G H md) (n : Nx M G H G' H') (hd : d ∉ M) : DtAt K d G' H' md := by
  obtain ⟨kvs, h, g, c⟩ := r
  exact ⟨kvs, n.fr d _ hd h, n.old d g ⟨_, h, fun _ z => nomatch z⟩, c.go n.gg⟩
theorem DtRd.go (r : DtRd K d G H md) (n : Nx M G H G' H') (hd : d ∉ M) : DtRd K d G' H' md := by
  obtain ⟨kvs, h | ⟨o, h⟩, c⟩ := r
  · exact ⟨kvs, .inl (n.fr d _ hd h), c.go n.gg⟩
  · exact ⟨kvs, .inr ⟨o, n.fr d _ hd h⟩, c.go n.gg⟩
theorem DtAt.upd (r : DtAt K d G H md) (h : A ≠ d) : DtAt K d G (L2.upd H A o) md := by
  obtain ⟨kvs, h1, r⟩ := r
  exact ⟨kvs, by rw [upd_ne h.symm]; exact h1, r⟩
theorem DtAt.live (r : DtAt K d G H md) : H d ≠ none := by
  obtain ⟨kvs, h1, _⟩ := r
  rw [h1]; exact fun z => nomatch z
theorem TabAt.neT (t : TabAt P q G H) (r : DtRd K d G H md) : d ≠ P := fun z => by
  obtain ⟨g, tab, h, _⟩ := t
  obtain ⟨_, h1 | ⟨_, h1⟩, _⟩ := r <;> (rw [z, h] at h1; cases h1)
theorem dt_gt {c : Cell} : ∀ {md : Dt}, gtM (dtK md) (ckey c) = gtM md c
  | [] => rfl
  | (k, x) :: m => by
    have ih := dt_gt (c := c) (md := m)
    show gtM ((ckey k, x) :: dtK m) (ckey c) = _
    rw [gtM_cons, gtM_cons, ih]
    by_cases h : k = c
    · rw [if_pos (congrArg ckey h), if_pos h]
    · rw [if_neg (fun z => h (ckey_inj z)), if_neg h]
theorem dt_pt : dtK (ptM md c x) = ptM (dtK md) (ckey c) x := by
  unfold ptM dtK
  rw [List.any_map]
  have e2 : (md.any ((fun p => decide (p.1 = ckey c)) ∘ fun e : Cell × PyData => (ckey e.1, e.2))) = md.any fun p => decide (p.1 = c) := by
    congr 1
    funext e
    exact decide_eq_decide.mpr ⟨fun h => ckey_inj h, fun h => congrArg ckey h⟩
  rw [e2]
  split
  · rw [List.map_map, List.map_map]
    refine List.map_congr_left fun e _ => ?_
    show (ckey (if e.1 = c then (e.1, x) else e).1, (if e.1 = c then (e.1, x) else e).2) = (if ckey e.1 = ckey c then (ckey e.1, x) else (ckey e.1, e.2))
    by_cases h : e.1 = c
    · rw [if_pos (congrArg ckey h), if_pos h]
    · rw [if_neg (fun z => h (ckey_inj z)), if_neg h]
  · rw [List.map_append]
    rfl
theorem DtC.get (h : DtC K G kvs md) (hg : gtM md c = some x) : ∃ v, valV kvs (ckey c) = some v ∧ Dp K G v x := (gt_rel (ckey c) h.1 h.2).1 x (by rw [dt_gt]; exact hg)
theorem DtC.some (h : DtC K G kvs md) : (valV kvs (ckey c)).isSome = (gtM md c).isSome := by
  have r := gt_rel (ckey c) h.1 h.2
  cases e : gtM md c with
  | none => rw [r.2 (by rw [dt_gt]; exact e)]; rfl
  | some z =>
    obtain ⟨v, hv, _⟩ := h.get e
    rw [hv]; rfl
theorem DtC.put (h : DtC K G kvs md) (dv : Dp K G v x) : DtC K G (putK kvs (ckey c) v) (ptM md c x) := by
  unfold DtC
  rw [dt_pt]
  exact pt_rel (ckey c) dv h.1 h.2
theorem g_dtIn (e : Ex G H) (r : DtRd K d G H md) (h : Cl G y c) (q : Q (.bl (gtM md c).isSome) H) : DInW Q y (.ref d) H := by
  obtain ⟨b, rfl, hb⟩ := h
  obtain ⟨kvs, h, k⟩ := r
  exact ⟨d, _, rfl, .inr ⟨_, ckey c, b, h, rfl, e _ _ hb, rfl⟩, by rw [k.some]; exact q⟩
theorem g_dtNi (e : Ex G H) (r : DtRd K d G H md) (h : Cl G y c) (q : Q (.bl (!(gtM md c).isSome)) H) : DNiW Q y (.ref d) H := by
  obtain ⟨b, rfl, hb⟩ := h
  obtain ⟨kvs, h, k⟩ := r
  exact ⟨d, _, rfl, .inr ⟨_, ckey c, b, h, rfl, e _ _ hb, rfl⟩, by rw [k.some]; exact q⟩
theorem g_dtGet (e : Ex G H) (r : DtRd K d G H md) (h : Cl G y c) (hg : gtM md c = some x) (q : ∀ v, Dp K G v x → Q v H) : DGeW Q (.ref d) y H := by
  obtain ⟨b, rfl, hb⟩ := h
  obtain ⟨kvs, h, k⟩ := r
  obtain ⟨v, hv, dv⟩ := k.get hg
  exact ⟨d, v, rfl, .inr ⟨_, ckey c, b, h, rfl, e _ _ hb, hv.symm⟩, q v dv⟩
theorem g_dtPut (e : Ex G H) (r : DtAt K d G H md) (h : Cl G y c) (dv : Dp K G v x) (hl : md.length < 100000) (q : ∀ H', Nx [d] G H G H' → DtAt K d G H' (ptM md c x) → R H') : DPuW R v (.ref d) y H := by
  obtain ⟨b, rfl, hb⟩ := h
  obtain ⟨kvs, h, g, k⟩ := r
  exact ⟨d, _, rfl, .inr ⟨_, ckey c, b, h, rfl, e _ _ hb, by rw [k.len]; exact szl (by omega), rfl⟩, q _ (Nx.set e g (by simp)) ⟨_, upd_same, g, k.put dv⟩⟩
theorem g_dtNew (e : Ex G H) (q : ∀ p H', Nx [] G H G H' → H p = none → DtAt K p G H' [] → Q (.ref p) H') : tDNewT σ H Q := fun p hp => q p _ (Nx.own e hp) hp ⟨[], upd_same, e.free hp, rfl, .nil⟩
theorem g_dtLen (r : DtAt K d G H md) (q : Q (.int (md.length : Int)) H) : rLenT [.ref d] H Q := by
  obtain ⟨kvs, h, _, k⟩ := r
  exact ⟨d, _, rfl, h, by rw [k.len]; exact q⟩
theorem know_keysD : ∀ {md : Dt} {kvs : List (List L2.Key × V)} {bs : List Addr} {G : Hp}, Ex G H → kvs.map (·.1) = (dtK md).map (·.1) → IsKeys H kvs bs → ∃ G', Nx [] G H G' H ∧ PySem.Paired (Cl G') (bs.map V.ref) (md.map (·.1))
  | [], [], [], G, e, _, .nil => ⟨G, Nx.refl e, .nil⟩
  | (c, x) :: m, kv :: kvs, b :: bs, G, e, hk, .cons h r => by
    have hk2 : kv.1 = ckey c ∧ kvs.map (·.1) = (dtK m).map (·.1) := by
      simp only [dtK, List.map_cons, List.cons.injEq] at hk ⊢
      exact hk
    obtain ⟨G1, n1, p1⟩ := know_keysD (md := m) e hk2.2 r
    rw [hk2.1] at h
    obtain ⟨G2, n2, hb⟩ := know1 n1.gh h
    exact ⟨G2, n1.trans n2, .cons ⟨b, rfl, hb⟩ (pr_mono (fun _ _ h => h.go n2.gg) p1)⟩
  | [], _ :: _, _, _, _, hk, _ => by simp [dtK] at hk
  | _ :: _, [], _, _, _, hk, _ => by simp [dtK] at hk
theorem g_dtList (e : Ex G H) (r : DtRd K d G H md) (q : ∀ p G' H', Nx [] G H G' H' → H p = none → ClsAt p G' H' (md.map (·.1)) → Q (.ref p) H') : rListT [.ref d] H Q := by
  obtain ⟨kvs, h, k⟩ := r
  refine ⟨d, _, rfl, h, fun p bs hp hk => ?_⟩
  obtain ⟨G1, n1, h1⟩ := know_keysD e k.1 hk
  exact q p G1 _ (n1.trans (Nx.own n1.gh hp)) hp ⟨_, upd_same, n1.gh.free hp, h1⟩
/-- the hashes of the cells are apart -/
def HNdD (md : Dt) : Prop := (md.map fun e => kHash (ckey e.1)).Nodup
theorem g_dtCopy (e : Ex G H) (r : DtRd K d G H md) (hn : HNdD md) (q : ∀ p H', Nx [] G H G H' → H p = none → DtAt K p G H' md → Q (.ref p) H') : rDictT [.ref d] H Q := by
  obtain ⟨kvs, h, k⟩ := r
  refine ⟨d, _, rfl, h, fun x hx a ha => ?_, ?_, fun p hp => q p _ (Nx.own e hp) hp ⟨kvs, upd_same, e.free hp, k⟩⟩
  · have : x.1 ∈ (dtK md).map (·.1) := k.1 ▸ List.mem_map.mpr ⟨x, hx, rfl⟩
    obtain ⟨z, hz, e1⟩ := List.mem_map.mp this
    obtain ⟨w, _, rfl⟩ := List.mem_map.mp hz
    rw [← e1] at ha
    unfold ckey at ha
    simp only [List.mem_cons, List.not_mem_nil, or_false] at ha
    rcases ha with rfl | rfl <;> exact ⟨_, rfl⟩
  · have e1 := congrArg (List.map kHash) k.1
    unfold dtK at e1
    simp only [List.map_map, Function.comp_def] at e1
    rw [e1]
    exact hn
theorem src_dt {od : Obj} (h : H d = some (.frz od (.dT kvs))) (k : DtC K G kvs md) (hM : d ∉ M) : SrcP M (Itkt d od kvs) G H md.length (fun i G v => ∃ c, (md.map (·.1))[i]? = some c ∧ Cl G v c) where
  go := fun i G' H' n hi => ⟨n.fr d _ hM h, by rw [k.len]; exact hi⟩
  stop := fun i G' H' n hi => ⟨n.fr d _ hM h, by rw [k.len]; exact hi⟩
  yld := fun i G' H' x H'' n hi y => by
    obtain ⟨rfl, kk, v, q, hk, rfl, hq⟩ := y
    have h1 : (kvs.map (·.1))[i]? = some kk := by rw [List.getElem?_map, hk]; rfl
    rw [k.1] at h1
    unfold dtK at h1
    rw [List.map_map, List.getElem?_map] at h1
    obtain ⟨e0, he, h2⟩ := Option.map_eq_some_iff.mp h1
    subst h2
    obtain ⟨G2, n2, hb⟩ := know1 n.gh hq
    exact ⟨G2, n2, e0.1, by rw [List.getElem?_map, he]; rfl, q, rfl, hb⟩
theorem g_lockTE {t : TE} (h : H d = some (.dT kvs)) (q : ∀ od, t σ (L2.upd H d (.frz od (.dT kvs))) (fun v H' => H' d = some (.frz od (.dT kvs)) ∧ Q v (L2.upd H' d (.dT kvs)))) : tLockE t σ H Q := ⟨d, _, h, trivial, q⟩
theorem dt_lock {od : Obj} (h : H d = some (.dT kvs)) (g : G d = none) (k : DtC K G kvs md) (e : Ex G H) : Ex G (L2.upd H d (.frz od (.dT kvs))) ∧ DtRd K d G (L2.upd H d (.frz od (.dT kvs))) md := ⟨e.out g, kvs, .inr ⟨od, upd_same⟩, k⟩
theorem dt_unlock {od : Obj} (h : H d = some (.dT kvs)) (g : G d = none) (k : DtC K G kvs md) (hM : d ∉ M) (n : Nx M G (L2.upd H d (.frz od (.dT kvs))) G' H') : H' d = some (.frz od (.dT kvs)) ∧ Nx M G H G' (L2.upd H' d (.dT kvs)) ∧ DtAt K d G' (L2.upd H' d (.dT kvs)) md := by
  obtain ⟨a, b, c⟩ := unlock_nx h g hM n
  exact ⟨a, c, kvs, upd_same, b, k.go n.gg⟩
/-- two dicts of the same data -/
theorem eqR_dt {a b : Addr} {n : Nat} (e : Ex G H) (r1 : DtAt K a G H md) (r2 : DtAt K b G H m2) (hl : md.length = m2.length) (hs : ∀ c x, (c, x) ∈ md → gtM m2 c = some x) (hd : ∀ x ∈ md, x.2.depth ≤ n) : EqR2 K H (EqW K H (n + 1)) (.ref a) (.ref b) := by
  obtain ⟨ks, h1, _, k1⟩ := r1
  obtain ⟨ls, h2, _, k2⟩ := r2
  refine .inr (.inr (.inr ⟨a, b, ks, ls, rfl, rfl, h1, h2, by rw [k1.len, k2.len]; exact hl, fun p hp => ?_⟩))
  obtain ⟨i, hi, rfl⟩ := List.getElem_of_mem hp
  have him : i < md.length := by rw [← k1.len]; exact hi
  have ek : ks[i].1 = ckey md[i].1 := by
    have := congrArg (fun l => l[i]?) k1.1
    simp [dtK, him, hi] at this
    exact this
  obtain ⟨x, hx, dx⟩ := dpAll_got k1.2 (i := i) (v := ks[i].2) (by simp [hi])
  have ex : x = md[i].2 := by simp [dtK, him] at hx; exact hx.symm
  subst ex
  obtain ⟨v, hv, dv⟩ := k2.get (hs md[i].1 md[i].2 (List.getElem_mem him))
  exact ⟨v, by rw [ek]; exact hv, eqW_dp (dp_mono e dx) (by have := hd _ (List.getElem_mem him); omega) (dp_mono e dv)⟩
end
/-! ### {cell: v for ..} -/
def DcTW (J : It) (g : TG) (tt : TT) (tk tv : TE) (vs : List Nat) (σ : L2.St) (D : Addr) (Q : VK) (H1 : Hp) : Prop := ∃ W : Nat → Nat → Hp → Prop, (∃ m, W 0 m (L2.upd H1 D (.dT []))) ∧ ∀ i m H, W i m H →
  (J.stop i H ∧ Q (.ref D) H) ∨ (J.go i H ∧ ∃ Nx : Hp → Prop, (∀ H', Nx H' → ∃ m', m' < m ∧ W (i + 1) m' H') ∧ ∀ x H', J.yld i H x H' → g x (wipe σ vs) H' fun σ2 H2 => wipe σ2 vs = wipe σ vs ∧ tt σ2 H2 fun b H3 =>
    if b = true then tk σ2 H3 fun y H4 => tv σ2 H4 fun z H5 => ∃ kvs k b, y = V.ref b ∧ H5 b = some (.tup (k.map kV)) ∧ H5 D = some (.dT kvs) ∧ kvs.length < sizeLine ∧ Nx (L2.upd H5 D (.dT (putK kvs k z))) else Nx H3)
theorem g_dcT {wi : TI} {g : TG} {tt : TT} {tk tv : TE} {vs : List Nat} {σ : L2.St} {H : Hp} {Q : VK} (q : wi σ H fun J H1 => ∀ D, H1 D = none → DcTW J g tt tk tv vs σ D Q H1) : tDcT wi g tt tk tv vs σ H Q := q
theorem g_dcTP {K : PySem.W.Frag} {σ : L2.St} {G H : Hp} {Q : VK} {g : TG} {tk tv : TE} {tt : TT} {J : It} {M : List Addr} {n : Nat} {P : Nat → Hp → V → Prop} {A : Addr} {js : List Nat} {es : Nat → Dt} (S : SrcP M J G H n P) (e : Ex G H) (hA : H A = none) (hM : ∀ b ∈ M, H b ≠ none) (hz : n < 100000) (e0 : es 0 = []) (hlen : ∀ i, (es i).length ≤ i)
    (Jv : Nat → Hp → Hp → Prop) (jA : ∀ i G' H' o, Jv i G' H' → Jv i G' (L2.upd H' A o)) (jN : ∀ i G' H' G1 H1, Nx [] G' H' G1 H1 → Jv i G' H' → Jv i G1 H1) (j0 : Jv 0 G H)
    (hs : ∀ i v G' H', i < n → P i G' v → Nx M G H G' H' → Jv i G' H' → ∀ (QE : V → V → Hp → Prop) (QN : Hp → Prop),
      (∀ y z c x G4 H4, Nx M G' H' G4 H4 → Jv (i + 1) G4 H4 → Cl G4 y c → Dp K G4 z x → es (i + 1) = ptM (es i) c x → QE y z H4) → (∀ G3 H3, Nx M G' H' G3 H3 → Jv (i + 1) G3 H3 → es (i + 1) = es i → QN H3) →
      g v (wipe σ js) H' fun σ2 H2 => wipe σ2 js = wipe σ js ∧ tt σ2 H2 fun b H3 => if b = true then tk σ2 H3 fun y H4 => tv σ2 H4 fun z H5 => QE y z H5 else QN H3)
    (hd : ∀ G' H', Nx M G H G' H' → Jv n G' H' → DtAt K A G' H' (es n) → Q (.ref A) H') : DcTW J g tt tk tv js σ A Q H := by
  have st0 : Nx [] G H G (L2.upd H A (.dT [])) := Nx.own e hA
  have hAM : A ∉ M := fun z => hM A z hA
  refine ⟨fun i m H' => m = n - i ∧ i ≤ n ∧ ∃ G' kvs, Nx M G H G' H' ∧ G' A = none ∧ H' A = some (.dT kvs) ∧ DtC K G' kvs (es i) ∧ Jv i G' H',
    ⟨n, by simp, Nat.zero_le _, G, [], st0.pure, e.free hA, upd_same, by rw [e0]; exact ⟨rfl, .nil⟩, jA _ _ _ _ j0⟩, ?_⟩
  rintro i m H' ⟨rfl, hi, G', kvs, nn, gA, hys, hk, jv⟩
  by_cases hlt : i < n
  · refine .inr ⟨S.go i G' H' nn hlt, fun H'' => ∃ G'' kvs, Nx M G H G'' H'' ∧ G'' A = none ∧ H'' A = some (.dT kvs) ∧ DtC K G'' kvs (es (i + 1)) ∧ Jv (i + 1) G'' H'',
      fun H'' ⟨G'', kvs', r⟩ => ⟨n - (i + 1), by omega, rfl, hlt, G'', kvs', r⟩, fun v H1 y => ?_⟩
    obtain ⟨G1, n1, d1⟩ := S.yld i G' H' v H1 nn hlt y
    have n2 : Nx M G H G1 H1 := nn.trans n1.pure
    have gA1 : G1 A = none := n1.old A gA ⟨_, hys, fun _ z => nomatch z⟩
    have hys1 : H1 A = some (.dT kvs) := n1.fr A _ (by simp) hys
    refine hs i v G1 H1 hlt d1 n2 (jN _ _ _ _ _ n1 jv) (fun y z H5 => ∃ (kvs : List (List L2.Key × V)) (k : List L2.Key) (b : Addr), y = V.ref b ∧ H5 b = some (.tup (k.map kV)) ∧ H5 A = some (.dT kvs) ∧ kvs.length < sizeLine ∧ _) _ (fun y z c x G4 H4 n4 jv' hy hz' ee => ?_) (fun G3 H3 n3 jv' ee => ?_)
    · have gA4 : G4 A = none := n4.old A gA1 ⟨_, hys1, fun _ z => nomatch z⟩
      have hys4 : H4 A = some (.dT kvs) := n4.fr A _ hAM hys1
      have n5 : Nx M G H G4 H4 := n2.trans n4
      have k4 := (hk.go n1.gg).go n4.gg
      obtain ⟨b, rfl, hb⟩ := hy
      have n6 : Nx [A] G4 H4 G4 (L2.upd H4 A (.dT (putK kvs (ckey c) z))) := Nx.set n4.gh gA4 (by simp)
      have n7 : Nx (A :: M) G H G4 (L2.upd H4 A (.dT (putK kvs (ckey c) z))) := (n5.mono fun _ z => List.mem_cons_of_mem _ z).trans (n6.mono fun b z => by simp at z; simp [z])
      refine ⟨kvs, ckey c, b, rfl, n4.gh _ _ hb, hys4, by rw [k4.len]; exact szl (by have := hlen i; omega), G4, _, n7.drop hA, gA4, upd_same, by rw [ee]; exact k4.put hz', jA _ _ _ _ jv'⟩
    · have gA3 : G3 A = none := n3.old A gA1 ⟨_, hys1, fun _ z => nomatch z⟩
      exact ⟨G3, kvs, n2.trans n3, gA3, n3.fr A _ hAM hys1, by rw [ee]; exact (hk.go n1.gg).go n3.gg, jv'⟩
  · have e' : i = n := by omega
    subst e'
    exact .inl ⟨S.stop _ G' H' nn (Nat.le_refl _), hd G' H' nn jv ⟨kvs, hys, gA, hk⟩⟩
end Y
/-! ### a lambda is made; min with a key -/
namespace Y
open PySem PySem.Spec PyProof.Rows L2
section
variable {K : PySem.W.Frag} {P c' d : Addr} {q : Str} {G H H1 : Hp} {Q : VK} {σ : L2.St} {i : Nat} {m : List (Int × Int)}
theorem lam_nx (e : Ex G H) (t : TabAt P q G H) (hG : LamG P q H H1 c') : ∃ G1, Nx [P] G H G1 H1 ∧ TabAt P q G1 H1 := by
  obtain ⟨g, tab, h, hT0, hA⟩ := id t
  rcases hG with ⟨rfl, _⟩ | ⟨tab2, pos, h2, hc0, rfl⟩
  · exact ⟨G, Nx.refl e, t⟩
  · rw [h] at h2
    cases h2
    have hcP : c' ≠ P := fun z => by rw [z, h] at hc0; cases hc0
    have n1 : Nx [P] G H G (L2.upd H P (.tbl (tab ++ #[rawInt ↑pos.line, rawInt ↑pos.col, .ref c']))) := Nx.set e g (by simp)
    have n2 := Nx.new (o := LamX.CodeO c' q) n1.gh (p := c') (by rw [upd_ne hcP]; exact hc0)
    refine ⟨_, n1.trans n2.pure, by rw [upd_ne hcP.symm]; exact g, _, by rw [upd_ne hcP.symm, upd_same], ?_, fun p' cv hp => ?_⟩
    · rw [Array.toList_append]
      exact TriplesOk_snoc _ _ _ _ hT0
    · rw [Array.toList_append] at hp
      rcases LamX.among_app _ hT0 hp with h3 | h3
      · obtain ⟨c2, e2, h4⟩ := hA p' cv h3
        exact ⟨c2, e2, by rw [upd_ne (fun z => by rw [z, n1.gh.free (by rw [upd_ne hcP]; exact hc0)] at h4; cases h4)]; exact h4⟩
      · exact ⟨c', h3, upd_same⟩
theorem g_minMT (e : Ex G H) (t : TabAt P q G H) (hσ : σ[i]? = some (some (.ref d))) (h : H d = some (.dK (intK m))) (hm : m ≠ []) (k : ∀ k n G' H', Nx [P] G H G' H' → TabAt P q G' H' → (k, n) ∈ m → (∀ e ∈ m, lt2 (-e.2, e.1) (-n, k) = false) → Q (.int k) H') : tMinMT P q i σ H Q :=
  ⟨t.tab e, d, m, hσ, h, hm, fun H1 c' kk n hG _ h1 h2 => by
    obtain ⟨G1, n1, t1⟩ := lam_nx e t hG
    exact k kk n G1 H1 n1 t1 h1 h2⟩
end
end Y
/-! ### del d[k], the rest told -/
namespace Y
open PySem PySem.Spec PyProof.Rows L2
section
variable {K : PySem.W.Frag} {G H : Hp} {κ : Type} [DecidableEq κ]
theorem drop_rel (k : κ) : ∀ {kvs : List (κ × V)} {md : List (κ × PyData)}, kvs.map (·.1) = md.map (·.1) → DpAll K G (kvs.map (·.2)) (md.map (·.2)) →
    (dropK kvs k).map (·.1) = (md.filter fun p => decide (p.1 ≠ k)).map (·.1) ∧ DpAll K G ((dropK kvs k).map (·.2)) ((md.filter fun p => decide (p.1 ≠ k)).map (·.2))
  | [], [], _, _ => ⟨rfl, .nil⟩
  | [], _ :: _, h, _ => by simp at h
  | _ :: _, [], h, _ => by simp at h
  | (a, v) :: kvs, (b, x) :: md, h, hd => by
    simp only [List.map_cons, List.cons.injEq] at h
    obtain ⟨rfl, h⟩ := h
    cases hd with
    | cons d1 d2 =>
      obtain ⟨i1, i2⟩ := drop_rel k h d2
      unfold dropK at i1 i2 ⊢
      by_cases hk : a = k
      · rw [List.filter_cons_of_neg (by simpa using hk), List.filter_cons_of_neg (by simpa using hk)]
        exact ⟨i1, i2⟩
      · rw [List.filter_cons_of_pos (by simpa using hk), List.filter_cons_of_pos (by simpa using hk)]
        exact ⟨by rw [List.map_cons, List.map_cons, i1], .cons d1 i2⟩
theorem g_dctDel {d : Addr} {md : List (L2.Key × PyData)} {k : L2.Key} {y : V} {R : Hp → Prop} (e : Ex G H) (r : DctAt K d G H md) (hk : y = kV k) (hs : (gtM md k).isSome = true) (q : ∀ H', Nx [d] G H G H' → DctAt K d G H' (md.filter fun p => decide (p.1 ≠ k)) → R H') : DDeW R (.ref d) y H := by
  obtain ⟨kvs, h, g, he, dd⟩ := r
  obtain ⟨p1, p2⟩ := drop_rel k he dd
  exact ⟨d, kvs, k, rfl, h, hk, by rw [isSome_rel he dd]; exact hs, q _ (Nx.set e g (by simp)) ⟨_, upd_same, g, p1, p2⟩⟩
end
end Y
namespace Y
open PySem PySem.Spec PyProof.Rows L2
theorem pe_dcTR {X : Cx} {k : Nat} (hr : Room k X.A) {kx vx tg iter : Expr} {ifs : List Expr} {scope : Scope} {own : List (Str × Nat)} {pos : Pos} {wi : TI} {g : TG} {tt : TT} {tk tv : TE} (hc : X.calm = true) (hN : X.N.Nodup) (hi : PI X tg iter wi) (ok : BlkOk X.N X.env.scope scope own)
    (hg : ∀ (s : Shared) (H : Hp) (C : Addr) (cl : List (Str × Addr)) (fp : List Addr), PG (X.blk s H scope (compEnvC scope cl C X.env) fp) tg g) (ht : ∀ (s : Shared) (H : Hp) (C : Addr) (cl : List (Str × Addr)) (fp : List Addr), PTs (X.blk s H scope (compEnvC scope cl C X.env) fp) ifs tt)
    (hk : ∀ (s : Shared) (H : Hp) (C : Addr) (cl : List (Str × Addr)) (fp : List Addr), PE (X.blk s H scope (compEnvC scope cl C X.env) fp) kx tk)
    (he : ∀ (s : Shared) (H : Hp) (C : Addr) (cl : List (Str × Addr)) (fp : List Addr), PE (X.blk s H scope (compEnvC scope cl C X.env) fp) vx tv) (hs : ∀ x, foldedSetIterable iter X.env x = pure x := by intro _; rfl) :
    PE X (.DictComp kx vx [⟨tg, iter, ifs, 0⟩] scope pos) (tDcT wi g tt tk tv (own.map (·.2))) := pe_dcT (by have := hr.un; omega) hc hN hi ok hg ht hk he hs
def rMaxVals (Q : VK) (x : V) (H1 : Hp) : Prop := ∃ a kvs is, x = V.ref a ∧ H1 a = some (.dK kvs) ∧ kvs.map (·.2) = is.map V.int ∧ is ≠ [] ∧ ∀ m, m ∈ is → (∀ j ∈ is, j ≤ m) → Q (.int m) H1
theorem g_maxV {td : TE} {σ : L2.St} {H : Hp} {Q : VK} (q : td σ H fun x H1 => rMaxVals Q x H1) : tMaxVals td σ H Q := q
theorem g_maxI {a : Addr} {H : Hp} {Q : VK} {m : List (Int × Int)} (h : H a = some (.dK (intK m))) (hm : m ≠ []) (q : ∀ n, n ∈ m.map (·.2) → (∀ e ∈ m, e.2 ≤ n) → Q (.int n) H) : rMaxVals Q (.ref a) H :=
  ⟨a, _, m.map (·.2), rfl, h, by unfold intK; rw [List.map_map, List.map_map]; rfl, by simpa using hm, fun n h1 h2 => q n h1 fun e he => h2 _ (List.mem_map.mpr ⟨e, he, rfl⟩)⟩
end Y

/-! ### for .. in d.items(), the keys tuples (as the library's rule for flat keys) -/
namespace Y
open PySem PySem.Spec PyProof.Rows L2
section
variable {X : Cx} {pins : List (Addr × Obj)} {σ : L2.St} {H : Hp} {s : Shared} {d : Addr} {o : Obj}
theorem frzT2 {kvs : List (List L2.Key × V)} (I : Inv X pins σ H s) (h : H d = some (.frz o (.dT kvs))) :
    (d == sysModules) = false ∧ s.heap.get? d = some o ∧ o.ExactDict ∧ ∃ (es : Array DictEntry) (ep : Nat), o.data = .dict es ep ∧ es.size = kvs.length ∧
      ∀ (i : Nat) (k : List L2.Key) (v : V), kvs[i]? = some (k, v) → ∃ (en : DictEntry) (q : Addr), es[i]? = some en ∧ en.key = .ref q ∧ H q = some (.tup (k.map kV)) ∧ RelV v en.val := by
  obtain ⟨hd, z, hs, xs, pr, o', es, ep, ho, hx, hdt, he, _⟩ := I.hok d _ h
  rw [hd] at ho
  cases ho
  refine ⟨hs, hd, hx, es, ep, hdt, ?_, fun i k v e => ?_⟩
  · have l1 : es.size = xs.length := size_of_entries he
    have l2 : kvs.length = xs.length := Paired.length pr
    omega
  · obtain ⟨b, hb, e1, e2, e3⟩ := L2.paired_get pr e
    have q := entry_at he i
    rw [hb] at q
    exact ⟨_, b.2.1, q, rfl, e2, e3⟩
end
/-- the pairs of a locked dict of tuple keys, each a new tuple -/
def Itit (d : Addr) (o : Obj) (kvs : List (List L2.Key × V)) : It :=
  ⟨fun i H => H d = some (.frz o (.dT kvs)) ∧ i < kvs.length, fun i H x H' => ∃ T k v q, kvs[i]? = some (k, v) ∧ x = .ref T ∧ H T = none ∧ H q = some (.tup (k.map kV)) ∧ H' = L2.upd H T (.tup [.ref q, v]), fun i H => H d = some (.frz o (.dT kvs)) ∧ kvs.length ≤ i⟩
section
variable {P : Program} {w : World} {K : PySem.W.Frag} {d : Addr} {o : Obj} {es : Array DictEntry} {ep : Nat}
theorem turn_itemsT {kvs : List (List L2.Key × V)} {elts : List Expr} {kk : Nat} {tpos : Pos} (it : Addr) (hod : o.data = .dict es ep) :
    Turn P w K (.Tuple elts kk tpos) (Itit d o kvs) [it] it (fun i h => ∃ ok ov, IsItemIter h it d i kvs.length ep ok ov) where
  mem := by simp
  obj := fun i h st b hb => by
    have e : b = it := by simpa using hb
    subst e
    obtain ⟨ok, ov, e⟩ := st
    exact ⟨_, e, fun v z => nomatch z⟩
  keep := fun i h h' st k => let ⟨ok, ov, e⟩ := st; ⟨ok, ov, k it (by simp) _ e⟩
  item := by
    intro X hP hw hK hc i pins s σ H E I hf st hg
    subst hP hw hK
    obtain ⟨hd, hi⟩ := hg
    obtain ⟨hs, hgd, hx, es', ep', hdt, hsz, ent⟩ := frzT2 I hd
    obtain ⟨rfl, rfl⟩ := dict_ep hod hdt
    obtain ⟨⟨k, v⟩, hkv⟩ : ∃ p, kvs[i]? = some p := ⟨kvs[i], List.getElem?_eq_getElem hi⟩
    obtain ⟨en, qk, hen, hkey, hq, rv⟩ := ent i k v hkv
    obtain ⟨ok, ov, he⟩ := st
    rw [← hsz] at he
    have hlt : it < s.heap.objs.size := Heap.lt_size he
    have hie : i < es'.size := by omega
    have hen2 : es'[i] = en := by
      rw [Array.getElem?_eq_getElem hie] at hen
      exact Option.some.inj hen
    refine wpAny_pyNext_items_item_raw he ⟨o, hgd, hx, hdt⟩ hie fun h' ho hT hz hk => ?_
    refine ⟨_, rfl, wpAny_letOwnedTupleGo_items (s := { s with heap := h' }) ho fun h'' he' sb => ?_⟩
    have hT2 : h''.get? s.heap.objs.size = some { cls := .type "tuple", data := .seq #[.ref qk, en.val] } := by
      rw [← hkey, ← hen2]
      exact (sb.2 _ (Nat.ne_of_gt hlt)).trans hT
    have new : ObjOk X.prog X.w (L2.upd H s.heap.objs.size (.tup [.ref qk, v])) h'' s.heap.objs.size (.tup [.ref qk, v]) :=
      ⟨by show 2 ≤ sizeLine; decide, [.ref qk, en.val], .cons rfl (.cons rv .nil), ⟨_, hT2, rfl, _, rfl⟩⟩
    have I1 : Inv X pins σ (L2.upd H s.heap.objs.size (.tup [.ref qk, v])) { s with heap := h'' } :=
      I.turnedNew (t' := s.toks) (ch := [it]) (fun b ob hb e => (sb.2 b (by simpa using hb)).trans (hk b ob (by simpa using hb) e)) hf (Nat.le_refl _) new
    refine ⟨.ref s.heap.objs.size, _, I1, rfl, ⟨_, k, v, qk, hkv, rfl, I.hok.fresh (Nat.le_refl _), hq, rfl⟩, ⟨es'[i].key, es'[i].val, ?_⟩, fun b hb => ?_⟩
    · rw [← hsz]; exact he'
    · have e : b = it := by simpa using hb
      rw [e, upd_ne (Nat.ne_of_lt hlt)]
      exact (hf it (by simp)).1
  done := by
    intro X hP hw hK hc i pins s σ H E I hf st hg
    subst hP hw hK
    obtain ⟨hd, hi⟩ := hg
    obtain ⟨f0, f1, f2, f3, f4, f5⟩ := hf it (by simp)
    obtain ⟨hs, hgd, hx, es', ep', hdt, hsz, ent⟩ := frzT2 I hd
    obtain ⟨rfl, rfl⟩ := dict_ep hod hdt
    obtain ⟨ok, ov, he⟩ := st
    rw [← hsz] at he
    exact wpAny_pyNext_items_end_raw (I.ok.hd hc) he ⟨o, hgd, hx, hdt⟩ (by omega) fun h' eb => ⟨rfl, I.turned (t' := s.toks) (fun b ob hb e => eb b ob hb e) f0 f1 f3 f4 f5⟩
  self := fun A i s Q E st h => let ⟨_, _, e⟩ := st; PySem.W.kcp_self e h
end
def iItemsT (td : TE) : TI := fun σ H R => td σ H fun x H1 => ∃ d o kvs, x = .ref d ∧ H1 d = some (.frz o (.dT kvs)) ∧ R (Itit d o kvs) H1
section
variable {X : Cx} {tg e : Expr} {td : TE} {apos cpos : Pos}
theorem pi_itemsT {elts : List Expr} {kk : Nat} {tpos : Pos} (he : PE X e td) (hbase : attributeBase e "items" X.env (eval e X.env) = eval e X.env := by rfl) (hline : (apos.endLine == cpos.line) = true := by rfl) :
    PI X (.Tuple elts kk tpos) (.Call (.Attribute e "items" apos) [] [] cpos) (iItemsT td) := by
  refine ⟨fun pins s σ H R I h => ?_⟩
  refine wpAny_Call_method (T := "dict") (id := "dict.items") hbase rfl hline F.plainAttrs_dict F.slot_dict_items F.type_dict_items (thn (he.run pins s σ H _ I h) fun u s1 ⟨x, H1, I1, rx, d, o, kvs, ex, hd, q⟩ => ?_)
  subst ex
  obtain rfl : u = Value.ref d := rx
  obtain ⟨hs, hgd, hx, es, ep, hdt, hsz, ent⟩ := frzT2 I1 hd
  have hm : s1.heap.DictRaw d es ep := ⟨o, hgd, hx, hdt⟩
  refine ⟨hm.typeIs, fun a ea => by cases ea; exact ⟨o, hgd, hx.2.1⟩, ?_⟩
  have I2 : Inv X pins σ H1 { s1 with heap := s1.heap.push { cls := .type "dict_items", data := .fields #[.ref d] } } := I1.kept (t' := s1.toks) fun b ob q => Heap.get?_push_of_some _ q
  have fin : wpAny (model X.prog X.w) X.A (pyIter (.ref s1.heap.objs.size)) (PIE X pins σ (.Tuple elts kk tpos) R) X.xe { s1 with heap := s1.heap.push { cls := .type "dict_items", data := .fields #[.ref d] } } := by
    refine wpAny_pyIter_items_raw (d := d) ⟨_, Heap.get?_push_size _ rfl, rfl, rfl⟩ (hm.push _) (pi_one (tk := s1.toks) I2 _ (turn_itemsT _ hdt) ⟨.none, .none, ?_⟩ q)
    rw [hsz]
    exact Heap.get?_push_size _ rfl
  show wpAny _ _ (callWith cpos (.builtin "dict.items") [.ref d] [] []) _ X.xe s1
  exact method_meetsIn F.slot_dict_items F.entry_dict_items rfl (PySem.evalArgs_none ⟨rfl, hm.typeIs, F.args_dict_items_1 _, _, meets_dict_items_raw d hs, ⟨_, _, hm⟩, fin⟩)
end
end Y
/-! ### [.. for .. in .. for .. in ..] -/
namespace Y
open PySem PySem.Spec PyProof.Rows L2
def Lc2I (J1 : It) (g1 : TG) (tt1 : TT) (te : TE) (vs1 : List Nat) (σ2 : L2.St) (D : Addr) (Nx : Hp → Prop) (H4 : Hp) : Prop := ∃ W1 : Nat → Nat → Hp → Prop, (∃ m, W1 0 m H4) ∧ ∀ j k H, W1 j k H →
      (J1.stop j H ∧ Nx H) ∨ (J1.go j H ∧ ∃ Nx1 : Hp → Prop, (∀ H', Nx1 H' → ∃ k', k' < k ∧ W1 (j + 1) k' H') ∧ ∀ x H', J1.yld j H x H' → g1 x (wipe σ2 vs1) H' fun σ3 H5 => wipe σ3 vs1 = wipe σ2 vs1 ∧ tt1 σ3 H5 fun b H6 =>
        if b = true then te σ3 H6 fun y H7 => ∃ acc, H7 D = some (.lst acc) ∧ acc.length < sizeLine ∧ Nx1 (L2.upd H7 D (.lst (acc ++ [y]))) else Nx1 H6)
def Lc2O (J : It) (g : TG) (tt : TT) (wi1 : TI) (g1 : TG) (tt1 : TT) (te : TE) (vs vs1 : List Nat) (σ : L2.St) (D : Addr) (Q : VK) (H1 : Hp) : Prop := ∃ W : Nat → Nat → Hp → Prop, (∃ m, W 0 m (L2.upd H1 D (.lst []))) ∧ ∀ i m H, W i m H →
  (J.stop i H ∧ Q (.ref D) H) ∨ (J.go i H ∧ ∃ Nx : Hp → Prop, (∀ H', Nx H' → ∃ m', m' < m ∧ W (i + 1) m' H') ∧ ∀ x H', J.yld i H x H' → g x (wipe σ vs) H' fun σ2 H2 => wipe σ2 vs = wipe σ vs ∧ tt σ2 H2 fun b H3 =>
    if b = true then wi1 σ2 H3 fun J1 H4 => Lc2I J1 g1 tt1 te vs1 σ2 D Nx H4 else Nx H3)
theorem g_lc2 {wi wi1 : TI} {g g1 : TG} {tt tt1 : TT} {te : TE} {vs vs1 : List Nat} {σ : L2.St} {H : Hp} {Q : VK} (q : wi σ H fun J H1 => ∀ D, H1 D = none → Lc2O J g tt wi1 g1 tt1 te vs vs1 σ D Q H1) : tLc2 wi g tt wi1 g1 tt1 te vs vs1 σ H Q := q
section
variable {K : PySem.W.Frag} {G H : Hp} {A : Addr} {J J1 : It} {g g1 : TG} {tt tt1 : TT} {wi1 : TI} {te : TE} {vs vs1 : List Nat} {σ σ2 : L2.St} {n : Nat} {P : Nat → Hp → V → Prop} {L : List PyData} {f es : Nat → List PyData} {NX : Hp → Prop} {Q : VK}
theorem g_lc2I (S : SrcP [A] J1 G H n P) (e : Ex G H) (r : LstAt K A G H L) (hf : ∀ j, (f j).length ≤ j) (hl : L.length + n < 100000) (f0 : f 0 = [])
    (hs : ∀ j v G' H', j < n → P j G' v → Nx [A] G H G' H' → LstAt K A G' H' (L ++ f j) → ∀ (QE : VK) (QN : Hp → Prop),
      (∀ y G4 H4 d', Nx [] G' H' G4 H4 → Dp K G4 y d' → f (j + 1) = f j ++ [d'] → QE y H4) → (∀ G3 H3, Nx [] G' H' G3 H3 → f (j + 1) = f j → QN H3) →
      g1 v (wipe σ2 vs1) H' fun σ3 H5 => wipe σ3 vs1 = wipe σ2 vs1 ∧ tt1 σ3 H5 fun b H6 => if b = true then te σ3 H6 QE else QN H6)
    (hd : ∀ G' H', Nx [A] G H G' H' → LstAt K A G' H' (L ++ f n) → NX H') : Lc2I J1 g1 tt1 te vs1 σ2 A NX H := by
  refine ⟨fun j k H' => k = n - j ∧ j ≤ n ∧ ∃ G', Nx [A] G H G' H' ∧ LstAt K A G' H' (L ++ f j), ⟨n, by simp, Nat.zero_le _, G, Nx.refl e, by rw [f0, List.append_nil]; exact r⟩, ?_⟩
  rintro j k H' ⟨rfl, hj, G', n1, r1⟩
  by_cases hlt : j < n
  · refine .inr ⟨S.go j G' H' n1 hlt, fun H3 => ∃ G3, Nx [A] G H G3 H3 ∧ LstAt K A G3 H3 (L ++ f (j + 1)), fun H3 ⟨G3, n3, r3⟩ => ⟨n - (j + 1), by omega, rfl, hlt, G3, n3, r3⟩, fun v H1 y => ?_⟩
    obtain ⟨G1, n2, p1⟩ := S.yld j G' H' v H1 n1 hlt y
    have r2 := r1.go n2 (by simp)
    refine hs j v G1 H1 hlt p1 (n1.trans n2.pure) r2 (fun y H7 => ∃ acc : List V, H7 A = some (.lst acc) ∧ acc.length < sizeLine ∧ _) _ (fun y G4 H4 d' n4 dy ee => ?_) (fun G3 H3 n3 ee => ⟨G3, (n1.trans n2.pure).trans n3.pure, by rw [ee]; exact r2.go n3 (by simp)⟩)
    obtain ⟨acc, h4, g4, d4⟩ := r2.go n4 (by simp)
    have hlen := dpAll_len d4
    rw [List.length_append] at hlen
    have := hf j
    exact ⟨acc, h4, by rw [hlen]; exact szl (by omega), G4, ((n1.trans n2.pure).trans n4.pure).trans (Nx.set n4.gh g4 (by simp)), _, upd_same, g4, by rw [ee, ← List.append_assoc]; exact dpAll_snoc d4 dy⟩
  · have e' : j = n := by omega
    subst e'
    exact .inl ⟨S.stop _ G' H' n1 (Nat.le_refl _), hd G' H' n1 r1⟩
theorem g_lc2O (S : SrcP [] J G H n P) (e : Ex G H) (hA : H A = none) (e0 : es 0 = [])
    (hs : ∀ i v G' H', i < n → P i G' v → Nx [] G H G' H' → LstAt K A G' H' (es i) → ∀ NX : Hp → Prop, (∀ G3 H3, Nx [A] G' H' G3 H3 → LstAt K A G3 H3 (es (i + 1)) → NX H3) →
      g v (wipe σ vs) H' fun σ2 H2 => wipe σ2 vs = wipe σ vs ∧ tt σ2 H2 fun b H3 => if b = true then wi1 σ2 H3 fun J1 H4 => Lc2I J1 g1 tt1 te vs1 σ2 A NX H4 else NX H3)
    (hd : ∀ G' H', Nx [] G H G' H' → LstAt K A G' H' (es n) → Q (.ref A) H') : Lc2O J g tt wi1 g1 tt1 te vs vs1 σ A Q H := by
  refine ⟨fun j k H' => k = n - j ∧ j ≤ n ∧ ∃ G', Nx [] G H G' H' ∧ LstAt K A G' H' (es j), ⟨n, by simp, Nat.zero_le _, G, Nx.own e hA, [], upd_same, e.free hA, by rw [e0]; exact .nil⟩, ?_⟩
  rintro j k H' ⟨rfl, hj, G', n1, r1⟩
  by_cases hlt : j < n
  · refine .inr ⟨S.go j G' H' n1 hlt, fun H3 => ∃ G3, Nx [] G H G3 H3 ∧ LstAt K A G3 H3 (es (j + 1)), fun H3 ⟨G3, n3, r3⟩ => ⟨n - (j + 1), by omega, rfl, hlt, G3, n3, r3⟩, fun v H1 y => ?_⟩
    obtain ⟨G1, n2, p1⟩ := S.yld j G' H' v H1 n1 hlt y
    exact hs j v G1 H1 hlt p1 (n1.trans n2) (r1.go n2 (by simp)) _ fun G3 H3 n3 r3 => ⟨G3, ((n1.trans n2).pure.trans n3).drop hA, r3⟩
  · have e' : j = n := by omega
    subst e'
    exact .inl ⟨S.stop _ G' H' n1 (Nat.le_refl _), hd G' H' n1 r1⟩
/-- the pairs of a locked dict of cells -/
theorem src_dtI {M : List Addr} {d : Addr} {od : Obj} {kvs : List (List L2.Key × V)} {md : Dt} (h : H d = some (.frz od (.dT kvs))) (k : DtC K G kvs md) (hM : d ∉ M) : SrcP M (Itit d od kvs) G H md.length (fun i G v => ∃ t a b c x, v = .ref t ∧ SqT K G t [a, b] ∧ md[i]? = some (c, x) ∧ Cl G a c ∧ Dp K G b x) where
  go := fun i G' H' n hi => ⟨n.fr d _ hM h, by rw [k.len]; exact hi⟩
  stop := fun i G' H' n hi => ⟨n.fr d _ hM h, by rw [k.len]; exact hi⟩
  yld := fun i G' H' x H'' n hi y => by
    obtain ⟨T, kk, v, q, hk, rfl, hT, hq, rfl⟩ := y
    have h1 : (kvs.map (·.1))[i]? = some kk := by rw [List.getElem?_map, hk]; rfl
    rw [k.1] at h1
    unfold dtK at h1
    rw [List.map_map, List.getElem?_map] at h1
    obtain ⟨⟨c, dx⟩, he, h2⟩ := Option.map_eq_some_iff.mp h1
    subst h2
    obtain ⟨v', hv', dv⟩ := dpAll_get k.2 (i := i) (d := dx) (by unfold dtK; rw [List.map_map, List.getElem?_map, he]; rfl)
    have ev : v' = v := by
      rw [List.getElem?_map, hk] at hv'
      exact (Option.some.inj hv').symm
    subst ev
    obtain ⟨G1, n1, hb⟩ := know1 n.gh hq
    have n2 : Nx [] G1 H' (L2.upd G1 T (.tup [.ref q, v'])) (L2.upd H' T (.tup [.ref q, v'])) := (Nx.own n1.gh hT).know hT upd_same (n1.gh.free hT)
    exact ⟨_, n1.trans n2, T, .ref q, v', c, dx, rfl, .of upd_same, he, ⟨q, rfl, n2.gg _ _ hb⟩, dp_mono ((n.gg.trans n1.gg).trans n2.gg) dv⟩
end
end Y
namespace Y
open PySem PySem.Spec PyProof.Rows L2
section
variable {K : PySem.W.Frag} {α : Type} {R : Hp → V → α → Prop} {p b : Addr} {G H : Hp} {as es : List α} {Q : VK}
theorem pr_take {R : V → α → Prop} : ∀ (n : Nat) {vs : List V} {cs : List α}, PySem.Paired R vs cs → PySem.Paired R (vs.take n) (cs.take n)
  | 0, _, _, _ => .nil
  | _ + 1, _, _, .nil => .nil
  | n + 1, _, _, .cons a r => .cons a (pr_take n r)
theorem pr_drop {R : V → α → Prop} : ∀ (n : Nat) {vs : List V} {cs : List α}, PySem.Paired R vs cs → PySem.Paired R (vs.drop n) (cs.drop n)
  | 0, _, _, h => h
  | _ + 1, _, _, .nil => .nil
  | n + 1, _, _, .cons a r => pr_drop n r
theorem g_slR {lo hi : Option Int} (e : Ex G H) (r : LsR R b G H as) (hc : ∀ xs : List V, PySem.Paired (R G) xs as → PySem.Paired (R G) (cutV xs lo hi) es) (q : ∀ p H', Nx [] G H G H' → H p = none → LsR R p G H' es → Q (.ref p) H') : rSlL K (.ref b) lo hi H Q := by
  obtain ⟨xs, h, g, d⟩ := r
  exact ⟨b, xs, rfl, .of h, fun p hp => q p _ (Nx.own e hp) hp ⟨_, upd_same, e.free hp, hc xs d⟩⟩
theorem g_ixLsRm1 {a : α} (r : LsR R p G H (as ++ [a])) (q : ∀ v, R G v a → Q v H) : rIxL K (.ref p) (.int (-1)) H Q := by
  obtain ⟨xs, h, g, hq⟩ := r
  have hl := pr_len hq
  rw [List.length_append, List.length_singleton] at hl
  obtain ⟨v, hv, rv⟩ := pr_get hq (i := as.length) (c := a) (by simp)
  refine ⟨p, xs, _, v, rfl, rfl, .of h, ?_, q v rv⟩
  unfold atI ixN
  rw [if_neg (by decide), if_pos (by omega)]
  show xs[_]? = some v
  rw [← hv]
  congr 1
  omega
end
end Y

namespace Y
open PySem PySem.Spec PyProof.Rows L2
section
variable {K : PySem.W.Frag} {G H : Hp} {a b : Addr} {xs ys : List V} {Q : VK}
/-- t + u of two tuples of values as they are -/
theorem g_catRaw (e : Ex G H) (ha : SqT K G a xs) (hb : SqT K G b ys) (hx : xs ≠ []) (hy : ys ≠ []) (hz : xs.length + ys.length ≤ sizeLine) (q : ∀ p G' H', Nx [] G H G' H' → H p = none → SqT K G' p (xs ++ ys) → Q (.ref p) H') : rCatA K (.ref a) (.ref b) H Q :=
  ⟨a, b, xs, ys, rfl, rfl, e.seqT ha, e.seqT hb, hz, fun hn => absurd hn hx, fun _ hn => absurd hn hy, fun _ _ p hp => q p (L2.upd G p (.tup (xs ++ ys))) _ ((Nx.own e hp).know hp upd_same (e.free hp)) hp (.of upd_same)⟩
end
end Y
namespace Y
open PySem PySem.Spec PyProof.Rows L2
theorem pr_rev {α : Type} {R : V → α → Prop} : ∀ {vs : List V} {cs : List α}, PySem.Paired R vs cs → PySem.Paired R vs.reverse cs.reverse
  | _, _, .nil => .nil
  | _, _, .cons a r => by
    rw [List.reverse_cons, List.reverse_cons]
    exact pr_snoc (pr_rev r) a
end Y
namespace Y
open PySem PySem.Spec PyProof.Rows L2
theorem g_lrevR {K : PySem.W.Frag} {α : Type} {R : Hp → V → α → Prop} {p : Addr} {G H : Hp} {as : List α} {Q : VK} (e : Ex G H) (h : LsR R p G H as) (q : ∀ p H', Nx [] G H G H' → H p = none → LsR R p G H' as.reverse → Q (.ref p) H') : rListRev K (.ref p) H Q := by
  obtain ⟨vs, hv, g, hp⟩ := h
  exact ⟨p, vs, rfl, .inl (.of hv), fun r hr => q r _ (Nx.own e hr) hr ⟨_, upd_same, e.free hr, pr_rev hp⟩⟩
end Y
namespace Y
open PySem PySem.Spec PyProof.Rows L2
/-- t[lo:hi] of a tuple of values as they are -/
theorem g_slAR {K : PySem.W.Frag} {G H : Hp} {a : Addr} {xs ys : List V} {lo hi : Option Int} {Q : VK} (e : Ex G H) (h : SqT K G a xs) (hc : cutV xs lo hi = ys) (q : ∀ p G' H', Nx [] G H G' H' → SqT K G' p ys → Q (.ref p) H') : rSlA K (.ref a) lo hi H Q := by
  refine ⟨a, xs, rfl, e.seqT h, fun hw => ?_, fun _ p hp => ?_⟩
  · rw [cut_all hw] at hc
    subst hc
    exact q a G H (Nx.refl e) h
  · rw [hc]
    exact q p (L2.upd G p (.tup ys)) _ ((Nx.own e hp).know hp upd_same (e.free hp)) (.of upd_same)
end Y

/-! ### d.pop(k), the keys tuples (as the library's rule for d.pop(k, x)) -/
namespace Y
open PySem PySem.Spec PyProof.Rows L2 DT
theorem meetsPopT1 {prog : Program} {w : World} {K : Type} [DecidableEq K] {knd : PySem.HeapKind prog w K} {d b : Addr} {k : K} (hd : (d == sysModules) = false) :
    MeetsIn prog w (Builtin.«dict.pop» ⟨[.ref d, .ref b], []⟩) (fun A R s => ∃ xs, knd.room A.in1 ∧ knd.is s.heap k b ∧ s.heap.DictOfH knd d xs ∧ xs.length ≤ sizeLine ∧
      (atKey xs k).isSome = true ∧
      ∀ p, atKey xs k = some p → ∀ h' tk, h'.DictOfH knd d (dropH xs k) → Heap.SameBut d s.heap h' → R (.ok (.ret p.2)) { s with heap := h', toks := tk }) :=
  .of_wp fun A R s ⟨xs, hu, hkey, hm, hsz, hthere, hsome⟩ => by
    obtain ⟨o, es, ep, ho, hc, hdat, he, his, hn⟩ := id hm
    have hes : es.size = xs.length := size_of_entries he
    have hpart : (keyPart (Value.ref b)).isSome = false := rfl
    unfold Builtin.«dict.pop»
    refine wpAny_bind ?_
    unfold Builtin.Dict.keyAndDefault
    refine wpAny_bind (wpAny_notOrdered_dict hm.typeIs ?_)
    show wpAny _ _ (pure (d, Value.ref b, none)) _ _ s
    refine wpAny_pure ?_
    simp only [hpart, Bool.false_eq_true, if_false]
    refine wpAny_bind (wpAny_dictEntries ho hdat (wpAny_bind (wpAny_pure ?_)))
    cases hem : es.isEmpty with
    | true =>
      have h0 : xs = [] := by
        have z : es.size = 0 := by simpa using hem
        exact List.length_eq_zero_iff.mp (by omega)
      rw [h0] at hthere
      cases hthere
    | false =>
      simp only [Bool.false_eq_true, if_false]
      refine wpAny_bind (takeH hu hkey hm hsz (fun hno => ?_) fun p e hp hev h' hm' hs' => ?_)
      · rw [hno] at hthere
        cases hthere
      · simp only [Option.isNone_some, Bool.false_eq_true, if_false]
        exact wpAny_bind (wpAny_letGo (wpAny_pure ⟨e.val, rfl, by rw [hev]; exact hsome p hp h' _ hm' hs'⟩))
def rPopT1 : V → List V → Hp → VK → Prop := fun x xs H Q => ∃ (a : Addr) (kvs : List (List L2.Key × V)) (k : List L2.Key) (b : Addr) (v : V), x = .ref a ∧ xs = [.ref b] ∧ H a = some (.dT kvs) ∧ H b = some (.tup (k.map kV)) ∧ valV kvs k = some v ∧ Q v (L2.upd H a (.dT (dropK kvs k)))
theorem mt_popT1 {X : Cx} (hu : X.A.units + 1 < cLine) : MtR X "dict.pop" rPopT1 := by
  intro pins s σ H x xs v us Q I rx rxs h
  obtain ⟨a, kvs, k, b, v0, rfl, rfl, ha, hb, ev, q1⟩ := h
  cases rx
  obtain rfl := Vals.ref1 rxs
  obtain ⟨z, hd, xs', rel, dd⟩ := dt_of I.hok ha
  have hz : xs'.length ≤ sizeLine := by rw [← Paired.length rel]; exact z
  have r := rel.val k
  rw [ev] at r
  obtain ⟨p, hp, rv⟩ : ∃ p, atKey xs' k = some p ∧ RelV v0 p.2 := by
    cases e2 : atKey xs' k with
    | none =>
      rw [e2] at r
      exact (show False from r).elim
    | some p =>
      rw [e2] at r
      exact ⟨p, rfl, r⟩
  refine call_meetsIn PySem.F.slot_dict_pop dd.typeIs PySem.F.entry_dict_pop (PySem.F.args_dict_pop_2 _ _) (meetsPopT1 (knd := tupleKind (mixKind X.prog X.w)) (k := k) hd)
    ⟨xs', tupleKind_room_in1 hu, key_of I.hok hb, dd, hz, by rw [hp]; rfl, fun p2 hp2 h' tk dd' hs => ?_⟩
  · rw [hp] at hp2
    cases hp2
    obtain ⟨o, es, ep, hq, h2, h3, h4, _, h5⟩ := dd'
    have I2 : Inv X pins σ (L2.upd H a (.dT (dropK kvs k))) { s with heap := h', toks := tk } :=
      d_write I (by rw [ha]; exact True.intro) hs ⟨o, hq⟩ ⟨Nat.le_trans (dropK_le kvs k) z, hd, _, (L2.DX.KT_drop k rel).keeps (fun c ys ec => (by rw [upd_ne (ne_of ec ha (fun z => nomatch z))]; exact ec)), o, es, ep, hq, h2, h3, h4, h5⟩
    show EP X pins σ Q p.2 _
    exact ⟨v0, _, I2, rv, q1⟩
section
variable {K : PySem.W.Frag} {G H : Hp} {d : Addr} {md : Dt} {c : Cell} {x : PyData} {y : V} {Q : VK}
theorem g_popT1 (e : Ex G H) (r : DtAt K d G H md) (h : Cl G y c) (hg : gtM md c = some x) (q : ∀ v H', Nx [d] G H G H' → Dp K G v x → DtAt K d G H' (md.filter fun p => decide (p.1 ≠ c)) → Q v H') : rPopT1 (.ref d) [y] H Q := by
  obtain ⟨b, rfl, hb⟩ := h
  obtain ⟨kvs, hd, g, k⟩ := r
  obtain ⟨v, hv, dv⟩ := k.get hg
  obtain ⟨p1, p2⟩ := drop_rel (ckey c) k.1 k.2
  refine ⟨d, kvs, ckey c, b, v, rfl, rfl, hd, e _ _ hb, hv, q v _ (Nx.set e g (by simp)) dv ⟨_, upd_same, g, ?_⟩⟩
  have e1 : (dtK md).filter (fun p => decide (p.1 ≠ ckey c)) = dtK (md.filter fun p => decide (p.1 ≠ c)) := by
    unfold dtK
    rw [List.filter_map]
    congr 1
    refine List.filter_congr fun p _ => ?_
    exact decide_eq_decide.mpr ⟨fun z1 z2 => z1 (congrArg ckey z2), fun z1 z2 => z1 (ckey_inj z2)⟩
  rw [e1] at p1 p2
  exact ⟨p1, p2⟩
end
end Y

/-! ### d.setdefault(k, x) with tuple keys; sorted(d, key=..) of a dict with tuple keys -/
namespace Y
open PySem PySem.Spec PyProof.Rows L2 PySem.Calls
def rSetdT : V → List V → Hp → VK → Prop := fun x xs H Q => ∃ (a : Addr) (kvs : List (List L2.Key × V)) (k : List L2.Key) (b : Addr) (z : V), x = .ref a ∧ xs = [.ref b, z] ∧ H a = some (.dT kvs) ∧ H b = some (.tup (k.map kV)) ∧ kvs.length < sizeLine ∧
  (∀ v, valV kvs k = some v → Q v H) ∧ (valV kvs k = none → Q z (L2.upd H a (.dT (putK kvs k z))))
theorem mt_setdT {X : Cx} (hu : X.A.units + 1 < cLine) : MtR X "dict.setdefault" rSetdT := by
  intro pins s σ H x xs v us Q I rx rxs h
  obtain ⟨a, kvs, k, b, d, rfl, rfl, ha, hb, hl, q1, q2⟩ := h
  cases rx
  obtain ⟨u1, u2, rfl, r1, r2⟩ := vals2 rxs
  cases r1
  obtain ⟨z, hd, xs', rel, dd⟩ := dt_of I.hok ha
  have hz : xs'.length ≤ sizeLine := by rw [← Paired.length rel]; exact z
  have hp : (putK kvs k d).length ≤ sizeLine := by have := length_putK kvs k d; omega
  refine call_setdefault_heap (hsz := hz) (knd := tupleKind (mixKind X.prog X.w)) (k := k) (tupleKind_room_in1 hu) (key_of I.hok hb) hd dd (fun p hp => ?_) fun hn h' dd' hs => ?_
  · have r := rel.val k
    rw [hp] at r
    obtain ⟨v0, ev, rv⟩ : ∃ v0, valV kvs k = some v0 ∧ RelV v0 p.2 := by
      cases ev : valV kvs k with
      | none =>
        rw [ev] at r
        exact (show False from r).elim
      | some v0 =>
        rw [ev] at r
        exact ⟨v0, rfl, r⟩
    exact ⟨v0, H, I.tok _, rv, q1 v0 ev⟩
  · have r := rel.val k
    rw [hn] at r
    have e : valV kvs k = none := by
      cases ev : valV kvs k with
      | none => rfl
      | some v0 =>
        rw [ev] at r
        exact (show False from r).elim
    obtain ⟨o, es, ep, hq, h2, h3, h4, _, h5⟩ := dd'
    refine ⟨d, _, d_write (ob := .dT (putK kvs k d)) I (by rw [ha]; exact True.intro) hs ⟨o, hq⟩ ⟨hp, hd, _, (rel.put k hb r2).keeps fun c ys ec => ?_, o, es, ep, hq, h2, h3, h4, h5⟩, r2, q2 e⟩
    rw [upd_ne (ne_of ec ha (fun z => nomatch z))]
    exact ec
/-- the value is this cell, laid as a tuple -/
def CtH (H : Hp) (v : V) (c : Cell) : Prop := ∃ b, v = .ref b ∧ H b = some (.tup [.int c.1, .int c.2])
def rSrtDX (vs zs : List V) (H : Hp) (Q : VK) : Prop := ∃ (a f c' : Addr) (q : Str) (ps : Arguments) (body : Expr) (sc : Scope) (kvs : List (List L2.Key × V)) (cs : List Cell), vs = [.ref a] ∧ zs = [.ref f] ∧ LamYX ps body sc ∧
  H f = some (LamO f q ps body sc c') ∧ H c' = some (LamX.CodeO c' q) ∧ L2.Rd H a (.dT kvs) ∧ kvs.map (·.1) = cs.map ckey ∧
  ∀ p ys, H p = none → PySem.Paired (CtH H) ys (cs.mergeSort yxLe) → Q (.ref p) (L2.upd H p (.lst ys))
theorem isKeys_cells {H : Hp} : ∀ {kvs : List (List L2.Key × V)} {bs : List Addr} {cs : List Cell}, kvs.map (·.1) = cs.map ckey → IsKeys H kvs bs → PySem.Paired (CtH H) (bs.map V.ref) cs
  | [], [], [], _, _ => .nil
  | [], [], _ :: _, h, _ => nomatch h
  | _ :: _, _ :: _, [], h, _ => nomatch h
  | e :: kvs, b :: bs, c :: cs, h, .cons hb r => by
    have h1 : e.1 = ckey c := by injection h
    have h2 : kvs.map (·.1) = cs.map ckey := by injection h
    refine .cons ⟨b, rfl, ?_⟩ (isKeys_cells h2 r)
    rw [hb, h1]
    rfl
theorem cr_srtDX {X : Cx} {k : Nat} (hr : Room k X.A) (hc : X.calm = true) : CallRK X (.builtin "sorted") ["key"] rSrtDX := by
  intro pins s σ H xs zs us ws Q I hx hz ⟨a, f, c', q, ps, body, sc, kvs, cs, e1, e2, L, hf, hco', hd, hks, hq⟩
  subst e1 e2
  cases hx with
  | cons h1 h2 =>
  cases h2
  cases hz with
  | cons g1 g2 =>
  cases g2
  cases h1
  cases g1
  obtain ⟨z, hs, ks, pr, o, es, ep, ho, hxd, hdt, he, hn⟩ := (show ObjOk X.prog X.w H s.heap a (.dT kvs) from hd.ok I.hok)
  have l1 : es.size = ks.length := size_of_entries he
  have l2 : kvs.length = ks.length := Paired.length pr
  obtain ⟨⟨pm, ctv, cl, hfo⟩, _⟩ := I.hok f _ hf
  obtain ⟨⟨oc, cvs, ct, hco, hcd, hcs⟩, _⟩ := I.hok c' _ hco'
  refine call_function_entry_kw PyProof.Rows.kind_sorted PyProof.Rows.plain_sorted PyProof.Rows.entry_sorted (ksk_s1 _ _) ?_
  unfold Builtin.«sorted»
  refine wpAny_bind (m := checkCount "sorted" 1 1 _) (wpAny_pure ?_)
  refine wpAny_bind (PySem.W.kdu_collect (A := X.A.in1) (kdl_raw hs hxd hdt) (I.ok.hd hc) ho (by omega) fun h' tk acc kp it => ?_)
  have ea : acc.toList = ks.map fun x => Value.ref x.2.1 := by
    have hl : acc.toList.length = ks.length := by rw [Array.length_toList, it.1]; exact l1
    apply List.ext_getElem?
    intro j
    rw [List.getElem?_map]
    cases hj : acc.toList[j]? with
    | none =>
      have h1 := List.getElem?_eq_none_iff.mp hj
      rw [List.getElem?_eq_none (by omega)]
      all_goals rfl
    | some v =>
      obtain ⟨en, hen, hv⟩ := it.2 j v (by rw [← Array.getElem?_toList]; exact hj)
      have qe := entry_at he j
      rw [hen] at qe
      cases hb : ks[j]? with
      | none =>
        rw [hb] at qe
        exact nomatch (show some en = none from qe)
      | some b =>
        rw [hb] at qe
        have e2 : en = entryOfKey (tupleKind (mixKind X.prog X.w)) b := Option.some.inj qe
        rw [hv, e2]
        all_goals rfl
  have eb : acc.toList = (ks.map fun x => x.2.1).map Value.ref := by rw [ea, List.map_map]; all_goals rfl
  have rv : Vals ((ks.map fun x => x.2.1).map V.ref) acc.toList := by rw [eb]; exact vals_refs _
  have hP := isKeys_cells hks (isKeys_of pr)
  have hE := paired_each rv hP
  have hlen : acc.toList.length = cs.length := hE.length
  have hcl : cs.length ≤ sizeLine := by
    have := congrArg List.length hks
    rw [List.length_map, List.length_map] at this
    omega
  refine wpAny_bind (wpAny_newList ?_ (by rw [hlen]; exact hcl))
  have hoL : (h'.push (seqObj "list" acc.toList.toArray 0)).get? h'.objs.size = some (seqObj "list" acc.toList.toArray 0) := Heap.get?_push_size _ rfl
  have I1 : L2.Inv X pins σ H { s with heap := h', toks := tk } := I.kept kp
  have up : ∀ b u, h'.get? b = some u → (h'.push (seqObj "list" acc.toList.toArray 0)).get? b = some u := fun b u e => Heap.get?_push_of_some _ e
  have low : ∀ b u, h'.get? b = some u → b ≠ h'.objs.size := fun b u e => Nat.ne_of_lt (Heap.lt_size e)
  show wpAny _ _ _ _ _ { s with heap := h'.push (seqObj "list" acc.toList.toArray 0), toks := tk }
  refine wpAny_bind (wpAny_holding (wpAny_mono (PySem.W.list_sort_key_data (A := X.A.in1) (s := { s with heap := h'.push (seqObj "list" acc.toList.toArray 0), toks := tk }) (b := false) (a := h'.objs.size) (f := .ref f) (kw := [(Str.ofString "key", .ref f)])
    (Q := fun _ s' => EP X pins σ Q (.ref h'.objs.size) s') (fun c : Cell => PyData.tuple [.int c.2, .int c.1]) hoL hE ?_ ?_ hcl (fun x _ => ?_) (ksk_l1 _ _) (ksk_t1 _ _) (fun v x hR hm h tk hk => ?_) (fun out c h3 tk3 hk hat hl' hR => ?_)) (fun _ s' x => ?_) fun _ _ e => e))
  · exact PySem.W.AllAlike.of fun b b' => by simp [PySem.W.alike, PySem.W.alikeAll]
  · exact PySem.W.Sortable.tuples fun b => ⟨_, _, rfl⟩
  · have := hr.un
    show X.A.units + 1 + 1 + PyData.depth (.tuple [.int x.2, .int x.1]) < cLine
    have e : PyData.depth (.tuple [.int x.2, .int x.1]) ≤ 1 := by simp [PyData.depth, PyData.depthAll]
    omega
  · obtain ⟨x0, hrel, t, rfl, ht⟩ := hR
    cases hrel
    obtain ⟨its2, hv2, htup, _⟩ := I.tuple (SqT.of (K := X.K) ht)
    cases hv2 with
    | cons r1 r2 =>
    cases r2 with
    | cons r3 r4 =>
    cases r4
    obtain ⟨tx, rfl⟩ := r1
    obtain ⟨ty, rfl⟩ := r3
    obtain ⟨o2, k1, k2⟩ := htup
    have hk2 : ∀ b u, s.heap.get? b = some u → h.get? b = some u := fun b u e => hk b u (low b u (kp b u e)) (up b u (kp b u e))
    have := hr.dp
    exact lam_yx L (by show X.A.depth + 2 < recursionLimit; omega) (hk2 _ _ hfo) ⟨c', oc, cvs, ct, rfl, hk2 _ _ hco, hcd, hcs⟩ (I.nolimit.keeps hk2) ⟨o2, hk2 _ _ k1, k2⟩
  · rw [PySem.W.dataLe_ii (fun c : Cell => c.2) (fun c : Cell => c.1)] at hR
    obtain ⟨ys, hys, hcl2⟩ := each_paired hR
    have hk2 : ∀ b u, h'.get? b = some u → h3.get? b = some u := fun b u e => hk b u (low b u e) (up b u e)
    refine ⟨.ref h'.objs.size, _, I1.laid (o := .lst ys) (a := h'.objs.size) (t' := tk3) hk2 (Nat.le_refl _) ⟨by rw [hys.length, hl']; exact hcl, _, _, hys, hat⟩, rfl, hq _ ys (HOk.fresh I1.hok (Nat.le_refl _)) hcl2⟩
  · exact wpAny_pure ⟨_, rfl, x⟩
end Y

namespace L2
open PySem PySem.Spec PyProof.Rows
/-! ### set(xs) of a list of ints -/
/-- a set with nothing in it -/
abbrev bare (w : World) : Obj := { cls := .type "set", dict := none, data := .set #[] 0 (.fresh 0 0 (!w.params.followText "set-order")) }
abbrev laid (w : World) (s : Shared) : Shared := { s with heap := s.heap.push (bare w) }
section
variable {P : Program} {w : World} {A : Around} {E : Value → Shared → Prop} {s : Shared}
theorem set_of_ints {l : Addr} {xs : Array Value} (ns : List Int) {Q : Value → Shared → Prop} (nh : A.handled = none) (isl : s.heap.IsList l xs) (areI : IntsAre xs.toList ns) (few : ns.length + 1 < scanBound)
    (q : ∀ (h2 : Heap) (tk c : Nat), SetR w h2 s.heap.objs.size (fun j => decide (j ∈ ns)) c → c ≤ ns.length → (∀ b o, s.heap.get? b = some o → h2.get? b = some o) → Q (.ref s.heap.objs.size) { s with heap := h2, toks := tk }) :
    wpAny (model P w) A (call (.type "set") [.ref l]) Q E s := by
  have size : xs.size = ns.length := by have z := IntsAre.length areI; rwa [Array.length_toList] at z
  obtain ⟨cc, rest, mro⟩ := F.called_set.mro
  have made := F.called_set.made
  have sub := F.called_set.sub
  refine wpAny_call (codeAny_of_tree ?_)
  show wpAny _ _ (callAny (.type "set") _) _ _ _
  refine wpAny_pure ⟨Code.quiet_builtin _ (by decide +kernel), ?_⟩
  refine codeAny_builtin F.entry_type_call ?_
  rw [Around.under_plain (weight_type_call_type "set" [.ref l] []) rfl]
  have t1 := F.called_set.notType
  have t2 := F.called_set.canCreate
  have t3 := F.typeCall_set_1 (.ref l)
  repeat (any_goals (first | assumption | wp_step))
  refine codeAny_mono (code_set_led1 (.ref l) (E := E) (Q₁ := fun v s1 => v = .ref s.heap.objs.size ∧ s1 = laid w s) ⟨rfl, rfl⟩) fun r1 s1 done => ?_
  cases r1 with
  | error e => exact done
  | ok f1 =>
    cases f1 with
    | ret v =>
      obtain ⟨rfl, rfl⟩ := done
      have at0 : (laid w s).heap.get? s.heap.objs.size = some (bare w) := Heap.get?_push_size _ rfl
      have ty0 : Shared.TypeIs (laid w s) (.ref s.heap.objs.size) "set" := ⟨_, at0, rfl⟩
      have i1 := F.called_set.init.lookup
      have i2 := F.called_set.init.bind (.ref s.heap.objs.size)
      repeat (any_goals (first | assumption | wp_step))
      refine codeAny_mono (codeAny_call_builtin (R := wants (fun v s2 => v = .none ∧ ∃ h2 tk c, s2 = { s with heap := h2, toks := tk } ∧ SetR w h2 s.heap.objs.size (fun j => decide (j ∈ ns)) c ∧ c ≤ ns.length ∧ ∀ b o, s.heap.get? b = some o → h2.get? b = some o) E)
        F.called_set.init.plain F.entry_set_init (check_set_init_1 ty0 ?_)) fun r2 s2 done2 => ?_
      · obtain ⟨⟨lc, ld, ldata, lsl⟩, lat, lcls, lep, ldat⟩ := isl
        simp only at lcls ldat
        subst lcls ldat
        have lat2 : (laid w s).heap.get? l = some { cls := .type "list", dict := ld, data := .seq xs lep, slots := lsl } := Heap.get?_push_of_some _ lat
        have x1 := F.sub_list_set
        have x2 := F.sub_list_frozenset
        have x3 : (Value.type "list" == Value.type "dict") = false := by decide
        have isl2 : (laid w s).heap.IsList l xs := ⟨_, lat2, rfl, lep, rfl⟩
        unfold Builtin.«set.__init__» noKeywords Builtin.Frozenset.updateFrom
        generalize ep : pyIter = pi
        wp_walk
        subst ep
        refine wpAny_pyIter_list isl2 ?_
        refine wpAny_bind (wpAny_runValue ?_)
        have below : l < s.heap.objs.size := Heap.lt_size lat
        have nh3 : A.in1.in1.in1.handled = none := by simp [nh]
        have apart : l ≠ (laid w s).heap.objs.size := by
          rw [Heap.size_push]
          exact fun z => absurd below (Nat.not_lt.mpr (Nat.le_trans (Nat.le_succ _) (Nat.le_of_eq z.symm)))
        have out : s.heap.objs.size ∉ [(laid w s).heap.objs.size, l] := by
          rw [Heap.size_push]
          intro z
          simp only [List.mem_cons, List.not_mem_nil, or_false] at z
          rcases z with z | z
          · exact Nat.succ_ne_self _ z.symm
          · exact Nat.lt_irrefl _ (Nat.lt_of_le_of_lt (Nat.le_of_eq z) below)
        have each : ∀ (i : Nat) (v : Value), xs[i]? = some v → ∃ k t, ns[i]? = some k ∧ v = .int k t := fun i v hv => by
          have lt : i < ns.length := by rw [← size]; exact (Array.getElem?_eq_some_iff.mp hv).1
          obtain ⟨t, e⟩ := IntsAre.int_at areI i v (by rw [Array.getElem?_toList]; exact hv)
          exact ⟨ns[i], t, List.getElem?_eq_getElem lt, by rw [e, List.getD_eq_getElem?_getD, List.getElem?_eq_getElem lt] <;> rfl⟩
        refine set_update_ints ((Walks.list nh3 _ l apart xs).toS) s.heap.objs.size out ns size few each (xs.size - 0) 0 _ (by omega) (Nat.zero_le _) ⟨⟨_, Heap.get?_push_size _ rfl, rfl, rfl⟩, isl2.push _⟩ ?first ?last
        case first =>
          exact ⟨0, Nat.le_refl 0, setR_new_at (Heap.get?_push_of_some _ at0)⟩
        case last =>
          intro s3 c mv cle R3
          obtain ⟨h3, g3, d3, tk3, os3⟩ := s3
          obtain rfl : g3 = s.gens := mv.gens
          obtain rfl : d3 = s.drawn := mv.drawn
          obtain rfl : os3 = s.os := mv.os
          show wpAny _ _ _ _ _ _
          refine wpAny_pure ?_
          show wpAny _ _ (ret Value.none) _ _ _
          refine wpAny_pure ⟨rfl, h3, tk3, c, rfl, R3, by rw [← size]; exact cle, fun b o e => ?_⟩
          have lt : b < s.heap.objs.size := Heap.lt_size e
          refine mv.heap b o (fun z => ?_) (Heap.get?_push_of_some _ (Heap.get?_push_of_some _ e))
          rw [Heap.size_push] at z
          simp only [List.mem_cons, List.not_mem_nil, or_false] at z
          rcases z with z | z
          · exact Nat.lt_irrefl _ (Nat.lt_of_le_of_lt (Nat.le_of_eq z.symm) lt)
          · exact Nat.lt_irrefl _ (Nat.lt_of_le_of_lt (Nat.le_trans (Nat.le_succ _) (Nat.le_of_eq z.symm)) lt)
      · cases r2 with
        | error e => exact done2
        | ok f2 =>
          cases f2 with
          | ret v =>
            obtain ⟨rfl, h2, tk, c, rfl, R2, cle, keep⟩ := done2
            repeat (any_goals (first | assumption | wp_step))
            exact q _ _ _ R2 cle keep
          | _ => exact done2.elim
    | _ => exact done.elim
end
end L2
namespace Y
open PySem PySem.Spec PyProof.Rows L2
def rSetOfI (K : PySem.W.Frag) (w : World) : List V → Hp → VK → Prop := fun us H Q => ∃ (l : Addr) (ns : List Int), us = [.ref l] ∧ SqL K H l (ns.map V.int) ∧ ns.length ≤ 1000 ∧ ∀ a c, H a = none → c ≤ ns.length → Q (.ref a) (upd H a (SetO w a (fun j => decide (j ∈ ns)) c))
theorem call_setOfI {X : Cx} (hc : X.calm = true) : CallR X (.type "set") (rSetOfI X.K X.w) := by
  intro pins s σ H us ws Q I r h
  obtain ⟨l, ns, rfl, hl, few, q⟩ := h
  rw [Vals.ref1 r]
  obtain ⟨its, rv, pl, _⟩ := I.list hl
  refine L2.set_of_ints ns (I.ok.hd hc) pl.isList (by simpa using ints_of_vals rv) (by unfold scanBound; omega) fun h2 tk c R cle keep => ?_
  exact ⟨.ref s.heap.objs.size, _, I.laid (t' := tk) keep (Nat.le_refl _) (setO_new R), rfl, q _ c (I.hok.fresh (Nat.le_refl _)) cle⟩
end Y
namespace Y
open PySem PySem.Spec PyProof.Rows L2
theorem call_setOfIK {X : Cx} {K : PySem.W.Frag} {w : World} (hK : X.K = K) (hw : X.w = w) (hc : X.calm = true) : CallR X (.type "set") (rSetOfI K w) := hK ▸ hw ▸ call_setOfI hc
theorem call_srtSet {X : Cx} {w : World} (hw : X.w = w) (hc : X.calm = true) : CallR X (.builtin "sorted") (rSortedSet w) := hw ▸ cr_sortedSet hc
theorem lt_unique {xs ys : List Int} (hx : xs.Pairwise (· < ·)) (hy : ys.Pairwise (· < ·)) (h : ∀ k, k ∈ xs ↔ k ∈ ys) : xs = ys := by
  have nx : xs.Nodup := hx.imp fun h => by omega
  have ny : ys.Nodup := hy.imp fun h => by omega
  exact List.Perm.eq_of_pairwise (fun a b _ _ h1 h2 => by omega) hx hy ((List.perm_ext_iff_of_nodup nx ny).mpr h)
/-- set(xs), then sorted of it, the xs distinct and ascending -/
theorem g_setOfI {K : PySem.W.Frag} {w : World} {G H : Hp} {Q : VK} {v : V} {S : List Int} (e : Ex G H) (r : LsV K v G H (S.map .int)) (few : S.length ≤ 1000) (q : ∀ a c H', Nx [] G H G H' → H a = none → c ≤ S.length → H' a = some (SetO w a (fun j => decide (j ∈ S)) c) → Q (.ref a) H') : rSetOfI K w [v] H Q := by
  obtain ⟨p, rfl, h⟩ := r.ints e
  exact ⟨p, S, rfl, h, few, fun a c ha hc => q a c _ (Nx.own e ha) ha hc upd_same⟩
theorem g_srtSet {K : PySem.W.Frag} {w : World} {G H : Hp} {Q : VK} {a : Addr} {c : Nat} {S : List Int} (e : Ex G H) (h : H a = some (SetO w a (fun j => decide (j ∈ S)) c)) (hc : c < 64) (hs : S.Pairwise (· < ·)) (q : ∀ p H', Nx [] G H G H' → H p = none → LstAt K p G H' (S.map .int) → Q (.ref p) H') : rSortedSet w [.ref a] H Q := by
  refine ⟨a, _, c, rfl, h, hc, fun ns p h1 h2 _ hp => ?_⟩
  have en : ns = S := lt_unique h1 hs fun k => (h2 k).trans (by rw [decide_eq_true_eq])
  subst en
  exact q p _ (Nx.own e hp) hp ⟨_, upd_same, e.free hp, dpAll_ints ns⟩
end Y

/-! ### {n for ..} of ints; list(d.values()), if d: with tuple keys -/
namespace Y
open PySem PySem.Spec PyProof.Rows L2
abbrev bareS (w : World) : Obj := { cls := .type "set", dict := none, data := .set #[] 0 (.fresh 0 0 (!w.params.followText "set-order")) }
section
variable {X : Cx}
theorem addI_ok {pins : List (Addr × Obj)} {σ : L2.St} {H : Hp} {s : Shared} {E : Value → Shared → Prop} {D : Addr} {S : Int → Bool} {n : Nat} {y : Int} {t : Tok} {Q : Value → Shared → Prop} (I : L2.Inv X pins σ H s) (hD : H D = some (SetO X.w D S n)) (room : n + 1 < scanBound)
    (h : ∀ s', L2.Inv X pins σ (L2.upd H D (SetO X.w D (fun j => S j || decide (j = y)) (if S y = true then n else n + 1))) s' → Q .none s') : wpAny (model X.prog X.w) X.A (call (.builtin "set.add") [.ref D, .int y t]) Q E s := by
  have R := setO_get I hD
  refine setR_add R room fun h' sb new => ?_
  have he : ∃ u, h'.get? D = some u := by
    have ⟨o, _, _, _, ho, _⟩ := new
    exact ⟨o, ho⟩
  exact h _ (I.write (e := D) (t' := s.toks + 1) (by rw [hD]; trivial) (.inl rfl) (fun b u hb hu => (sb.2 b hb).trans hu) he (setO_new new))
def tScI (w : World) (wi : TI) (g : TG) (tt : TT) (te : TE) (vs : List Nat) : TE := fun σ H Q => wi σ H fun J H1 => ∀ D, H1 D = none → ∃ W : Nat → Nat → Hp → Prop, (∃ m, W 0 m (L2.upd H1 D (SetO w D (fun _ => false) 0))) ∧ ∀ i m H, W i m H →
  (J.stop i H ∧ Q (.ref D) H) ∨ (J.go i H ∧ ∃ Nx : Hp → Prop, (∀ H', Nx H' → ∃ m', m' < m ∧ W (i + 1) m' H') ∧ ∀ x H', J.yld i H x H' → g x (wipe σ vs) H' fun σ2 H2 => wipe σ2 vs = wipe σ vs ∧ tt σ2 H2 fun b H3 =>
    if b = true then te σ2 H3 fun y H4 => ∃ (c : Int) (S : Int → Bool) (n : Nat), y = .int c ∧ H4 D = some (SetO w D S n) ∧ n + 1 < scanBound ∧ Nx (L2.upd H4 D (SetO w D (fun j => S j || decide (j = c)) (if S c = true then n else n + 1))) else Nx H3)
theorem scI_core {pins : List (Addr × Obj)} {s : Shared} {σ : L2.St} {H : Hp} {Q : VK} {elt tg iter : Expr} {ifs : List Expr} {scope : Scope} {own : List (Str × Nat)} {pos pos' : Pos} {wi : TI} {g : TG} {tt : TT} {te : TE} {use : Option (Value → Sem Unit)} {Qf : Value → Shared → Prop}
    (hc : X.calm = true) (hN : X.N.Nodup) (I : L2.Inv X pins σ H s) (hi : PI X tg iter wi) (ok : BlkOk X.N X.env.scope scope own)
    (hg : ∀ (s : Shared) (H : Hp) (C : Addr) (cl : List (Str × Addr)) (fp : List Addr), PG (X.blk s H scope (compEnvC scope cl C X.env) fp) tg g) (ht : ∀ (s : Shared) (H : Hp) (C : Addr) (cl : List (Str × Addr)) (fp : List Addr), PTs (X.blk s H scope (compEnvC scope cl C X.env) fp) ifs tt)
    (he : ∀ (s : Shared) (H : Hp) (C : Addr) (cl : List (Str × Addr)) (fp : List Addr), PE (X.blk s H scope (compEnvC scope cl C X.env) fp) elt te) (hs : ∀ x, foldedSetIterable iter X.env x = pure x)
    (h : tScI X.w wi g tt te (own.map (·.2)) σ H Q)
    (hRR : ∀ D C s' m H', L2.Inv X pins σ H' s' → Q (.ref D) H' → s'.heap.Ns C m → FpOk X pins H' C → compPost (model X.prog X.w) X.A X.xe use Qf (.ref D) C (.ok .next) s') :
    wpAny (model X.prog X.w) X.A (comprehension (.SetComp elt [⟨tg, iter, ifs, 0⟩] scope pos) scope X.env pos' (newSet (.type "set")) false (eval iter X.env) use) Qf X.xe s := by
  have hfree : ∀ y ∈ scope.names, y.2 = .free → ∃ c, X.env.cells.lookup y.1 = some c := fun y hy e => by
    rcases ok.free y hy e with k | k
    · exact I.ok.has _ (.inl k)
    · exact I.ok.has _ (.inr k)
  refine wpAny_comprehension_free (use := use) rfl hs (closure_ok hfree) ok.kind (fun y hy e => by rw [ok.uniq y hy, e])
    (thn (hi.run pins s σ H _ I h) fun xv s1 hx => thn hx fun itv s2 h2 => ?_)
  obtain ⟨it, fp, tn, J, H2, e, I2, T, st2, f2, q⟩ := h2
  subst e
  refine PpSet.newSet_ok (newEnv_comp ?_)
  generalize hD : s2.heap.objs.size = D
  have hDn : H2 D = none := I2.hok.fresh (Nat.le_of_eq hD)
  obtain ⟨W, ⟨m0, w0⟩, turn⟩ := q D hDn
  -- the new list
  generalize hs3 : ({ s2 with heap := s2.heap.push (bareS X.w) } : Shared) = s3
  have I3 : L2.Inv X pins σ (L2.upd H2 D (SetO X.w D (fun _ => false) 0)) s3 := by
    rw [← hs3]
    refine I2.laid (t' := s2.toks) (fun b o e => Heap.get?_push_of_some _ e) (Nat.le_of_eq hD) ?_
    rw [← hD]
    exact setO_new (setR_fresh X.w)
  have h3 : s3.heap = s2.heap.push (bareS X.w) := by rw [← hs3]
  have sz : ∀ b ∈ fp, b < s2.heap.objs.size := fun b hb => by
    obtain ⟨o, e, _⟩ := T.obj _ _ st2 b hb
    exact Heap.lt_size e
  have f3 : ∀ b ∈ fp, FpOk X pins (L2.upd H2 D (SetO X.w D (fun _ => false) 0)) b ∧ b < s3.heap.objs.size := fun b hb => by
    have hlt := sz b hb
    refine ⟨⟨?_, (f2 b hb).2⟩, by rw [h3, Heap.size_push]; exact Nat.lt_succ_of_lt hlt⟩
    rw [upd_ne (by rw [← hD]; exact Nat.ne_of_lt hlt)]
    exact (f2 b hb).1
  have st3 : tn 0 s3.heap := T.keep _ _ _ st2 fun b _ o e => by rw [h3]; exact Heap.get?_push_of_some _ e
  have I4 := block_start I3 ok hN f3
  have pg := hg s3 (L2.upd H2 D (SetO X.w D (fun _ => false) 0)) s3.heap.objs.size (cellsFrom (s3.heap.objs.size + 1) scope.names (cloFrom X.env.cells scope.names [])) fp
  have pt := ht s3 (L2.upd H2 D (SetO X.w D (fun _ => false) 0)) s3.heap.objs.size (cellsFrom (s3.heap.objs.size + 1) scope.names (cloFrom X.env.cells scope.names [])) fp
  have pe := he s3 (L2.upd H2 D (SetO X.w D (fun _ => false) 0)) s3.heap.objs.size (cellsFrom (s3.heap.objs.size + 1) scope.names (cloFrom X.env.cells scope.names [])) fp
  show codeAny _ _ (.compStart (.SetComp elt [⟨tg, iter, ifs, 0⟩] scope pos) 0 (.ref it) (.ref D) (compEnvC scope (cellsFrom (s3.heap.objs.size + 1) scope.names (cloFrom X.env.cells scope.names [])) s3.heap.objs.size X.env)) (compPost (model X.prog X.w) X.A X.xe use Qf (.ref D) s3.heap.objs.size) { s3 with heap := pushCells (s3.heap.push { cls := .type "dict", data := .dict #[] }) scope.names }
  have nfp : ∀ b ∈ fp, (L2.upd H2 D (SetO X.w D (fun _ => false) 0)) b = none := fun b hb => (f3 b hb).1.1
  generalize hce : compEnvC scope (cellsFrom (s3.heap.objs.size + 1) scope.names (cloFrom X.env.cells scope.names [])) s3.heap.objs.size X.env = ce at I4 pg pt pe ⊢
  have cL : ce.locals = s3.heap.objs.size := by subst hce; rfl
  generalize hH3 : L2.upd H2 D (SetO X.w D (fun _ => false) 0) = H3 at I3 I4 pg pt pe w0 nfp f3
  generalize hs4 : ({ s3 with heap := pushCells (s3.heap.push { cls := .type "dict", data := .dict #[] }) scope.names } : Shared) = s4 at I4 ⊢
  have st4 : tn 0 s4.heap := T.keep _ _ _ st3 fun b _ o e => by rw [← hs4]; exact pushCells_keeps _ _ _ _ (Heap.get?_push_of_some _ e)
  have stat : ∀ {σ' : L2.St} {H' : Hp} {s' : Shared}, L2.Inv (X.blk s3 H3 scope ce fp) [] σ' H' s' → (∀ b ∈ fp, H' b = none) → ∀ b ∈ fp, FpOk (X.blk s3 H3 scope ce fp) [] H' b := fun {σ' H' s'} I' hn b hb =>
    ⟨hn b hb, (I'.ok.exf b hb).1, I'.ok.exfs b hb, .inl hb, fun x c e => (I'.ok.exf b hb).2 x c e, fun p hp => absurd (show p ∈ ([] : List (Addr × Obj)) ++ [] from hp) (by simp)⟩
  have loop : codeAny (model X.prog X.w) X.A (.compLoop (.SetComp elt [⟨tg, iter, ifs, 0⟩] scope pos) 0 (.ref it) (.ref D) ce) (compPost (model X.prog X.w) X.A X.xe use Qf (.ref D) s3.heap.objs.size) s4 := by
    refine PpSet.compLoopS_any (fun n s' => ∃ i H', L2.Inv (X.blk s3 H3 scope ce fp) [] (wipe σ (own.map (·.2))) H' s' ∧ tn i s'.heap ∧ (∀ b ∈ fp, H' b = none) ∧ W i n H') ?_ m0 ⟨0, H3, I4, st4, nfp, w0⟩
    rintro n s5 ⟨i, H5, I5, st5, n5, w5⟩
    rcases turn i n H5 w5 with ⟨stop, qq⟩ | ⟨go, Nx, hNx, step⟩
    · have td := T.done (X.blk s3 H3 scope ce fp) rfl rfl rfl hc i [] s5 _ H5 (fun _ _ => False) I5 (stat I5 n5) st5 stop
      refine thnF td fun r s6 ⟨hr, I6⟩ => ?_
      subst hr
      -- back in the def's context
      have I7 : L2.Inv X pins σ H5 s6 := I3.call' (ch := fp) I6.os I6.base I6.hok I6.bare fun b hb => ⟨(f3 b hb).1.2.2.2.1, (f3 b hb).1.2.1, (f3 b hb).1.2.2.2.2.1, (f3 b hb).1.2.2.2.2.2⟩
      have nC : H5 s3.heap.objs.size = none := by
        have z : H5 ce.locals = none := I6.free
        rw [cL] at z
        exact z
      obtain ⟨m, hn, _⟩ := I6.loc
      have hn : s6.heap.Ns ce.locals m := hn
      rw [cL] at hn
      exact hRR D s3.heap.objs.size s6 m H5 I7 qq hn (I3.fpOk (Nat.le_refl _) nC)
    · have ti := T.item (X.blk s3 H3 scope ce fp) rfl rfl rfl hc i [] s5 _ H5 (fun _ _ => False) I5 (stat I5 n5) st5 go
      refine thnF ti fun r s6 ⟨u, hr, h6⟩ => ?_
      subst hr
      refine thnF h6 fun _ s7 ⟨x, H7, I7, r7, y7, st7, n7⟩ => ?_
      have I7' := I7.pinned (stat I7 n7) (T.obj _ _ st7)
      refine thnF (pg.run _ s7 _ H7 x u _ I7' r7 (step x H7 y7)) fun _ s8 ⟨σ8, H8, I8, hw8, q8⟩ => ?_
      refine thnF (pt.run _ s8 σ8 H8 _ I8 q8) fun b s9 ⟨H9, I9, q9⟩ => ?_
      -- the turn's end
      have fin : ∀ {s' : Shared} {H' : Hp}, L2.Inv (X.blk s3 H3 scope ce fp) ([] ++ pinsAt fp s7.heap) σ8 H' s' → Nx H' → ∃ m, m < n ∧ ∃ i H', L2.Inv (X.blk s3 H3 scope ce fp) [] (wipe σ (own.map (·.2))) H' s' ∧ tn i s'.heap ∧ (∀ b ∈ fp, H' b = none) ∧ W i m H' := fun {s' H'} I' nx => by
        obtain ⟨m', hm, w'⟩ := hNx H' nx
        have pin' : ∀ b ∈ fp, ∀ o, s7.heap.get? b = some o → s'.heap.get? b = some o ∧ H' b = none := fun b hb o e =>
          let z := I'.pin (b, o) (List.mem_append_right _ (List.mem_append_right _ (mem_pinsAt hb e)))
          ⟨z.1, z.2.1⟩
        have hl : (wipe σ (own.map (·.2))).length = σ8.length := by rw [← hw8, wipe_length]
        refine ⟨m', hm, i + 1, H', (I'.unpinned (pins := [])).weak hl (fun j v e => ?_), T.keep _ _ _ st7 fun b hb o e => (pin' b hb o e).1, fun b hb => ?_, w'⟩
        · rw [← hw8] at e
          exact (wipe_some e).1
        · obtain ⟨o, e, _⟩ := T.obj _ _ st7 b hb
          exact (pin' b hb o e).2
      cases b with
      | false =>
        simp only [Bool.false_eq_true, if_false] at q9 ⊢
        exact fin I9 q9
      | true =>
        simp only [if_true] at q9 ⊢
        refine thnF (pe.run _ s9 σ8 H9 _ I9 q9) fun z s10 ⟨yv, H10, I10, r10, cI, S0, n0, ey, hD10, hz10, nx⟩ => ?_
        subst ey
        obtain ⟨tI, rfl⟩ : ∃ t, z = Value.int cI t := r10
        exact addI_ok (X := X.blk s3 H3 scope ce fp) I10 hD10 hz10 fun s11 I11 => fin I11 nx
  exact PpSet.codeAny_compStart_set loop (T.self X.A 0 _ _ _ st4 loop)
/-- as a value -/
theorem pe_scI {elt tg iter : Expr} {ifs : List Expr} {scope : Scope} {own : List (Str × Nat)} {pos : Pos} {wi : TI} {g : TG} {tt : TT} {te : TE} (hc : X.calm = true) (hN : X.N.Nodup) (hi : PI X tg iter wi) (ok : BlkOk X.N X.env.scope scope own)
    (hg : ∀ (s : Shared) (H : Hp) (C : Addr) (cl : List (Str × Addr)) (fp : List Addr), PG (X.blk s H scope (compEnvC scope cl C X.env) fp) tg g) (ht : ∀ (s : Shared) (H : Hp) (C : Addr) (cl : List (Str × Addr)) (fp : List Addr), PTs (X.blk s H scope (compEnvC scope cl C X.env) fp) ifs tt)
    (he : ∀ (s : Shared) (H : Hp) (C : Addr) (cl : List (Str × Addr)) (fp : List Addr), PE (X.blk s H scope (compEnvC scope cl C X.env) fp) elt te) (hs : ∀ x, foldedSetIterable iter X.env x = pure x := by intro _; rfl) :
    PE X (.SetComp elt [⟨tg, iter, ifs, 0⟩] scope pos) (tScI X.w wi g tt te (own.map (·.2))) := by
  refine ⟨fun pins s σ H Q I h => ?_⟩
  rw [PpSet.eval_SetComp]
  refine scI_core hc hN I hi ok hg ht he hs h fun D C s' m H' I' q hn f => ⟨m, hn, fun h'' sb => ?_⟩
  obtain ⟨f0, f1, f2, f3, f4, f5⟩ := f
  exact ⟨.ref D, H', I'.turned (t' := s'.toks) (fun b o hb e => (sb.2 b hb).trans e) f0 f1 f3 f4 f5, rfl, q⟩
end
end Y

/-! ### dicts with tuple keys: if d:, list(d.values()); {n for ..}; dicts whose values change -/
namespace Y
open PySem PySem.Spec PyProof.Rows L2
theorem truthy_dT {P : Program} {w : World} {A : Around} {E : Value → Shared → Prop} {s : Shared} {κ : Type} [DecidableEq κ] {knd : HeapKind P w κ} {d : Addr} {xs : List (κ × Addr × Value)} {Q : Bool → Shared → Prop} (hd : (d == sysModules) = false) (hm : s.heap.DictOfH knd d xs) (few : (xs.length : Int) < 2 ^ 63)
    (q : Q (!xs.isEmpty) { s with toks := s.toks + 1 + 1 }) : wpAny (model P w) A (truthy (.ref d)) Q E s := by
  have same : ((xs.length : Int) != 0) = !xs.isEmpty := by cases xs <;> simp <;> omega
  have long : wpAny (model P w) A (runValue (.builtin "len" ⟨[.ref d], []⟩)) (fun r s' => r = .int xs.length (s.toks + 1) ∧ Q (!xs.isEmpty) s') E s := by
    refine wpAny_runValue (codeAny_builtin entry_len ?_)
    rw [Around.under_plainId plain_len _]
    exact wpAny_mono (wpAny_len_body_dictH (Q := fun r s' => r = .int xs.length (s.toks + 1) ∧ Q (!xs.isEmpty) s') hd hm few ⟨rfl, q⟩)
      (fun fin s' z => by obtain ⟨r, rfl, y⟩ := z; exact y) fun _ _ e => e
  unfold truthy
  first
    | refine wpAny_bind (wpAny_callSpecial?_none (name := Str.ofString "__bool__") hm.typeIs noBool_dict ?_)
    | refine wpAny_bind (wpAny_pure (wpAny_bind (wpAny_callSpecial?_none (name := Str.ofString "__bool__") hm.typeIs noBool_dict ?_)))
  first
    | refine wpAny_bind (wpAny_specialOf (name := Str.ofString "__len__") hm.typeIs F.slot_dict_len.lookup ?_)
    | refine wpAny_bind (wpAny_pure (wpAny_bind (wpAny_specialOf (name := Str.ofString "__len__") hm.typeIs F.slot_dict_len.lookup ?_)))
  first
    | exact wpAny_bind (wpAny_mono long (fun r s' z => by obtain ⟨rfl, y⟩ := z; exact wpAny_pure (same ▸ y)) fun _ _ e => e)
    | exact wpAny_bind (wpAny_pure (wpAny_bind (wpAny_mono long (fun r s' z => by obtain ⟨rfl, y⟩ := z; exact wpAny_pure (same ▸ y)) fun _ _ e => e)))
def TruDT (QT : Bool → Hp → Prop) (x : V) (H : Hp) : Prop := ∃ d kvs, x = .ref d ∧ H d = some (.dT kvs) ∧ QT (!kvs.isEmpty) H
def tTruDT (ta : TE) : TT := fun σ H Q => ta σ H fun x H' => TruDT Q x H'
theorem g_truDT {ta : TE} {σ : L2.St} {H : Hp} {Q : Bool → Hp → Prop} (q : ta σ H fun x H' => TruDT Q x H') : tTruDT ta σ H Q := q
theorem pt_truthT {X : Cx} {a : Expr} {ta : TE} (ha : PE X a ta) (he : ∀ whole, isTrue a X.env whole = (do let v ← whole; standAt a.pos; holding [v] (truthy v))) : PT X a (tTruDT ta) := by
  refine ⟨fun pins s σ H Q I h => ?_⟩
  refine isTrue_plain (thn (ha.run pins s σ H _ I h) fun v s1 ⟨x, H1, I1, r1, q1⟩ => ?_) (he _)
  obtain ⟨d, kvs, rfl, hd, q⟩ := q1
  cases r1
  obtain ⟨z, lo, xs, rel, dd⟩ := dt_of I1.hok hd
  have hl : kvs.length = xs.length := Paired.length rel
  have few := line63
  refine truthy_dT lo dd (by omega) ⟨H1, I1.tok _, ?_⟩
  have : (!xs.isEmpty) = !kvs.isEmpty := by
    cases kvs with
    | nil => cases xs with
      | nil => rfl
      | cons _ _ => cases hl
    | cons _ _ => cases xs with
      | nil => cases hl
      | cons _ _ => rfl
  rw [this]
  exact q
theorem g_truDt {K : PySem.W.Frag} {G H : Hp} {d : Addr} {md : Dt} {QT : Bool → Hp → Prop} (r : DtAt K d G H md) (q : QT (!md.isEmpty) H) : TruDT QT (.ref d) H := by
  obtain ⟨kvs, h, _, k⟩ := r
  refine ⟨d, kvs, rfl, h, ?_⟩
  have : (!kvs.isEmpty) = !md.isEmpty := by
    have := k.len
    cases kvs with
    | nil => cases md with
      | nil => rfl
      | cons _ _ => cases this
    | cons _ _ => cases md with
      | nil => cases this
      | cons _ _ => rfl
  rw [this]
  exact q
/-! ### list(d.values()) -/
theorem kdl_valraw {P : Program} {w : World} {r d : Addr} {es : Array DictEntry} {ep : Nat} : PySem.W.KdlSrc P w "dict_values" r d es.size (fun i v => ∃ hi : i < es.size, v = es[i].val) (fun h => h.IsValuesView r d ∧ h.DictRaw d es ep) where
  type := fun _ hm => hm.1.typeIs
  there := fun _ hm => ⟨let ⟨_, ho, _⟩ := hm.1; Heap.lt_size ho, let ⟨_, ho, _⟩ := hm.2; Heap.lt_size ho⟩
  keep := fun _ _ hm hk => ⟨let ⟨o, ho, x⟩ := hm.1; ⟨o, hk r (.inl rfl) o ho, x⟩, hm.2.at fun o e => hk d (.inr rfl) o e⟩
  notList := by decide
  notTuple := by decide
  hint := fun _ _ _ _ hm hq => PySem.W.kdl_hint_values hm.1.typeIs hq
  iter := fun _ s hh hm => ⟨_, _, (fun _ _ hq => wpAny_pyIter_values_raw hm.1 hm.2 hq), Walks.rawValues hh _ d (Nat.ne_of_lt (let ⟨_, ho, _⟩ := hm.2; Heap.lt_size ho)) es ep, ⟨⟨_, Heap.get?_push_size _ rfl, rfl, rfl⟩, hm.2.at fun o e => Heap.get?_push_of_some _ e⟩⟩
def rListValsT : V → Hp → VK → Prop := fun x H Q => ∃ (d : Addr) (kvs : List (List L2.Key × V)), x = .ref d ∧ H d = some (.dT kvs) ∧ ∀ p, H p = none → Q (.ref p) (L2.upd H p (.lst (kvs.map (·.2))))
def tListValsT (te : TE) : TE := fun σ H Q => te σ H fun x H1 => rListValsT x H1 Q
theorem g_lvT {te : TE} {σ : L2.St} {H : Hp} {Q : VK} (q : te σ H fun x H1 => rListValsT x H1 Q) : tListValsT te σ H Q := q
section
variable {X : Cx} {e : Expr} {te : TE} {p apos cpos pos : Pos}
theorem pe_listValsT (hc : X.calm = true) (he : PE X e te) (hg : Gl X "list") (hm : X.mg "list" = none) (hv : bootBuiltins "list" = some (.type "list") := by decide +kernel) (hbase : attributeBase e "values" X.env (eval e X.env) = eval e X.env := by rfl) (hline : (apos.endLine == cpos.line) = true := by rfl)
    (hs : starEach [.Call (.Attribute e "values" apos) [] [] cpos] X.env = (false, eval (.Call (.Attribute e "values" apos) [] [] cpos) X.env) :: starEach [] X.env := by rfl) :
    PE X (.Call (.Name "list" p) [.Call (.Attribute e "values" apos) [] [] cpos] [] pos) (tListValsT te) := by
  refine ⟨fun pins s σ H Q I hq => ?_⟩
  refine wpAny_Call_Name_kw (ld_blt I hg hm hv ?_)
  refine PyProof.Rows.callWith_type1 ?_ hs rfl
  rw [hs]
  show wpAny _ _ (spliced ((false, eval (.Call (.Attribute e "values" apos) [] [] cpos) X.env) :: backTo pos (starEach [] X.env))) _ _ s
  refine Calls.spliced_cons ?_
  refine wpAny_Call_method (T := "dict") (id := "dict.values") hbase rfl hline F.plainAttrs_dict F.slot_dict_values F.type_dict_values (thn (he.run pins s σ H _ I hq) fun u s1 ⟨x, H1, I1, rx, d, kvs, ex, hd, q⟩ => ?_)
  subst ex
  obtain rfl : u = Value.ref d := rx
  obtain ⟨hz, lo, xs, kt, dd⟩ := dt_of I1.hok hd
  obtain ⟨es, ep, raw, sz, each⟩ := dd.raw
  have lk : kvs.length = xs.length := Paired.length kt
  have I2 : L2.Inv X pins σ H1 { s1 with heap := s1.heap.push { cls := .type "dict_values", data := .fields #[.ref d] } } := I1.kept (t' := s1.toks) fun b ob q => Heap.get?_push_of_some _ q
  refine ⟨dd.typeIs, (fun a z => by cases z; obtain ⟨o, es, ep, a, b, _⟩ := dd; exact ⟨o, a, b.2.1⟩), ?_⟩
  show wpAny _ _ (callWith cpos (.builtin "dict.values") [.ref d] [] []) _ X.xe s1
  refine method_meetsIn F.slot_dict_values F.entry_dict_values rfl (PySem.evalArgs_none ⟨rfl, dd.typeIs, F.args_dict_values_1 _, _, meets_dict_values_raw d lo, ⟨es, ep, raw⟩, ?_⟩)
  refine Calls.spliced_nil ?_
  refine PySem.W.kdl_call (kdl_valraw (es := es) (ep := ep)) (I1.ok.hd hc) ⟨⟨_, Heap.get?_push_size _ rfl, rfl, rfl⟩, raw.at fun o e => Heap.get?_push_of_some _ e⟩ (by omega) fun h' tk acc c hk hS hacc => ?_
  refine ⟨.ref _, L2.upd H1 _ (.lst (kvs.map (·.2))), I2.laid hk (Nat.le_refl _) (show ObjOk X.prog X.w _ _ _ (.lst (kvs.map (·.2))) from ⟨?_, acc.toList, c, ?_, ?_⟩), rfl, q _ (I2.hok.fresh (Nat.le_refl _))⟩
  · rw [List.length_map]; exact hz
  · have el : acc.toList.length = acc.size := by simp
    refine vals_of_at (by rw [List.length_map, el, hacc.1]; omega) fun j x w h1 h2 => ?_
    obtain ⟨hi, rfl⟩ := hacc.2 j w (by rw [← Array.getElem?_toList]; exact h2)
    obtain ⟨y, hy, _, hv2, _⟩ := each j hi
    rw [hv2]
    rw [List.getElem?_map] at h1
    obtain ⟨⟨k, v⟩, hkv, rfl⟩ := Option.map_eq_some_iff.mp h1
    obtain ⟨y2, hy2, g⟩ := L2.paired_get kt hkv
    rw [hy] at hy2
    cases hy2
    exact g.2.2
  · rw [Array.toArray_toList]; exact hS
end
end Y

/-! ### by hand: {n for ..}, sorted of a set, d.setdefault, sorted(d, key), list(d.values()), d.get of dicts with tuple keys -/
namespace Y
open PySem PySem.Spec PyProof.Rows L2
def ScIW (w : World) (J : It) (g : TG) (tt : TT) (te : TE) (vs : List Nat) (σ : L2.St) (D : Addr) (Q : VK) (H1 : Hp) : Prop := ∃ W : Nat → Nat → Hp → Prop, (∃ m, W 0 m (L2.upd H1 D (SetO w D (fun _ => false) 0))) ∧ ∀ i m H, W i m H →
  (J.stop i H ∧ Q (.ref D) H) ∨ (J.go i H ∧ ∃ Nx : Hp → Prop, (∀ H', Nx H' → ∃ m', m' < m ∧ W (i + 1) m' H') ∧ ∀ x H', J.yld i H x H' → g x (wipe σ vs) H' fun σ2 H2 => wipe σ2 vs = wipe σ vs ∧ tt σ2 H2 fun b H3 =>
    if b = true then te σ2 H3 fun y H4 => ∃ (c : Int) (S : Int → Bool) (n : Nat), y = .int c ∧ H4 D = some (SetO w D S n) ∧ n + 1 < scanBound ∧ Nx (L2.upd H4 D (SetO w D (fun j => S j || decide (j = c)) (if S c = true then n else n + 1))) else Nx H3)
theorem g_scI {w : World} {wi : TI} {g : TG} {tt : TT} {te : TE} {vs : List Nat} {σ : L2.St} {H : Hp} {Q : VK} (q : wi σ H fun J H1 => ∀ D, H1 D = none → ScIW w J g tt te vs σ D Q H1) : tScI w wi g tt te vs σ H Q := q
theorem g_scIP {w : World} {K : PySem.W.Frag} {σ : L2.St} {G H : Hp} {Q : VK} {g : TG} {te : TE} {tt : TT} {J : It} {M : List Addr} {n : Nat} {P : Nat → Hp → V → Prop} {A : Addr} {js : List Nat} {es : Nat → List Int} (S : SrcP M J G H n P) (e : Ex G H) (hA : H A = none) (hM : ∀ b ∈ M, H b ≠ none) (hz : n < 1000) (e0 : es 0 = [])
    (hs : ∀ i v G' H', i < n → P i G' v → Nx M G H G' H' → ∀ (QE : VK) (QN : Hp → Prop),
      (∀ c G4 H4, Nx M G' H' G4 H4 → es (i + 1) = es i ++ [c] → QE (.int c) H4) → (∀ G3 H3, Nx M G' H' G3 H3 → es (i + 1) = es i → QN H3) →
      g v (wipe σ js) H' fun σ2 H2 => wipe σ2 js = wipe σ js ∧ tt σ2 H2 fun b H3 => if b = true then te σ2 H3 QE else QN H3)
    (hd : ∀ G' H' c, Nx M G H G' H' → G' A = none → H' A = some (SetO w A (fun j => decide (j ∈ es n)) c) → c ≤ n → Q (.ref A) H') : ScIW w J g tt te js σ A Q H := by
  have st0 : Nx [] G H G (L2.upd H A (SetO w A (fun _ => false) 0)) := Nx.own e hA
  have hAM : A ∉ M := fun z => hM A z hA
  refine ⟨fun i m H' => m = n - i ∧ i ≤ n ∧ ∃ G' c, Nx M G H G' H' ∧ G' A = none ∧ H' A = some (SetO w A (fun j => decide (j ∈ es i)) c) ∧ c ≤ i,
    ⟨n, by simp, Nat.zero_le _, G, 0, st0.pure, e.free hA, by rw [e0, upd_same]; simp, Nat.le_refl _⟩, ?_⟩
  rintro i m H' ⟨rfl, hi, G', c, nn, gA, hys, hc⟩
  by_cases hlt : i < n
  · refine .inr ⟨S.go i G' H' nn hlt, fun H'' => ∃ G'' c, Nx M G H G'' H'' ∧ G'' A = none ∧ H'' A = some (SetO w A (fun j => decide (j ∈ es (i + 1))) c) ∧ c ≤ i + 1,
      fun H'' ⟨G'', c', r⟩ => ⟨n - (i + 1), by omega, rfl, hlt, G'', c', r⟩, fun v H1 y => ?_⟩
    obtain ⟨G1, n1, d1⟩ := S.yld i G' H' v H1 nn hlt y
    have n2 : Nx M G H G1 H1 := nn.trans n1.pure
    have gA1 : G1 A = none := n1.old A gA ⟨_, hys, fun _ z => nomatch z⟩
    have hys1 := n1.fr A _ (by simp) hys
    refine hs i v G1 H1 hlt d1 n2 (fun y H4 => ∃ (c : Int) (S : Int → Bool) (n : Nat), y = .int c ∧ H4 A = some (SetO w A S n) ∧ n + 1 < scanBound ∧ _) _ (fun c2 G4 H4 n4 ee => ?_) (fun G3 H3 n3 ee => ?_)
    · have gA4 : G4 A = none := n4.old A gA1 ⟨_, hys1, fun _ z => nomatch z⟩
      have hys4 := n4.fr A _ hAM hys1
      have n5 : Nx M G H G4 H4 := n2.trans n4
      have n6 : Nx [A] G4 H4 G4 (L2.upd H4 A (SetO w A (fun j => decide (j ∈ es i) || decide (j = c2)) (if decide (c2 ∈ es i) = true then c else c + 1))) := Nx.set n4.gh gA4 (by simp)
      have n7 := (n5.mono (M' := A :: M) fun _ z => List.mem_cons_of_mem _ z).trans (n6.mono (M' := A :: M) fun b z => by simp at z; simp [z])
      refine ⟨c2, _, c, rfl, hys4, by unfold scanBound; omega, G4, _, n7.drop hA, gA4, ?_, (by split <;> omega : (if decide (c2 ∈ es i) = true then c else c + 1) ≤ i + 1)⟩
      rw [upd_same, ee]
      congr 2
      funext j
      rw [← Bool.decide_or]
      exact decide_eq_decide.mpr (by rw [List.mem_append, List.mem_singleton])
    · have gA3 : G3 A = none := n3.old A gA1 ⟨_, hys1, fun _ z => nomatch z⟩
      exact ⟨G3, c, n2.trans n3, gA3, by rw [ee]; exact n3.fr A _ hAM hys1, by omega⟩
  · have e' : i = n := by omega
    subst e'
    exact .inl ⟨S.stop _ G' H' nn (Nat.le_refl _), hd G' H' c nn gA hys hc⟩
/-- sorted of a set of ints: the one ascending row of its members -/
theorem g_srtSet2 {K : PySem.W.Frag} {w : World} {G H : Hp} {Q : VK} {a : Addr} {c : Nat} {L S : List Int} (e : Ex G H) (h : H a = some (SetO w a (fun j => decide (j ∈ L)) c)) (hc : c < 64) (hs : S.Pairwise (· < ·)) (hm : ∀ k, k ∈ S ↔ k ∈ L) (q : ∀ p H', Nx [] G H G H' → H p = none → LstAt K p G H' (S.map .int) → Q (.ref p) H') : rSortedSet w [.ref a] H Q := by
  refine ⟨a, _, c, rfl, h, hc, fun ns p h1 h2 _ hp => ?_⟩
  have en : ns = S := lt_unique h1 hs fun k => (h2 k).trans (by rw [decide_eq_true_eq, hm])
  subst en
  exact q p _ (Nx.own e hp) hp ⟨_, upd_same, e.free hp, dpAll_ints ns⟩
section
variable {K : PySem.W.Frag} {G H : Hp} {Q : VK} {d : Addr} {md : Dt} {c : Cell} {y : V}
/-- list(d.values()) -/
theorem g_lvDt (e : Ex G H) (r : DtAt K d G H md) (q : ∀ p H', Nx [] G H G H' → H p = none → LstAt K p G H' (md.map (·.2)) → Q (.ref p) H') : rListValsT (.ref d) H Q := by
  obtain ⟨kvs, h, _, k⟩ := r
  refine ⟨d, kvs, rfl, h, fun p hp => q p _ (Nx.own e hp) hp ⟨_, upd_same, e.free hp, ?_⟩⟩
  have := k.2
  unfold dtK at this
  rw [List.map_map] at this
  exact this
/-- d.get(k, x) -/
theorem g_dgT {ty tx : TE} {σ : L2.St} (r : DtAt K d G H md) (q : ty σ H fun y H2 => tx σ H2 fun z H3 => ∃ o, DGet H3 d y o ∧ Q (o.getD z) H3) : DG2W ty tx σ Q (.ref d) H := by
  obtain ⟨kvs, h, _⟩ := r
  exact ⟨d, rfl, .inr ⟨kvs, .inl h⟩, q⟩
theorem g_dgTR {z : V} (e : Ex G H) (r : DtAt K d G H md) (h : Cl G y c) (q1 : ∀ x v, gtM md c = some x → Dp K G v x → Q v H) (q2 : gtM md c = none → Q z H) : ∃ o, DGet H d y o ∧ Q (o.getD z) H := by
  obtain ⟨kvs, hd, g, k⟩ := r
  obtain ⟨b, rfl, hb⟩ := h
  refine ⟨valV kvs (ckey c), .inr ⟨kvs, ckey c, b, .inl hd, rfl, e _ _ hb, rfl⟩, ?_⟩
  cases hg : gtM md c with
  | none =>
    have := k.some (c := c)
    rw [hg] at this
    cases hv : valV kvs (ckey c) with
    | none => exact q2 hg
    | some v => rw [hv] at this; cases this
  | some x =>
    obtain ⟨v, hv, dv⟩ := k.get hg
    rw [hv]
    exact q1 x v hg dv
end
/-! ### a new dict that is walked at once: it is locked, and stays so -/
def tFrz (t : TE) : TE := fun σ H Q => t σ H fun x H1 => ∃ d u, x = .ref d ∧ H1 d = some u ∧ L2.Mut (some u) ∧ ∀ od, Q x (L2.upd H1 d (.frz od u))
theorem pe_frz {X : Cx} {e : Expr} {t : TE} (h : PE X e t) : PE X e (tFrz t) := by
  refine ⟨fun pins s σ H Q I hw => ?_⟩
  refine thn (h.run pins s σ H _ I hw) fun v s1 ⟨x, H1, I1, r, d, u, ex, hd, mu, q⟩ => ?_
  obtain ⟨od, I2⟩ := I1.lock hd mu
  exact ⟨x, _, I2, r, q od⟩
def FrzW (Q : VK) (x : V) (H1 : Hp) : Prop := ∃ d u, x = .ref d ∧ H1 d = some u ∧ L2.Mut (some u) ∧ ∀ od, Q x (L2.upd H1 d (.frz od u))
theorem g_frz {t : TE} {σ : L2.St} {H : Hp} {Q : VK} (q : t σ H fun x H1 => FrzW Q x H1) : tFrz t σ H Q := q
theorem g_frzDt {d : Addr} {H : Hp} {kvs : List (List L2.Key × V)} {Q : VK} (h : H d = some (.dT kvs)) (q : ∀ od, Q (.ref d) (L2.upd H d (.frz od (.dT kvs)))) : FrzW Q (.ref d) H := ⟨d, _, rfl, h, trivial, q⟩
theorem g_iItemsT {td : TE} {σ : L2.St} {H : Hp} {R : It → Hp → Prop} (q : td σ H fun x H1 => ∃ d o kvs, x = .ref d ∧ H1 d = some (.frz o (.dT kvs)) ∧ R (Itit d o kvs) H1) : iItemsT td σ H R := q
/-- {n for ..}, the world by its name -/
theorem pe_scIW {X : Cx} {w : World} (hw : X.w = w) {elt tg iter : Expr} {ifs : List Expr} {scope : Scope} {own : List (Str × Nat)} {pos : Pos} {wi : TI} {g : TG} {tt : TT} {te : TE} (hc : X.calm = true) (hN : X.N.Nodup) (hi : PI X tg iter wi) (ok : BlkOk X.N X.env.scope scope own)
    (hg : ∀ (s : Shared) (H : Hp) (C : Addr) (cl : List (Str × Addr)) (fp : List Addr), PG (X.blk s H scope (compEnvC scope cl C X.env) fp) tg g) (ht : ∀ (s : Shared) (H : Hp) (C : Addr) (cl : List (Str × Addr)) (fp : List Addr), PTs (X.blk s H scope (compEnvC scope cl C X.env) fp) ifs tt)
    (he : ∀ (s : Shared) (H : Hp) (C : Addr) (cl : List (Str × Addr)) (fp : List Addr), PE (X.blk s H scope (compEnvC scope cl C X.env) fp) elt te) (hs : ∀ x, foldedSetIterable iter X.env x = pure x := by intro _; rfl) :
    PE X (.SetComp elt [⟨tg, iter, ifs, 0⟩] scope pos) (tScI w wi g tt te (own.map (·.2))) := hw ▸ pe_scI hc hN hi ok hg ht he hs
/-! ### dicts whose values are things that change -/
section
variable {α : Type} {K : PySem.W.Frag} {R : Addr → Hp → Hp → α → Prop} {d : Addr} {G H G' H' : Hp} {ts : List (Cell × Addr × α)} {M : List Addr} {c : Cell} {p : Addr} {x : α} {Q : VK} {y : V}
/-- what is told of a thing goes on where the thing is left alone -/
def Stab (R : Addr → Hp → Hp → α → Prop) : Prop := ∀ p x M G H G' H', R p G H x → Nx M G H G' H' → p ∉ M → R p G' H' x
def mdK (ts : List (Cell × Addr × α)) : List (List L2.Key × V) := ts.map fun t => (ckey t.1, V.ref t.2.1)
structure MdAt (R : Addr → Hp → Hp → α → Prop) (d : Addr) (G H : Hp) (ts : List (Cell × Addr × α)) : Prop where
  at_ : H d = some (.dT (mdK ts))
  un : G d = none
  vs : (ts.map (·.2.1)).Nodup
  ks : (ts.map (·.1)).Nodup
  dv : d ∉ ts.map (·.2.1)
  el : ∀ t ∈ ts, R t.2.1 G H t.2.2
theorem MdAt.new (h : H d = some (.dT [])) (g : G d = none) : MdAt R d G H [] := ⟨h, g, List.nodup_nil, List.nodup_nil, by simp, by simp⟩
theorem MdAt.go (hR : Stab R) (r : MdAt R d G H ts) (n : Nx M G H G' H') (hd : d ∉ M) (hv : ∀ t ∈ ts, t.2.1 ∉ M) : MdAt R d G' H' ts :=
  ⟨n.fr d _ hd r.at_, n.old d r.un ⟨_, r.at_, fun _ z => nomatch z⟩, r.vs, r.ks, r.dv, fun t ht => hR _ _ _ _ _ _ _ (r.el t ht) n (hv t ht)⟩
theorem MdAt.live (r : MdAt R d G H ts) : H d ≠ none := by rw [r.at_]; exact fun z => nomatch z
theorem mdK_val : ∀ {ts : List (Cell × Addr × α)}, (ts.map (·.1)).Nodup → (c, p, x) ∈ ts → valV (mdK ts) (ckey c) = some (.ref p)
  | t :: ts, hn, h => by
    rw [List.map_cons, List.nodup_cons] at hn
    unfold mdK valV
    rw [List.map_cons, List.find?_cons]
    rcases List.mem_cons.mp h with rfl | h
    · simp
    · have hne : ckey t.1 ≠ ckey c := fun z => hn.1 (by rw [ckey_inj z]; exact List.mem_map.mpr ⟨_, h, rfl⟩)
      simp only [hne, decide_false]
      exact mdK_val hn.2 h
theorem mdK_no : ∀ {ts : List (Cell × Addr × α)}, c ∉ ts.map (·.1) → valV (mdK ts) (ckey c) = none := by
  intro ts h
  unfold mdK valV
  rw [Option.map_eq_none_iff, List.find?_eq_none]
  intro e he
  obtain ⟨t, ht, rfl⟩ := List.mem_map.mp he
  rw [decide_eq_true_eq]
  exact fun z => h (by rw [← ckey_inj z]; exact List.mem_map.mpr ⟨_, ht, rfl⟩)
theorem mdK_put : ∀ {ts : List (Cell × Addr × α)}, c ∉ ts.map (·.1) → putK (mdK ts) (ckey c) (.ref p) = mdK (ts ++ [(c, p, x)]) := by
  intro ts h
  have hany : ((mdK ts).any fun kv => decide (kv.1 = ckey c)) = false := by
    rw [List.any_eq_false]
    intro e he
    obtain ⟨t, ht, rfl⟩ := List.mem_map.mp he
    rw [decide_eq_true_eq]
    exact fun z => h (by rw [← ckey_inj z]; exact List.mem_map.mpr ⟨_, ht, rfl⟩)
  unfold putK
  rw [if_neg (by rw [hany]; simp)]
  unfold mdK
  rw [List.map_append]
  rfl
/-- d[k], the key there -/
theorem g_mdGet (e : Ex G H) (r : MdAt R d G H ts) (h : Cl G y c) (ht : (c, p, x) ∈ ts) (q : Q (.ref p) H) : DGeW Q (.ref d) y H := by
  obtain ⟨b, rfl, hb⟩ := h
  exact ⟨d, _, rfl, .inr ⟨mdK ts, ckey c, b, .inl r.at_, rfl, e _ _ hb, (mdK_val r.ks ht).symm⟩, q⟩
theorem g_tyMd {P : Prop} (r : MdAt R d G H ts) (q : P) : tyV K "dict" (.ref d) H ∧ P := ⟨.inr (.inr (.inl ⟨rfl, .inr ⟨_, r.at_⟩⟩)), q⟩
/-- d.setdefault(k, z), z a new thing -/
theorem g_mdSetd {z0 : Addr} {x0 : α} (hR : Stab R) (e : Ex G H) (r : MdAt R d G H ts) (h : Cl G y c) (hz : R z0 G H x0) (hzv : z0 ∉ ts.map (·.2.1)) (hzd : z0 ≠ d) (hl : ts.length < 100000)
    (q1 : ∀ p x, (c, p, x) ∈ ts → Q (.ref p) H) (q2 : c ∉ ts.map (·.1) → ∀ H', Nx [d] G H G H' → MdAt R d G H' (ts ++ [(c, z0, x0)]) → Q (.ref z0) H') : rSetdT (.ref d) [y, .ref z0] H Q := by
  obtain ⟨b, rfl, hb⟩ := h
  refine ⟨d, mdK ts, ckey c, b, .ref z0, rfl, rfl, r.at_, e _ _ hb, by unfold mdK; rw [List.length_map]; exact szl (by omega), fun v hv => ?_, fun hv => ?_⟩
  · by_cases hc : c ∈ ts.map (·.1)
    · obtain ⟨⟨c', p, x⟩, ht, rfl⟩ := List.mem_map.mp hc
      rw [mdK_val r.ks ht] at hv
      cases hv
      exact q1 p x ht
    · rw [mdK_no hc] at hv
      cases hv
  · have hc : c ∉ ts.map (·.1) := fun hc => by
      obtain ⟨⟨c', p, x⟩, ht, rfl⟩ := List.mem_map.mp hc
      rw [mdK_val r.ks ht] at hv
      cases hv
    have n : Nx [d] G H G (L2.upd H d (.dT (putK (mdK ts) (ckey c) (.ref z0)))) := Nx.set e r.un (by simp)
    refine q2 hc _ n ⟨by rw [upd_same, mdK_put (x := x0) hc], r.un, ?_, ?_, ?_, fun t ht => ?_⟩
    · rw [List.map_append]
      exact List.nodup_append.mpr ⟨r.vs, by simp, fun a ha b hb z => hzv (by simp at hb; rw [← hb, ← z]; exact ha)⟩
    · rw [List.map_append]
      exact List.nodup_append.mpr ⟨r.ks, by simp, fun a ha b hb z => hc (by simp at hb; rw [← hb, ← z]; exact ha)⟩
    · rw [List.map_append, List.mem_append]
      rintro (z | z)
      · exact r.dv z
      · simp at z
        exact hzd z.symm
    · rcases List.mem_append.mp ht with ht | ht
      · exact hR _ _ _ _ _ _ _ (r.el t ht) n (fun z => r.dv (by rw [← List.mem_singleton.mp z]; exact List.mem_map.mpr ⟨t, ht, rfl⟩))
      · rw [List.mem_singleton.mp ht]
        exact hR _ _ _ _ _ _ _ hz n (fun z => hzd (List.mem_singleton.mp z))
/-- one of the values has changed -/
theorem MdAt.upd {x' : α} (hR : Stab R) (r : MdAt R d G H ts) (ht : (c, p, x) ∈ ts) (n : Nx [p] G H G' H') (hp : R p G' H' x') : MdAt R d G' H' (ts.map fun t => if t.1 = c then (c, p, x') else t) := by
  have same : ∀ t ∈ ts, t.1 = c → t = (c, p, x) := fun t h1 h2 => by
    have hn := r.ks
    clear r
    induction ts with
    | nil => cases h1
    | cons a ts ih =>
      rw [List.map_cons, List.nodup_cons] at hn
      rcases List.mem_cons.mp h1 with e1 | h1
      · rcases List.mem_cons.mp ht with e2 | ht
        · rw [e1, e2]
        · have hm : (c, p, x).1 ∈ ts.map (·.1) := List.mem_map.mpr ⟨_, ht, rfl⟩
          exact absurd (show a.1 ∈ ts.map (·.1) by rw [← e1, h2]; exact hm) hn.1
      · rcases List.mem_cons.mp ht with e2 | ht
        · have hm : t.1 ∈ ts.map (·.1) := List.mem_map.mpr ⟨_, h1, rfl⟩
          exact absurd (show a.1 ∈ ts.map (·.1) by rw [← e2, show (c, p, x).1 = t.1 from h2.symm]; exact hm) hn.1
        · exact ih ht h1 hn.2
  have e1 : (ts.map fun t => if t.1 = c then (c, p, x') else t).map (·.1) = ts.map (·.1) := by
    rw [List.map_map]
    refine List.map_congr_left fun t _ => ?_
    show (if t.1 = c then (c, p, x') else t).1 = t.1
    split
    · exact (by assumption : t.1 = c).symm
    · rfl
  have e2 : (ts.map fun t => if t.1 = c then (c, p, x') else t).map (·.2.1) = ts.map (·.2.1) := by
    rw [List.map_map]
    refine List.map_congr_left fun t h1 => ?_
    show (if t.1 = c then (c, p, x') else t).2.1 = t.2.1
    split
    · rw [same t h1 (by assumption)]
    · rfl
  have e3 : mdK (ts.map fun t => if t.1 = c then (c, p, x') else t) = mdK ts := by
    unfold mdK
    rw [List.map_map]
    refine List.map_congr_left fun t h1 => ?_
    show (ckey (if t.1 = c then (c, p, x') else t).1, V.ref (if t.1 = c then (c, p, x') else t).2.1) = _
    split
    · rw [same t h1 (by assumption)]
    · rfl
  have hpd : d ∉ [p] := fun z => r.dv (by rw [List.mem_singleton.mp z]; exact List.mem_map.mpr ⟨_, ht, rfl⟩)
  refine ⟨by rw [e3]; exact n.fr d _ hpd r.at_, n.old d r.un ⟨_, r.at_, fun _ z => nomatch z⟩, by rw [e2]; exact r.vs, by rw [e1]; exact r.ks, by rw [e2]; exact r.dv, fun t ht' => ?_⟩
  obtain ⟨t0, h0, rfl⟩ := List.mem_map.mp ht'
  split
  · exact hp
  · rename_i hne
    refine hR _ _ _ _ _ _ _ (r.el t0 h0) n fun z => hne ?_
    have z := List.mem_singleton.mp z
    have hn := r.vs
    clear e1 e2 e3 r same ht' hpd
    induction ts with
    | nil => cases h0
    | cons a ts ih =>
      rw [List.map_cons, List.nodup_cons] at hn
      rcases List.mem_cons.mp h0 with k1 | k1
      · rcases List.mem_cons.mp ht with k2 | k2
        · rw [k1, ← k2]
        · have hm : (c, p, x).2.1 ∈ ts.map (·.2.1) := List.mem_map.mpr ⟨_, k2, rfl⟩
          exact absurd (show a.2.1 ∈ ts.map (·.2.1) by rw [← k1, z]; exact hm) hn.1
      · rcases List.mem_cons.mp ht with k2 | k2
        · have hm : t0.2.1 ∈ ts.map (·.2.1) := List.mem_map.mpr ⟨_, k1, rfl⟩
          exact absurd (show a.2.1 ∈ ts.map (·.2.1) by rw [← k2, show (c, p, x).2.1 = t0.2.1 from z.symm]; exact hm) hn.1
        · exact ih k2 k1 hn.2
end
/-! ### sorted(d, key=..) -/
section
variable {K : PySem.W.Frag} {P d : Addr} {q : Str} {G H : Hp} {Q : VK} {kvs : List (List L2.Key × V)} {cs : List Cell} {ps : Arguments} {body : Expr} {sc : Scope} {σ : L2.St}
theorem know_cells : ∀ {cs : List Cell} {ys : List V} {G H : Hp}, Ex G H → PySem.Paired (CtH H) ys cs → ∃ G', Nx [] G H G' H ∧ PySem.Paired (Cl G') ys cs
  | [], _, G, H, e, .nil => ⟨G, Nx.refl e, .nil⟩
  | c :: cs, _, G, H, e, .cons ⟨b, rfl, hb⟩ r => by
    obtain ⟨G1, n1, h1⟩ := know1 e hb
    obtain ⟨G2, n2, h2⟩ := know_cells n1.gh r
    exact ⟨G2, n1.trans n2, .cons ⟨b, rfl, n2.gg _ _ h1⟩ h2⟩
theorem g_srtDX (e : Ex G H) (t : TabAt P q G H) (h : H d = some (.dT kvs)) (hk : kvs.map (·.1) = cs.map ckey) (L : LamYX ps body sc) (k : ∀ p G' H', Nx [P] G H G' H' → TabAt P q G' H' → H p = none → ClsAt p G' H' (cs.mergeSort yxLe) → Q (.ref p) H') :
    tCons (tLamE P q ps body sc) tNil σ H fun zs H2 => rSrtDX [.ref d] zs H2 Q := by
  refine ⟨t.tab e, fun H1 f c' hG hT hf hc => ?_⟩
  obtain ⟨G1, n1, t1⟩ := lam_nx e t hG
  have hdP : d ≠ P := fun z => by
    obtain ⟨_, tab, h1, _⟩ := t
    rw [← z, h] at h1
    cases h1
  have hd1 : H1 d = some (.dT kvs) := n1.fr d _ (fun z => hdP (List.mem_singleton.mp z)) h
  have hdf : d ≠ f := fun z => by rw [z, hf] at hd1; cases hd1
  have hcf : c' ≠ f := fun z => by rw [z, hf] at hc; cases hc
  have n2 : Nx [] G1 H1 G1 (L2.upd H1 f (LamO f q ps body sc c')) := Nx.own n1.gh hf
  refine ⟨d, f, c', q, ps, body, sc, kvs, cs, rfl, rfl, L, upd_same, by rw [upd_ne hcf]; exact hc, .inl (by rw [upd_ne hdf]; exact hd1), hk, fun p ys hp hys => ?_⟩
  have n3 : Nx [] G1 (L2.upd H1 f (LamO f q ps body sc c')) G1 (L2.upd (L2.upd H1 f (LamO f q ps body sc c')) p (.lst ys)) := Nx.own n2.gh hp
  have hys2 : PySem.Paired (CtH (L2.upd (L2.upd H1 f (LamO f q ps body sc c')) p (.lst ys))) ys (cs.mergeSort yxLe) := pr_mono (fun v c ⟨b, eb, hb⟩ => ⟨b, eb, by rw [upd_ne (ne_of_none hb hp)]; exact hb⟩) hys
  obtain ⟨G4, n4, h4⟩ := know_cells n3.gh hys2
  have n24 := (n2.trans n3).trans n4
  refine k p G4 _ (n1.trans n24.pure) (t1.go n24 (by simp)) ((n1.trans n2.pure).fresh hp) ⟨ys, upd_same, ?_, h4⟩
  have g1 : G1 p = none := n2.gh.free hp
  exact n4.old p g1 ⟨_, upd_same, fun _ z => nomatch z⟩
end
end Y

/-! ### sum(d.values()); sorted of tuples of four ints; calls with keywords -/
namespace Y
open PySem PySem.Spec PyProof.Rows L2 PySem.Calls
section
variable {prog : Program} {w : World} {A : Around} {E : Value → Shared → Prop} {s : Shared} {T : String} {r d : Addr} {n : Nat} {P : Nat → Value → Prop} {OK : Heap → Prop} {Q : Value → Shared → Prop}
theorem sum_src (K : PySem.W.KdlSrc prog w T r d n P OK) (hh : A.handled = none) (hok : OK s.heap) (val : Nat → Int) (hval : ∀ (i : Nat) (v : Value), P i v → ∃ t : Tok, v = Value.int (val i) t)
    (h : ∀ (h' : Heap) (tk : Nat) (t' : Tok), (∀ b o, s.heap.get? b = some o → h'.get? b = some o) → Q (.int (preSum val n) t') { s with heap := h', toks := tk }) :
    wpAny (model prog w) A (call (.builtin "sum") [.ref r]) Q E s := by
  refine call_sum_walkAnyS ?_
  obtain ⟨oI, St, hit, W, st⟩ := K.iter A.in1 s hh hok
  refine hit _ _ ⟨s.heap.objs.size, _, _, _, n, P, _, val, rfl, W.toS, st, fun b hb => ?_, hval, fun s' t' hm => ?_⟩
  · show b < (s.heap.push oI).objs.size
    rw [size_push']
    rcases List.mem_cons.mp hb with e | hb
    · rw [e]; exact Nat.lt_succ_self _
    · rw [List.mem_singleton.mp hb]; exact Nat.lt_succ_of_lt (K.there _ hok).2
  · have hk : ∀ b o, s.heap.get? b = some o → s'.heap.get? b = some o := fun b o e =>
      hm.heap b o (fun hI => absurd (Heap.lt_size e) (by rw [List.mem_singleton.mp hI]; exact Nat.lt_irrefl _)) (Heap.get?_push_of_some _ e)
    rw [Moved.eq_with hm]
    exact h s'.heap s'.toks t' hk
end
theorem preSum_list : ∀ is : List Int, preSum (fun i => is.getD i 0) is.length = is.sum
  | [] => rfl
  | a :: is => by
    rw [List.length_cons, PySem.W.kdu_shift, List.sum_cons]
    have e := preSum_list is
    have : (fun i => (a :: is).getD (i + 1) 0) = fun i => is.getD i 0 := by
      funext i
      rfl
    rw [this, e]
    rfl
def tSumVals (td : TE) : TE := fun σ H Q => td σ H fun x H1 => ∃ (a : Addr) (kvs : List (L2.Key × V)) (is : List Int), x = V.ref a ∧ H1 a = some (.dK kvs) ∧ kvs.map (·.2) = is.map V.int ∧ Q (.int is.sum) H1
section
variable {X : Cx} {o : Expr} {p pos apos mpos : Pos} {td : TE}
theorem pe_sumVals (hc : X.calm = true) (hg : Gl X "sum") (hm : X.mg "sum" = none) (hd : PE X o td) (hbase : attributeBase o "values" X.env (eval o X.env) = eval o X.env := by rfl) (hline : (apos.endLine == mpos.line) = true := by rfl)
    (hse : starEach [Expr.Call (.Attribute o "values" apos) [] [] mpos] X.env = [(false, eval (Expr.Call (.Attribute o "values" apos) [] [] mpos) X.env)] := by rfl) :
    PE X (.Call (.Name "sum" p) [.Call (.Attribute o "values" apos) [] [] mpos] [] pos) (tSumVals td) := by
  refine ⟨fun pins s σ H Q I h => ?_⟩
  refine wpAny_Call_Name_kw (ld_blt I hg hm (u := .builtin "sum") (by first | rfl | decide +kernel) ?_ (by first | decide +kernel | decide) (by first | decide +kernel | decide))
  rw [hse]
  refine PySem.callWith_builtin1 (wpAny_Call_method0_late hbase hline (thn (hd.run pins s σ H _ I h) fun v s1 ⟨x, H1, I1, r1, a, kvs, is, ex, ha, hv, q⟩ => ?_))
  subst ex
  obtain rfl : v = Value.ref a := r1
  obtain ⟨_, hsys, vs, rel, dof⟩ := dk_of I1.hok ha
  obtain ⟨ep, dat⟩ := dof.dictAt
  have dat' := dat
  obtain ⟨ob, es, ho, ex, hdat, hko, hpr, hnd⟩ := dat'
  refine ⟨"dict", "dict.values", F.plainAttrs_dict, F.slot_dict_values, F.type_dict_values, ⟨ob, ho, ex.1⟩, fun b e => ?_, Calls.callWith_builtin rfl (PySem.evalArgs_none ?_)⟩
  · cases e
    exact ⟨ob, ho, ex.2.1⟩
  refine call_meetsIn F.slot_dict_values ⟨ob, ho, ex.1⟩ F.entry_dict_values (F.args_dict_values_1 _) (meets_dict_values (mixKind X.prog X.w) a hsys) ⟨⟨vs, dof⟩, ?_⟩
  have k1 : ∀ b u, s1.heap.get? b = some u → (s1.heap.push { cls := .type "dict_values", data := .fields #[.ref a] }).get? b = some u := fun b u e => Heap.get?_push_of_some _ e
  have dat1 : (s1.heap.push { cls := .type "dict_values", data := .fields #[.ref a] }).DictAt (mixKind X.prog X.w) a vs ep := dat.keep k1
  have hlv : vs.length = is.length := by
    have e1 := congrArg List.length hv
    rw [List.length_map, List.length_map] at e1
    rw [← e1]
    exact (KV.length rel).symm
  have hval : ∀ (i : Nat) (v : Value), (∃ k, vs[i]? = some (k, v)) → ∃ t, v = Value.int (is.getD i 0) t := fun i v ⟨k, hk⟩ => by
    obtain ⟨y, g1, g2⟩ := KV.at' rel hk
    have e1 : (kvs.map (·.2))[i]? = some y := by rw [List.getElem?_map, g1]; rfl
    rw [hv, List.getElem?_map] at e1
    obtain ⟨z, hz, rfl⟩ := Option.map_eq_some_iff.mp e1
    obtain ⟨t, rfl⟩ := g2
    exact ⟨t, by rw [List.getD_eq_getElem?_getD, hz]; rfl⟩
  refine sum_src (s := { s1 with heap := s1.heap.push { cls := .type "dict_values", data := .fields #[.ref a] } }) (PySem.W.kdl_values (knd := mixKind X.prog X.w) (kvs := vs) (ep := ep)) (I1.ok.hd hc) ⟨⟨_, Heap.get?_push_size _ rfl, rfl, rfl⟩, dat1⟩ (fun i => is.getD i 0) hval fun h' tk t' hk => ?_
  rw [hlv, preSum_list]
  exact ⟨.int is.sum, H1, I1.kept (t' := tk) fun b u e => hk b u (k1 b u e), ⟨t', rfl⟩, q⟩
end
/-! ### sorted of tuples of four ints -/
abbrev Q4 := Int × Int × Int × Int
def q4D (p : Q4) : PyData := .tuple [.int p.1, .int p.2.1, .int p.2.2.1, .int p.2.2.2]
def lx4 (p q : Q4) : Bool := decide (p.1 < q.1 ∨ p.1 = q.1 ∧ (p.2.1 < q.2.1 ∨ p.2.1 = q.2.1 ∧ (p.2.2.1 < q.2.2.1 ∨ p.2.2.1 = q.2.2.1 ∧ p.2.2.2 ≤ q.2.2.2)))
theorem lx4_trans (a b c : Q4) (h1 : lx4 a b = true) (h2 : lx4 b c = true) : lx4 a c = true := by
  unfold lx4 at *
  rw [decide_eq_true_eq] at *
  omega
theorem lx4_total (a b : Q4) : (lx4 a b || lx4 b a) = true := by
  unfold lx4
  rw [Bool.or_eq_true, decide_eq_true_eq, decide_eq_true_eq]
  omega
theorem lx4_anti (a b : Q4) (h1 : lx4 a b = true) (h2 : lx4 b a = true) : a = b := by
  unfold lx4 at *
  rw [decide_eq_true_eq] at *
  exact Prod.ext (by omega) (Prod.ext (by omega) (Prod.ext (by omega) (by omega)))
theorem le4_eq : PySem.W.dataLe false q4D = lx4 := by
  funext p q
  show (!PySem.W.dataLt (q4D q) (q4D p)) = _
  unfold q4D
  rw [PySem.W.dataLt_tuple]
  show (!PySem.W.rowLt ([q.1, q.2.1, q.2.2.1, q.2.2.2].map .int) ([p.1, p.2.1, p.2.2.1, p.2.2.2].map .int)) = _
  rw [PySem.W.dataLt_ints]
  unfold lx4
  rw [← decide_not]
  refine decide_eq_decide.mpr ?_
  simp only [List.cons_lt_cons_iff, List.not_lt_nil, List.lt_irrefl, and_false, or_false]
  omega
def rSrt4 (K : PySem.W.Frag) : List V → Hp → VK → Prop := fun vs H Q => ∃ (a : Addr) (xs : List V) (L : List Q4), vs = [V.ref a] ∧ SqL K H a xs ∧ DpAll K H xs (L.map q4D) ∧
  ∀ p ys, H p = none → (∀ G, DpAll K G xs (L.map q4D) → DpAll K G ys ((L.mergeSort lx4).map q4D)) → Q (.ref p) (L2.upd H p (.lst ys))
theorem dp_each {X : Cx} {pins : List (Addr × Obj)} {σ : L2.St} {H : Hp} {s : Shared} {R : Hp → Prop} (I : L2.Inv X pins σ H s) : ∀ {xs : List V} {us : List Value} {L : List Q4}, Vals xs us → DpAll X.K H xs (L.map q4D) → (∀ G, R G → DpAll X.K G xs (L.map q4D)) →
    PySem.W.EachIs (fun u c => ∃ x, RelV x u ∧ ∀ G, R G → Dp X.K G x (q4D c)) us L ∧ PySem.W.EachIs (fun v b => ∃ as, Reads s.heap v (q4D b) as) us L
  | [], _, [], .nil, _, _ => ⟨.nil, .nil⟩
  | [], _, _ :: _, .nil, h, _ => by cases h
  | _ :: _, _, [], _, h, _ => by cases h
  | x :: xs, u :: us, c :: L, .cons a as, .cons b bs, hR => by
    obtain ⟨h1, h2⟩ := dp_each (R := R) I as bs (fun G r => by cases hR G r; assumption)
    obtain ⟨rs, hr⟩ := Dp.reads I _ x u b a
    exact ⟨.cons ⟨x, a, fun G r => by cases hR G r; assumption⟩ h1, .cons ⟨rs, hr⟩ h2⟩
theorem each_dp {K : PySem.W.Frag} {R : Hp → Prop} : ∀ {us : List Value} {L : List Q4}, PySem.W.EachIs (fun u c => ∃ x, RelV x u ∧ ∀ G, R G → Dp K G x (q4D c)) us L → ∃ xs, Vals xs us ∧ ∀ G, R G → DpAll K G xs (L.map q4D)
  | _, _, .nil => ⟨[], .nil, fun _ _ => .nil⟩
  | _, _, .cons ⟨x, a, b⟩ r => by
    obtain ⟨xs, h1, h2⟩ := each_dp r
    exact ⟨x :: xs, .cons a h1, fun G r => .cons (b G r) (h2 G r)⟩
theorem cr_srt4 {X : Cx} {k : Nat} (hr : Room k X.A) : CallR X (.builtin "sorted") (rSrt4 X.K) := by
  intro pins s σ H xs us Q I hx ⟨a, vs, L, e1, hl, hp, hq⟩
  subst e1
  rw [Vals.ref1 hx]
  obtain ⟨its, hv, pl, hle⟩ := I.list hl
  obtain ⟨hE, hR⟩ := dp_each (R := fun G => DpAll X.K G vs (L.map q4D)) I hv hp (fun _ h => h)
  have hlen : its.length = L.length := hE.length
  have hun := hr.un
  refine PySem.W.sorted_data (enc := q4D) pl.isList hE hR ?_ ?_ (by rw [← hlen, ← hv.length]; exact hle) (fun x _ => ?_) (fun out hol hout => ?_)
  · exact PySem.W.AllAlike.of fun b b' => by simp [PySem.W.alike, PySem.W.alikeAll, q4D]
  · exact PySem.W.Sortable.tuples fun b => ⟨_, _, rfl⟩
  · have e : PyData.depth (q4D x) ≤ 1 := by simp [PyData.depth, PyData.depthAll, q4D]
    omega
  · rw [le4_eq] at hout
    obtain ⟨ys, hys, hdy⟩ := each_dp hout
    obtain ⟨c, hc⟩ := PyProof.Rows.sortedAll_at s.heap its out.toArray
    have hk : ∀ b u, s.heap.get? b = some u → (PyProof.Rows.sortedAll s.heap its out.toArray).get? b = some u := fun b u e => PyProof.Rows.sortedAll_old e
    exact ⟨.ref (s.heap.objs.size + 1), _, I.laid (o := .lst ys) (a := s.heap.objs.size + 1) (t' := s.toks) hk (Nat.le_succ _) ⟨by rw [hys.length, hol, ← hlen, ← hv.length]; exact hle, _, _, hys, hc⟩, rfl, hq _ ys (HOk.fresh I.hok (Nat.le_succ _)) hdy⟩
theorem cr_srt4K {X : Cx} {k : Nat} {K : PySem.W.Frag} (h : X.K = K) (hr : Room k X.A) : CallR X (.builtin "sorted") (rSrt4 K) := h ▸ cr_srt4 hr
/-! ### calls with keywords, keyword-only parameters without defaults -/
theorem kbn_of {K : PySem.W.Frag} {x qual : Str} {params : Arguments} {body : List Stmt} {scope : Scope} {kws : List (Str × V)} {f : Addr} {fd : FuncData} {ps ks : List Str} {n : Nat} (F : FunD K x qual params body scope [] kws f fd)
    (h : ∀ (kV doc pm : Value) (an : Option Addr) (cdv ct : Value) (us ws : List Value), us.length = n → ws.length = ks.length → bindArgs (PySem.W.fnOf x qual params body scope .none kV doc pm an cdv ct) ⟨us, ks.zip ws⟩ = pure (ps.zip (us ++ ws))) : KBn K fd ps n ks (fun us ws => us ++ ws) (fun vs zs => vs ++ zs) where
  to := fun s us ws X l1 l2 => by
    obtain ⟨oc, od, dV, kV, doc, pm, an, cdv, ct, osl, rfl, lk, hcd, hD, hK⟩ := F.ex
    rcases hD with ⟨_, rfl⟩ | ⟨e, _⟩
    · exact .of_eq (h kV doc pm an cdv ct us ws l1 l2)
    · exact absurd rfl e
  rel := fun r1 r2 => r1.append r2
def tCallNS (n m : Nat) (sp : Sp) (E : L2.St → XK) (t tk : TA) : TE := fun σ H Q => t σ H fun vs H1 => tk σ H1 fun zs H2 => vs.length = n ∧ zs.length = m ∧ sp (vs ++ zs) H2 Q (E σ)
theorem g_callNS {n m : Nat} {sp : Sp} {E : L2.St → XK} {t tk : TA} {σ : L2.St} {H : Hp} {Q : VK} (q : t σ H fun vs H1 => tk σ H1 fun zs H2 => vs.length = n ∧ zs.length = m ∧ sp (vs ++ zs) H2 Q (E σ)) : tCallNS n m sp E t tk σ H Q := q
section
variable {X : Cx} {CX : CXT} {k n : Nat} {f : Addr} {fd : FuncData} {ps ks : List Str} {sp : Sp} {E : L2.St → XK} {x : Str} {p pos : Pos} {e : Expr} {es : List Expr} {kws : List Keyword} {t tk : TA}
theorem pe_callNS (F : FnOk X.prog X.w X.K X.mg X.base CX k f fd ps sp) (hr : Room k X.A) (hg : Gl X x) (hm : X.mg x = some (.ref f)) (hk : PySem.W.keepIn X.K (.ref f) = true) (hb : KBn X.K fd ps n ks (fun us ws => us ++ ws) (fun vs zs => vs ++ zs)) (hx : ∀ σ, PassesAt CX X σ (E σ))
    (ha : PA X (e :: es) t) (hkw : PK X kws tk) (hall : (backToKw pos (keywordEach kws X.env)).all (·.1.isSome) = true := by rfl) (hks : (backToKw pos (keywordEach kws X.env)).filterMap (·.1) = ks := by rfl)
    (hdb : (x == ("__debug__" : Str)) = false := by decide) (he : starEach (e :: es) X.env = (false, eval e X.env) :: starEach es X.env := by rfl)
    (hpl : ((backTo pos (starEach (e :: es) X.env)).any (·.1) || (backToKw pos (keywordEach kws X.env)).any (·.1.isNone)) = false := by rfl) :
    PE X (.Call (.Name x p) (e :: es) kws pos) (tCallNS n ks.length sp E t tk) := by
  refine ⟨fun pins s σ H Q I h => ?_⟩
  refine wpAny_Call_Name_kw (ld_glob I hg hm ?_ hdb)
  refine PySem.W.callWith_KW (h₀ := X.base) I.ok.mod.kin hk hall (thn (ha.run pos pins s σ H _ I h) fun us s1 ⟨vs, H1, I1, r, q⟩ => ?_) hpl he
  refine thn (hkw.run pos pins s1 σ H1 _ I1 q) fun ws s2 ⟨zs, H2, I2, rz, l1, l2, q2⟩ => ⟨I2.kIn, ?_⟩
  rw [hks]
  have r2 := hb.rel r rz
  refine wpAny_call (codeAny_mono (F.run X.A X.stack s2 H2 ⟨us, ks.zip ws⟩ (us ++ ws) (vs ++ zs) Q (E σ) hr I2.env0 (hb.to s2 us ws I2.kIn (r.length.symm.trans l1) (rz.length.symm.trans l2)) r2 q2) fun r3 s' hq => ?_)
  cases r3 with
  | error e => exact hx σ pins H2 s2 e s' I2 hq
  | ok fl =>
    cases fl with
    | ret u => exact I2.after hq
    | next => exact False.elim hq
    | brk => exact False.elim hq
    | cont => exact False.elim hq
end
end Y

/-! ### name = {k: v for ..} with tuple keys; dicts of ints that are walked; items of a dict of changing values -/
namespace Y
open PySem PySem.Spec PyProof.Rows L2
theorem ps_setDcT {X : Cx} {kr i : Nat} (hr : Room kr X.A) {y : Str} {py : Pos} {kx vx tg iter : Expr} {ifs : List Expr} {scope : Scope} {own : List (Str × Nat)} {pos spos : Pos} {wi : TI} {g : TG} {tt : TT} {tk tv : TE} (hc : X.calm = true) (nd : X.N.Nodup) (hy : X.N[i]? = some y) (loc : X.env.scope.names.lookup y = some .local)
    (sw : swapsWith (.DictComp kx vx [⟨tg, iter, ifs, 0⟩] scope pos) (some (.Name y py)) spos.line X.env = pure true) (hi : PI X tg iter wi) (ok : BlkOk X.N X.env.scope scope own)
    (hg : ∀ (s : Shared) (H : Hp) (C : Addr) (cl : List (Str × Addr)) (fp : List Addr), PG (X.blk s H scope (compEnvC scope cl C X.env) fp) tg g) (ht : ∀ (s : Shared) (H : Hp) (C : Addr) (cl : List (Str × Addr)) (fp : List Addr), PTs (X.blk s H scope (compEnvC scope cl C X.env) fp) ifs tt)
    (hk : ∀ (s : Shared) (H : Hp) (C : Addr) (cl : List (Str × Addr)) (fp : List Addr), PE (X.blk s H scope (compEnvC scope cl C X.env) fp) kx tk)
    (he : ∀ (s : Shared) (H : Hp) (C : Addr) (cl : List (Str × Addr)) (fp : List Addr), PE (X.blk s H scope (compEnvC scope cl C X.env) fp) vx tv) (hs : ∀ x, foldedSetIterable iter X.env x = pure x := by intro _; rfl) :
    PS X (.Assign [.Name y py] (.DictComp kx vx [⟨tg, iter, ifs, 0⟩] scope pos) spos) (tAsg (tDcT wi g tt tk tv (own.map (·.2))) (gName i)) := by
  constructor
  intro pins s σ H D I q0
  have hu : X.A.units < cLine := by have := hr.un; omega
  rw [exec_Assign_Name_used _ _ _ _ sw]
  refine wpAny_bind (wpAny_standAt (wpAny_bind ?_))
  show wpAny _ X.A (do let _ ← comprehension (.DictComp kx vx [⟨tg, iter, ifs, 0⟩] scope pos) scope X.env (firstIterPos [⟨tg, iter, ifs, 0⟩] pos) newDict false (eval iter X.env) (some (assign (.Name y py) X.env))) _ _ s
  have q1 : tDcT wi g tt tk tv (own.map (·.2)) σ H (fun x H1 => gName i x σ H1 D.nx) := q0
  refine wpAny_bind (thn (dcT_core (Qf := fun _ s' => SP X pins D .next s') hu hc nd I hi ok hg ht hk he hs q1 fun L C s' m H' J qq ns fr => ?_) fun _ s' z => wpAny_pure (wpAny_pure z))
  show wpAny _ _ (assign (.Name y py) X.env (.ref L)) _ _ _
  refine wpAny_assign_Name (store_ok2 (v := V.ref L) J nd hy (.inl loc) rfl (fun s2 J2 ⟨a, sb, at_⟩ => ?_) (.inr loc))
  obtain ⟨x0, x1, x2, x3, x4, x5⟩ := fr
  have away : C ≠ a := at_.elim (fun z => by rw [z]; exact x1) fun z w => x4 y a z w.symm
  exact ⟨m, ns.sameBut sb away, fun h3 sb3 => ⟨_, H', J2.turned (t' := s2.toks) (fun b o hb w => (sb3.2 b hb).trans w) x0 x1 x3 x4 x5, qq⟩⟩
/-! ### dicts of ints by ints -/
/-- a dict of ints by ints that changes -/
def TlAt (p : Addr) (G H : Hp) (m : List (Int × Int)) : Prop := H p = some (.dK (intK m)) ∧ G p = none
theorem tlAt_stab : Stab TlAt := fun p _ _ _ _ _ _ h n hp => ⟨n.fr p _ hp h.1, n.old p h.2 ⟨_, h.1, fun _ z => nomatch z⟩⟩
section
variable {K : PySem.W.Frag} {G H : Hp} {d : Addr} {m : List (Int × Int)} {Q : VK} {M : List Addr} {od : Obj}
theorem intK_val {k : Int} : ∀ {m : List (Int × Int)}, valV (intK m) (Sum.inl k : L2.Key) = (gtM m k).map V.int
  | [] => rfl
  | (a, b) :: m => by
    have ih := intK_val (k := k) (m := m)
    unfold intK valV at ih ⊢
    rw [List.map_cons, List.find?_cons, gtM_cons]
    by_cases h : a = k
    · rw [if_pos h]; simp [h]
    · rw [if_neg h]
      have : (Sum.inl a : L2.Key) ≠ Sum.inl k := fun z => h (Sum.inl.inj z)
      simp only [this, decide_false]
      exact ih
theorem intK_put {k n : Int} {m : List (Int × Int)} : putK (intK m) (Sum.inl k : L2.Key) (.int n) = intK (ptM m k n) := by
  unfold putK ptM intK
  rw [List.any_map]
  have e2 : (m.any ((fun kv : L2.Key × V => decide (kv.1 = (Sum.inl k : L2.Key))) ∘ fun e : Int × Int => ((Sum.inl e.1 : L2.Key), V.int e.2))) = m.any fun p => decide (p.1 = k) := by
    congr 1
    funext e
    exact decide_eq_decide.mpr ⟨fun h => Sum.inl.inj h, fun h => congrArg Sum.inl h⟩
  rw [e2]
  split
  · rw [List.map_map, List.map_map]
    refine List.map_congr_left fun e _ => ?_
    show (if (Sum.inl e.1 : L2.Key) = Sum.inl k then ((Sum.inl e.1 : L2.Key), V.int n) else ((Sum.inl e.1 : L2.Key), V.int e.2)) = ((Sum.inl (if e.1 = k then (e.1, n) else e).1 : L2.Key), V.int (if e.1 = k then (e.1, n) else e).2)
    by_cases h : e.1 = k
    · rw [if_pos (congrArg Sum.inl h), if_pos h]
    · rw [if_neg (fun z => h (Sum.inl.inj z)), if_neg h]
  · rw [List.map_append]
    rfl
/-- d.get(k, x) -/
theorem g_tlGet {k : Int} {z : V} (h : L2.Rd H d (.dK (intK m))) (q : Q (((gtM m k).map V.int).getD z) H) : ∃ o, DGet H d (.int k) o ∧ Q (o.getD z) H :=
  ⟨_, .inl ⟨_, Sum.inl k, h, rfl, rfl⟩, by rw [intK_val]; exact q⟩
theorem g_tlG {ty tx : TE} {σ : L2.St} (h : L2.Rd H d (.dK (intK m))) (q : ty σ H fun y H2 => tx σ H2 fun z H3 => ∃ o, DGet H3 d y o ∧ Q (o.getD z) H3) : DG2W ty tx σ Q (.ref d) H := ⟨d, rfl, .inl ⟨_, h⟩, q⟩
/-- d[k] -/
theorem g_tlIx {k n : Int} (h : L2.Rd H d (.dK (intK m))) (hg : gtM m k = some n) (q : Q (.int n) H) : DGeW Q (.ref d) (.int k) H := ⟨d, _, rfl, .inl ⟨_, Sum.inl k, h, rfl, by rw [intK_val, hg]; rfl⟩, q⟩
/-- d[k] = n -/
theorem g_tlPut {k n : Int} {R : Hp → Prop} (e : Ex G H) (r : TlAt d G H m) (hl : m.length < 100000) (q : ∀ H', Nx [d] G H G H' → TlAt d G H' (ptM m k n) → R H') : DPuW R (.int n) (.ref d) (.int k) H := by
  refine ⟨d, _, rfl, .inl ⟨intK m, Sum.inl k, r.1, rfl, by unfold intK; rw [List.length_map]; exact szl (by omega), rfl⟩, ?_⟩
  rw [intK_put]
  exact q _ (Nx.set e r.2 (by simp)) ⟨upd_same, r.2⟩
theorem g_keysK {R : It → Hp → Prop} {kvs : List (L2.Key × V)} (h : H d = some (.frz od (.dK kvs))) (q : R (Itk d od kvs) H) : KeysW R (.ref d) H := ⟨d, od, rfl, .inl ⟨kvs, h, q⟩⟩
theorem src_tl (h : H d = some (.frz od (.dK (intK m)))) (hM : d ∉ M) : SrcP M (Itk d od (intK m)) G H m.length (fun i _ v => ∃ e, m[i]? = some e ∧ v = .int e.1) where
  go := fun i G' H' n hi => ⟨n.fr d _ hM h, by unfold intK; rw [List.length_map]; exact hi⟩
  stop := fun i G' H' n hi => ⟨n.fr d _ hM h, by unfold intK; rw [List.length_map]; exact hi⟩
  yld := fun i G' H' x H'' n hi y => by
    obtain ⟨rfl, kk, v, hk, rfl⟩ := y
    unfold intK at hk
    rw [List.getElem?_map] at hk
    obtain ⟨e, he, h2⟩ := Option.map_eq_some_iff.mp hk
    cases h2
    exact ⟨G', Nx.refl n.gh, e, he, rfl⟩
theorem g_lockKE {t : TE} {σ : L2.St} {kvs : List (L2.Key × V)} (h : H d = some (.dK kvs)) (q : ∀ od, t σ (L2.upd H d (.frz od (.dK kvs))) (fun v H' => H' d = some (.frz od (.dK kvs)) ∧ Q v (L2.upd H' d (.dK kvs)))) : tLockE t σ H Q := ⟨d, _, h, trivial, q⟩
theorem g_lockKS {t : TS} {D : Ends} {σ : L2.St} {kvs : List (L2.Key × V)} (h : H d = some (.dK kvs)) (q : ∀ od, t ⟨fun σ' H' => H' d = some (.frz od (.dK kvs)) ∧ D.nx σ' (L2.upd H' d (.dK kvs)), fun v H' => H' d = some (.frz od (.dK kvs)) ∧ D.rt v (L2.upd H' d (.dK kvs)), fun σ' H' => H' d = some (.frz od (.dK kvs)) ∧ D.bk σ' (L2.upd H' d (.dK kvs)), fun σ' H' => H' d = some (.frz od (.dK kvs)) ∧ D.ct σ' (L2.upd H' d (.dK kvs))⟩ σ (L2.upd H d (.frz od (.dK kvs)))) : tLock t D σ H := ⟨d, _, h, trivial, q⟩
/-- while it is locked, and behind -/
theorem tl_lock (r : TlAt d G H m) (e : Ex G H) : Ex G (L2.upd H d (.frz od (.dK (intK m)))) := e.out r.2
theorem tl_unlock {G' H' : Hp} (r : TlAt d G H m) (hM : d ∉ M) (n : Nx M G (L2.upd H d (.frz od (.dK (intK m)))) G' H') : H' d = some (.frz od (.dK (intK m))) ∧ Nx M G H G' (L2.upd H' d (.dK (intK m))) ∧ TlAt d G' (L2.upd H' d (.dK (intK m))) m := by
  obtain ⟨a, b, c⟩ := unlock_nx r.1 r.2 hM n
  exact ⟨a, c, upd_same, b⟩
def rSumV (Q : VK) (x : V) (H1 : Hp) : Prop := ∃ (a : Addr) (kvs : List (L2.Key × V)) (is : List Int), x = V.ref a ∧ H1 a = some (.dK kvs) ∧ kvs.map (·.2) = is.map V.int ∧ Q (.int is.sum) H1
theorem g_sumV {td : TE} {σ : L2.St} (q : td σ H fun x H1 => rSumV Q x H1) : tSumVals td σ H Q := q
theorem g_sumI (h : H d = some (.dK (intK m))) (q : Q (.int (m.map (·.2)).sum) H) : rSumV Q (.ref d) H := ⟨d, _, m.map (·.2), rfl, h, by unfold intK; rw [List.map_map, List.map_map]; rfl, q⟩
end
/-! ### items of a dict of changing values -/
theorem src_mdI {α : Type} {G H : Hp} {d : Addr} {od : Obj} {M : List Addr} {ts : List (Cell × Addr × α)} {K : PySem.W.Frag} (h : H d = some (.frz od (.dT (mdK ts)))) (hM : d ∉ M) : SrcP M (Itit d od (mdK ts)) G H ts.length (fun i G v => ∃ t a c p x, v = .ref t ∧ SqT K G t [a, .ref p] ∧ ts[i]? = some (c, p, x) ∧ Cl G a c) where
  go := fun i G' H' n hi => ⟨n.fr d _ hM h, by unfold mdK; rw [List.length_map]; exact hi⟩
  stop := fun i G' H' n hi => ⟨n.fr d _ hM h, by unfold mdK; rw [List.length_map]; exact hi⟩
  yld := fun i G' H' x H'' n hi y => by
    obtain ⟨T, kk, v, q, hk, rfl, hT, hq, rfl⟩ := y
    unfold mdK at hk
    rw [List.getElem?_map] at hk
    obtain ⟨⟨c, p, x⟩, he, h2⟩ := Option.map_eq_some_iff.mp hk
    cases h2
    obtain ⟨G1, n1, hb⟩ := know1 (q := q) n.gh hq
    have n2 := Nx.new (o := .tup [.ref q, .ref p]) n1.gh hT
    exact ⟨_, n1.trans n2, T, .ref q, c, p, x, rfl, .of upd_same, he, q, rfl, n2.gg _ _ hb⟩
/-- (dx, dy), name = v -/
theorem g_un22 {K : PySem.W.Frag} {G H : Hp} {σ : L2.St} {i j k : Nat} {t : Addr} {a b : V} {c : Cell} {R : L2.St → Hp → Prop} (e : Ex G H) (h : SqT K G t [a, b]) (hc : Cl G a c) (q : R (((σ.set i (some (.int c.1))).set j (some (.int c.2))).set k (some b)) H) :
    gTup K 2 (gCons (gTup K 2 (gCons (gName i) (gCons (gName j) gNil))) (gCons (gName k) gNil)) (.ref t) σ H R := by
  obtain ⟨u, rfl, hu⟩ := hc
  exact ⟨t, _, rfl, e.seqT h, rfl, _, _, rfl, ⟨u, _, rfl, .of (e _ _ hu), rfl, _, _, rfl, _, _, rfl, rfl, _, _, rfl, rfl, q⟩⟩
/-! ### {k: n for ..} of ints by ints -/
theorem g_dcTl {K : PySem.W.Frag} {σ : L2.St} {G H : Hp} {Q : VK} {g : TG} {tk tv : TE} {tt : TT} {J : It} {M : List Addr} {n : Nat} {P : Nat → Hp → V → Prop} {A : Addr} {js : List Nat} {es : Nat → List (Int × Int)} (S : SrcP M J G H n P) (e : Ex G H) (hA : H A = none) (hM : ∀ b ∈ M, H b ≠ none) (hz : n < 100000) (e0 : es 0 = []) (hlen : ∀ i, (es i).length ≤ i)
    (hs : ∀ i v G' H', i < n → P i G' v → Nx M G H G' H' → ∀ (QE : V → V → Hp → Prop) (QN : Hp → Prop),
      (∀ c x G4 H4, Nx M G' H' G4 H4 → es (i + 1) = ptM (es i) c x → QE (.int c) (.int x) H4) → (∀ G3 H3, Nx M G' H' G3 H3 → es (i + 1) = es i → QN H3) →
      g v (wipe σ js) H' fun σ2 H2 => wipe σ2 js = wipe σ js ∧ tt σ2 H2 fun b H3 => if b = true then tk σ2 H3 fun y H4 => tv σ2 H4 fun z H5 => QE y z H5 else QN H3)
    (hd : ∀ G' H', Nx M G H G' H' → TlAt A G' H' (es n) → Q (.ref A) H') : DcW J g tt tk tv js σ A Q H := by
  have st0 : Nx [] G H G (L2.upd H A (.dK [])) := Nx.own e hA
  have hAM : A ∉ M := fun z => hM A z hA
  refine ⟨fun i m H' => m = n - i ∧ i ≤ n ∧ ∃ G', Nx M G H G' H' ∧ TlAt A G' H' (es i),
    ⟨n, by simp, Nat.zero_le _, G, st0.pure, by rw [e0]; exact ⟨upd_same, e.free hA⟩⟩, ?_⟩
  rintro i m H' ⟨rfl, hi, G', nn, hT⟩
  by_cases hlt : i < n
  · refine .inr ⟨S.go i G' H' nn hlt, fun H'' => ∃ G'', Nx M G H G'' H'' ∧ TlAt A G'' H'' (es (i + 1)),
      fun H'' ⟨G'', r⟩ => ⟨n - (i + 1), by omega, rfl, hlt, G'', r⟩, fun v H1 y => ?_⟩
    obtain ⟨G1, n1, d1⟩ := S.yld i G' H' v H1 nn hlt y
    have n2 : Nx M G H G1 H1 := nn.trans n1.pure
    have hT1 := tlAt_stab A _ _ _ _ _ _ hT n1 (by simp)
    refine hs i v G1 H1 hlt d1 n2 (fun y z H5 => ∃ (kvs : List (L2.Key × V)) (k : L2.Key), y = kV k ∧ H5 A = some (.dK kvs) ∧ kvs.length < sizeLine ∧ _) _ (fun c x G4 H4 n4 ee => ?_) (fun G3 H3 n3 ee => ?_)
    · have hT4 := tlAt_stab A _ _ _ _ _ _ hT1 n4 hAM
      have n5 : Nx M G H G4 H4 := n2.trans n4
      have n6 : Nx [A] G4 H4 G4 (L2.upd H4 A (.dK (putK (intK (es i)) (Sum.inl c) (.int x)))) := Nx.set n4.gh hT4.2 (by simp)
      have n7 := (n5.mono (M' := A :: M) fun _ z => List.mem_cons_of_mem _ z).trans (n6.mono (M' := A :: M) fun b z => by simp at z; simp [z])
      exact ⟨intK (es i), Sum.inl c, rfl, hT4.1, by unfold intK; rw [List.length_map]; exact szl (by have := hlen i; omega), G4, n7.drop hA, by rw [ee]; exact ⟨by rw [upd_same, intK_put], hT4.2⟩⟩
    · exact ⟨G3, n2.trans n3, by rw [ee]; exact tlAt_stab A _ _ _ _ _ _ hT1 n3 hAM⟩
  · have e' : i = n := by omega
    subst e'
    exact .inl ⟨S.stop _ G' H' nn (Nat.le_refl _), hd G' H' nn hT⟩
/-! ### dicts of changing values -/
theorem g_mdNew {α : Type} {R : Addr → Hp → Hp → α → Prop} {G H : Hp} {σ : L2.St} {Q : VK} (e : Ex G H) (q : ∀ p H', Nx [] G H G H' → H p = none → MdAt R p G H' [] → Q (.ref p) H') : tDNewT σ H Q := fun p hp => q p _ (Nx.own e hp) hp (MdAt.new upd_same (e.free hp))
theorem g_mdSetd2 {α : Type} {R : Addr → Hp → Hp → α → Prop} {G H : Hp} {d : Addr} {ts : List (Cell × Addr × α)} {c : Cell} {y : V} {Q : VK} {z0 : Addr} {x0 : α} (hR : Stab R) (e : Ex G H) (r : MdAt R d G H ts) (h : Cl G y c) (hz : R z0 G H x0) (hzv : z0 ∉ ts.map (·.2.1)) (hzd : z0 ≠ d) (hl : ts.length < 100000)
    (q : ∀ p x ts1 H', Nx [d] G H G H' → MdAt R d G H' ts1 → (c, p, x) ∈ ts1 → (∀ c', c' ∈ ts1.map (·.1) ↔ c' ∈ ts.map (·.1) ∨ c' = c) → (∀ t ∈ ts1, t ∈ ts ∨ t = (c, z0, x0) ∧ c ∉ ts.map (·.1)) → ts1.length ≤ ts.length + 1 → Q (.ref p) H') : rSetdT (.ref d) [y, .ref z0] H Q := by
  refine g_mdSetd hR e r h hz hzv hzd hl (fun p x ht => q p x ts H (Nx.refl e) r ht (fun c' => ⟨.inl, fun z => z.elim id fun z => by rw [z]; exact List.mem_map.mpr ⟨_, ht, rfl⟩⟩) (fun t ht => .inl ht) (by omega)) fun hc H' n r' => q z0 x0 _ H' n r' (by simp) (fun c' => by rw [List.map_append, List.mem_append]; simp) (fun t ht => ?_) (by simp)
  rcases List.mem_append.mp ht with ht | ht
  · exact .inl ht
  · exact .inr ⟨List.mem_singleton.mp ht, hc⟩
theorem md_len {α : Type} {ts : List (Cell × Addr × α)} {L : List Cell} (hn : (ts.map (·.1)).Nodup) (h : ∀ c ∈ ts.map (·.1), c ∈ L) : ts.length ≤ L.length := by
  have := hn.length_le_of_subset h
  simpa using this
/-! ### sorted of tuples of four, known again -/
theorem g_srt4 {K : PySem.W.Frag} {G H : Hp} {a : Addr} {L : List Q4} {Q : VK} (e : Ex G H) (r : LstAt K a G H (L.map q4D)) (q : ∀ p H', Nx [] G H G H' → H p = none → LstAt K p G H' ((L.mergeSort lx4).map q4D) → Q (.ref p) H') : rSrt4 K [.ref a] H Q := by
  obtain ⟨vs, h, _, d⟩ := r
  exact ⟨a, vs, L, rfl, .of h, dpAll_mono e d, fun p ys hp dy => q p _ (Nx.own e hp) hp ⟨ys, upd_same, e.free hp, dy G d⟩⟩
theorem lsr_lst {K : PySem.W.Frag} {α : Type} {f : α → PyData} {p : Addr} {G H : Hp} {L : List α} (r : LsR (fun G v z => Dp K G v (f z)) p G H L) : LstAt K p G H (L.map f) := by
  obtain ⟨vs, h, g, d⟩ := r
  refine ⟨vs, h, g, ?_⟩
  clear h
  induction d with
  | nil => exact .nil
  | cons a _ ih => exact .cons a ih
end Y

local macro_rules | `(tactic| walk_at "dp") => `(tactic| (first | assumption | exact L2.Dp.non | exact L2.Dp.bl _ | exact L2.Dp.int _ | exact L2.Dp.str _ | (refine Y.dp_mono (Y.Nx.gg (by assumption)) ?_; walk_at "dp")))
local macro_rules | `(tactic| walk_at "isi") => `(tactic| first
  | refine Y.g_isi (b := true) (by assumption) (by walk_at "dp") (by rfl) ?_
  | refine Y.g_isi (b := false) (by assumption) (by walk_at "dp") (by rfl) ?_)
local macro_rules | `(tactic| walk_at "s1") => `(tactic| (with_reducible first
  | exact Y.g_test ?_ | fail))
local macro_rules | `(tactic| walk_at "sx") => `(tactic| repeat' (first
  | ((with_reducible apply Y.g_var); focus (exact rfl))
  | (with_reducible first
      | refine Y.g_seq ?_ | refine Y.g_asg ?_ | refine Y.g_name ?_ | refine Y.g_ret ?_ | refine Y.g_drop ?_ | refine Y.g_next ?_ | refine Y.g_ifS ?_ | refine Y.g_ifE ?_
      | refine Y.g_c ?_ | refine Y.g_nil ?_ | refine Y.g_cons ?_ | refine Y.g_op ?_ | refine Y.g_un ?_ | refine Y.g_cb ?_ | refine Y.g_call ?_ | refine Y.g_call1 ?_ | refine Y.g_callS ?_
      | refine Y.g_test ?_ | refine Y.g_tB ?_ | refine Y.g_isbl ?_ | refine Y.g_and ?_ | refine Y.g_or ?_ | refine Y.g_not ?_ | refine Y.g_andV ?_ | refine Y.g_orV ?_ | refine Y.g_notV ?_
      | refine Y.g_chain ?_ | refine Y.g_isN ?_ | refine Y.g_notN ?_ | refine Y.g_I0 ?_ | refine Y.g_U ?_ | refine Y.g_eqII ?_ | refine Y.g_eqSS ?_ | refine Y.g_neII ?_ | refine Y.g_neSS ?_
      | refine Y.g_iT ?_ | refine Y.g_iF ?_ | refine Y.g_inT ?_ | refine Y.g_inF ?_ | refine Y.g_retN ?_
      | refine Y.g_tup ?_ | refine Y.g_lst ?_ | refine Y.g_bm ?_ | refine Y.g_bm0 ?_ | refine Y.g_yes ?_ | refine Y.g_sub ?_ | refine Y.g_sl ?_ | refine Y.g_noPart ?_ | refine Y.g_part ?_ | refine Y.g_isint ?_ | refine Y.g_for ?_ | refine Y.g_lc ?_ | refine Y.g_iTup ?_ | refine Y.g_iList ?_ | refine Y.g_iStr ?_ | refine Y.g_iRng1 ?_ | refine Y.g_iRng2 ?_ | refine Y.g_iEnum ?_ | refine Y.g_iEnT ?_
      | refine Y.g_meth ?_ | refine Y.g_methS ?_ | refine Y.g_fld ?_ | refine Y.g_sfd ?_ | refine Y.g_din ?_ | refine Y.g_dni ?_ | refine Y.g_dge ?_ | refine Y.g_dpu ?_ | refine Y.g_dde ?_ | refine Y.g_lvs ?_
      | refine Y.g_del ?_ | refine Y.g_abs ?_ | refine Y.g_int1 ?_ | refine Y.g_m1 ?_ | refine Y.g_dc ?_ | refine Y.g_disp ?_ | refine Y.g_pair ?_ | refine Y.g_pair0 ?_ | refine Y.g_tru ?_ | refine Y.g_cont ?_ | refine Y.g_brk ?_ | refine Y.g_isS ?_ | refine Y.g_fs ?_ | refine Y.g_js ?_ | refine Y.g_js0 ?_ | refine Y.g_fmt ?_ | refine Y.g_star ?_ | refine Y.g_inSign ?_ | refine Y.g_isB ?_ | refine Y.g_notB ?_ | refine Y.g_lrev ?_ | refine Y.g_augS ?_ | refine Y.g_ipI ?_ | refine Y.g_dg1 ?_ | refine Y.g_dg2 ?_ | refine Y.g_iZip ?_)))
local macro_rules | `(tactic| walk_at "len") => `(tactic| first | refine Y.g_lenT (by assumption) (by walk_at "dp") ?_ | refine Y.g_lenL (by assumption) (by walk_at "dp") ?_)
local macro_rules | `(tactic| walk_at "ix0") => `(tactic| first | refine Y.g_ixT (k := 0) (by assumption) (by walk_at "dp") (by rfl) (by rfl) ?_ | refine Y.g_ixL (k := 0) (by assumption) (by walk_at "dp") (by rfl) (by rfl) ?_)
local macro_rules | `(tactic| walk_at "ix1") => `(tactic| first | refine Y.g_ixT (k := 1) (by assumption) (by walk_at "dp") (by rfl) (by rfl) ?_ | refine Y.g_ixL (k := 1) (by assumption) (by walk_at "dp") (by rfl) (by rfl) ?_)
local macro_rules | `(tactic| walk_at "ix2") => `(tactic| first | refine Y.g_ixT (k := 2) (by assumption) (by walk_at "dp") (by rfl) (by rfl) ?_ | refine Y.g_ixL (k := 2) (by assumption) (by walk_at "dp") (by rfl) (by rfl) ?_)
local macro_rules | `(tactic| walk_at "da") => `(tactic| (repeat (first | exact L2.DpAll.nil | refine L2.DpAll.cons (by walk_at "dp") ?_)))

namespace A
open PySem PySem.Spec PyProof.Rows L2 Y
section
variable {P : Program} {w : World} {K : PySem.W.Frag} {mg : Str → Option Value} {base : Heap}
theorem ex_Clashing (T : Tx fa fn bx K mg) : ExC K (He.ga K "Clashing") "name" := exB_ok (Y.all_at T.more 0 rfl)
theorem ex_Misused (T : Tx fa fn bx K mg) : ExC K (He.ga K "Misused") "why" := exB_ok (Y.all_at T.more 1 rfl)
theorem ex_Oversized (T : Tx fa fn bx K mg) : ExC K (He.ga K "Oversized") "limit" := exB_ok (Y.all_at T.more 2 rfl)
theorem ex_Unknown (T : Tx fa fn bx K mg) : ExC K (He.ga K "Unknown") "name" := exB_ok (Y.all_at T.more 3 rfl)
theorem tup_ORIGIN (T : Tx fa fn bx K mg) : Y.tupB K (He.ga K "ORIGIN") [(0), (0), (0)] = true := Y.all_at T.more 4 rfl
theorem F_is_whole (T : Tx fa fn bx K mg) : FunD K "is_whole" "is_whole" (defArgs s_is_whole) (defBody s_is_whole) (defScope s_is_whole) [] [] (He.ga K "is_whole") (fdOf K (He.ga K "is_whole")) := T.fn 0 rfl
theorem cal_is_whole (T : Tx fa fn bx K mg) : Cal K mg "is_whole" ["value"] := ⟨T.glo 42, (F_is_whole T).kp, (F_is_whole T).bindsN fun _ _ _ _ _ _ us hl => match us, hl with | [_], _ => rfl⟩
theorem F_is_within (T : Tx fa fn bx K mg) : FunD K "is_within" "is_within" (defArgs s_is_within) (defBody s_is_within) (defScope s_is_within) [] [] (He.ga K "is_within") (fdOf K (He.ga K "is_within")) := T.fn 1 rfl
theorem cal_is_within (T : Tx fa fn bx K mg) : Cal K mg "is_within" ["value", "least", "greatest"] := ⟨T.glo 43, (F_is_within T).kp, (F_is_within T).bindsN fun _ _ _ _ _ _ us hl => match us, hl with | [_, _, _], _ => rfl⟩
theorem F_is_reading (T : Tx fa fn bx K mg) : FunD K "is_reading" "is_reading" (defArgs s_is_reading) (defBody s_is_reading) (defScope s_is_reading) [] [] (He.ga K "is_reading") (fdOf K (He.ga K "is_reading")) := T.fn 2 rfl
theorem cal_is_reading (T : Tx fa fn bx K mg) : Cal K mg "is_reading" ["value"] := ⟨T.glo 44, (F_is_reading T).kp, (F_is_reading T).bindsN fun _ _ _ _ _ _ us hl => match us, hl with | [_], _ => rfl⟩
theorem F__is_row (T : Tx fa fn bx K mg) : FunD K "_is_row" "_is_row" (defArgs s__is_row) (defBody s__is_row) (defScope s__is_row) [] [] (He.ga K "_is_row") (fdOf K (He.ga K "_is_row")) := T.fn 3 rfl
theorem cal__is_row (T : Tx fa fn bx K mg) : Cal K mg "_is_row" ["value"] := ⟨T.glo 45, (F__is_row T).kp, (F__is_row T).bindsN fun _ _ _ _ _ _ us hl => match us, hl with | [_], _ => rfl⟩
theorem F__is_rows (T : Tx fa fn bx K mg) : FunD K "_is_rows" "_is_rows" (defArgs s__is_rows) (defBody s__is_rows) (defScope s__is_rows) [] [] (He.ga K "_is_rows") (fdOf K (He.ga K "_is_rows")) := T.fn 4 rfl
theorem cal__is_rows (T : Tx fa fn bx K mg) : Cal K mg "_is_rows" ["value"] := ⟨T.glo 46, (F__is_rows T).kp, (F__is_rows T).bindsN fun _ _ _ _ _ _ us hl => match us, hl with | [_], _ => rfl⟩
theorem F_is_name (T : Tx fa fn bx K mg) : FunD K "is_name" "is_name" (defArgs s_is_name) (defBody s_is_name) (defScope s_is_name) [] [] (He.ga K "is_name") (fdOf K (He.ga K "is_name")) := T.fn 5 rfl
theorem cal_is_name (T : Tx fa fn bx K mg) : Cal K mg "is_name" ["value"] := ⟨T.glo 47, (F_is_name T).kp, (F_is_name T).bindsN fun _ _ _ _ _ _ us hl => match us, hl with | [_], _ => rfl⟩
theorem F_is_tuple_of (T : Tx fa fn bx K mg) : FunD K "is_tuple_of" "is_tuple_of" (defArgs s_is_tuple_of) (defBody s_is_tuple_of) (defScope s_is_tuple_of) [] [] (He.ga K "is_tuple_of") (fdOf K (He.ga K "is_tuple_of")) := T.fn 6 rfl
theorem cal_is_tuple_of (T : Tx fa fn bx K mg) : Cal K mg "is_tuple_of" ["value", "length"] := ⟨T.glo 48, (F_is_tuple_of T).kp, (F_is_tuple_of T).bindsN fun _ _ _ _ _ _ us hl => match us, hl with | [_, _], _ => rfl⟩
theorem F_is_view (T : Tx fa fn bx K mg) : FunD K "is_view" "is_view" (defArgs s_is_view) (defBody s_is_view) (defScope s_is_view) [] [] (He.ga K "is_view") (fdOf K (He.ga K "is_view")) := T.fn 7 rfl
theorem cal_is_view (T : Tx fa fn bx K mg) : Cal K mg "is_view" ["value"] := ⟨T.glo 49, (F_is_view T).kp, (F_is_view T).bindsN fun _ _ _ _ _ _ us hl => match us, hl with | [_], _ => rfl⟩
theorem F_is_link (T : Tx fa fn bx K mg) : FunD K "is_link" "is_link" (defArgs s_is_link) (defBody s_is_link) (defScope s_is_link) [] [] (He.ga K "is_link") (fdOf K (He.ga K "is_link")) := T.fn 8 rfl
theorem cal_is_link (T : Tx fa fn bx K mg) : Cal K mg "is_link" ["value"] := ⟨T.glo 50, (F_is_link T).kp, (F_is_link T).bindsN fun _ _ _ _ _ _ us hl => match us, hl with | [_], _ => rfl⟩
theorem F_Album___init__ (T : Tx fa fn bx K mg) : FunD K "__init__" "Album.__init__" (defArgs s_Album___init__) (defBody s_Album___init__) (defScope s_Album___init__) [] [] (He.ma K (He.ga K "Album") "__init__") (fdOf K (He.ma K (He.ga K "Album") "__init__")) := T.fn 9 rfl
theorem cal_Album___init__ (T : Tx fa fn bx K mg) : CalM K (He.ma K (He.ga K "Album") "__init__") ["self"] := ⟨(F_Album___init__ T).kp, (F_Album___init__ T).bindsN fun _ _ _ _ _ _ us hl => match us, hl with | [_], _ => rfl⟩
theorem F_Unknown___init__ (T : Tx fa fn bx K mg) : FunD K "__init__" "Unknown.__init__" (defArgs s_Unknown___init__) (defBody s_Unknown___init__) (defScope s_Unknown___init__) [] [] (He.ma K (He.ga K "Unknown") "__init__") (fdOf K (He.ma K (He.ga K "Unknown") "__init__")) := T.fn 10 rfl
theorem cal_Unknown___init__ (T : Tx fa fn bx K mg) : CalM K (He.ma K (He.ga K "Unknown") "__init__") ["self", "name"] := ⟨(F_Unknown___init__ T).kp, (F_Unknown___init__ T).bindsN fun _ _ _ _ _ _ us hl => match us, hl with | [_, _], _ => rfl⟩
theorem F_Album__check_known (T : Tx fa fn bx K mg) : FunD K "_check_known" "Album._check_known" (defArgs s_Album__check_known) (defBody s_Album__check_known) (defScope s_Album__check_known) [] [] (He.ma K (He.ga K "Album") "_check_known") (fdOf K (He.ma K (He.ga K "Album") "_check_known")) := T.fn 11 rfl
theorem cal_Album__check_known (T : Tx fa fn bx K mg) : CalM K (He.ma K (He.ga K "Album") "_check_known") ["self", "name"] := ⟨(F_Album__check_known T).kp, (F_Album__check_known T).bindsN fun _ _ _ _ _ _ us hl => match us, hl with | [_, _], _ => rfl⟩
theorem F_Misused___init__ (T : Tx fa fn bx K mg) : FunD K "__init__" "Misused.__init__" (defArgs s_Misused___init__) (defBody s_Misused___init__) (defScope s_Misused___init__) [] [] (He.ma K (He.ga K "Misused") "__init__") (fdOf K (He.ma K (He.ga K "Misused") "__init__")) := T.fn 12 rfl
theorem cal_Misused___init__ (T : Tx fa fn bx K mg) : CalM K (He.ma K (He.ga K "Misused") "__init__") ["self", "why"] := ⟨(F_Misused___init__ T).kp, (F_Misused___init__ T).bindsN fun _ _ _ _ _ _ us hl => match us, hl with | [_, _], _ => rfl⟩
theorem F_Oversized___init__ (T : Tx fa fn bx K mg) : FunD K "__init__" "Oversized.__init__" (defArgs s_Oversized___init__) (defBody s_Oversized___init__) (defScope s_Oversized___init__) [] [] (He.ma K (He.ga K "Oversized") "__init__") (fdOf K (He.ma K (He.ga K "Oversized") "__init__")) := T.fn 13 rfl
theorem cal_Oversized___init__ (T : Tx fa fn bx K mg) : CalM K (He.ma K (He.ga K "Oversized") "__init__") ["self", "limit"] := ⟨(F_Oversized___init__ T).kp, (F_Oversized___init__ T).bindsN fun _ _ _ _ _ _ us hl => match us, hl with | [_, _], _ => rfl⟩
theorem F_Album_add_link (T : Tx fa fn bx K mg) : FunD K "add_link" "Album.add_link" (defArgs s_Album_add_link) (defBody s_Album_add_link) (defScope s_Album_add_link) [] [] (He.ma K (He.ga K "Album") "add_link") (fdOf K (He.ma K (He.ga K "Album") "add_link")) := T.fn 14 rfl
theorem cal_Album_add_link (T : Tx fa fn bx K mg) : CalM K (He.ma K (He.ga K "Album") "add_link") ["self", "link"] := ⟨(F_Album_add_link T).kp, (F_Album_add_link T).bindsN fun _ _ _ _ _ _ us hl => match us, hl with | [_, _], _ => rfl⟩
theorem F_Clashing___init__ (T : Tx fa fn bx K mg) : FunD K "__init__" "Clashing.__init__" (defArgs s_Clashing___init__) (defBody s_Clashing___init__) (defScope s_Clashing___init__) [] [] (He.ma K (He.ga K "Clashing") "__init__") (fdOf K (He.ma K (He.ga K "Clashing") "__init__")) := T.fn 15 rfl
theorem cal_Clashing___init__ (T : Tx fa fn bx K mg) : CalM K (He.ma K (He.ga K "Clashing") "__init__") ["self", "name"] := ⟨(F_Clashing___init__ T).kp, (F_Clashing___init__ T).bindsN fun _ _ _ _ _ _ us hl => match us, hl with | [_, _], _ => rfl⟩
theorem F_Album_add_view (T : Tx fa fn bx K mg) : FunD K "add_view" "Album.add_view" (defArgs s_Album_add_view) (defBody s_Album_add_view) (defScope s_Album_add_view) [] [] (He.ma K (He.ga K "Album") "add_view") (fdOf K (He.ma K (He.ga K "Album") "add_view")) := T.fn 16 rfl
theorem cal_Album_add_view (T : Tx fa fn bx K mg) : CalM K (He.ma K (He.ga K "Album") "add_view") ["self", "view"] := ⟨(F_Album_add_view T).kp, (F_Album_add_view T).bindsN fun _ _ _ _ _ _ us hl => match us, hl with | [_, _], _ => rfl⟩
theorem F__law_wide (T : Tx fa fn bx K mg) : FunD K "_law_wide" "_law_wide" (defArgs s__law_wide) (defBody s__law_wide) (defScope s__law_wide) [] [] (He.ga K "_law_wide") (fdOf K (He.ga K "_law_wide")) := T.fn 17 rfl
theorem cal__law_wide (T : Tx fa fn bx K mg) : Cal K mg "_law_wide" ["script", "k"] := ⟨T.glo 51, (F__law_wide T).kp, (F__law_wide T).bindsN fun _ _ _ _ _ _ us hl => match us, hl with | [_, _], _ => rfl⟩
theorem F__law_take (T : Tx fa fn bx K mg) : FunD K "_law_take" "_law_take" (defArgs s__law_take) (defBody s__law_take) (defScope s__law_take) [] [] (He.ga K "_law_take") (fdOf K (He.ga K "_law_take")) := T.fn 18 rfl
theorem cal__law_take (T : Tx fa fn bx K mg) : Cal K mg "_law_take" ["pool", "most"] := ⟨T.glo 52, (F__law_take T).kp, (F__law_take T).bindsN fun _ _ _ _ _ _ us hl => match us, hl with | [_, _], _ => rfl⟩
theorem F__law_name (T : Tx fa fn bx K mg) : FunD K "_law_name" "_law_name" (defArgs s__law_name) (defBody s__law_name) (defScope s__law_name) [] [] (He.ga K "_law_name") (fdOf K (He.ga K "_law_name")) := T.fn 19 rfl
theorem cal__law_name (T : Tx fa fn bx K mg) : Cal K mg "_law_name" ["pool"] := ⟨T.glo 53, (F__law_name T).kp, (F__law_name T).bindsN fun _ _ _ _ _ _ us hl => match us, hl with | [_], _ => rfl⟩
theorem F__law_names (T : Tx fa fn bx K mg) : FunD K "_law_names" "_law_names" (defArgs s__law_names) (defBody s__law_names) (defScope s__law_names) [] [] (He.ga K "_law_names") (fdOf K (He.ga K "_law_names")) := T.fn 20 rfl
theorem cal__law_names (T : Tx fa fn bx K mg) : Cal K mg "_law_names" ["pool", "count"] := ⟨T.glo 54, (F__law_names T).kp, (F__law_names T).bindsN fun _ _ _ _ _ _ us hl => match us, hl with | [_, _], _ => rfl⟩
theorem F__law_pool (T : Tx fa fn bx K mg) : FunD K "_law_pool" "_law_pool" (defArgs s__law_pool) (defBody s__law_pool) (defScope s__law_pool) [] [] (He.ga K "_law_pool") (fdOf K (He.ga K "_law_pool")) := T.fn 21 rfl
theorem cal__law_pool (T : Tx fa fn bx K mg) : Cal K mg "_law_pool" ["script"] := ⟨T.glo 55, (F__law_pool T).kp, (F__law_pool T).bindsN fun _ _ _ _ _ _ us hl => match us, hl with | [_], _ => rfl⟩
theorem F_Album_names (T : Tx fa fn bx K mg) : FunD K "names" "Album.names" (defArgs s_Album_names) (defBody s_Album_names) (defScope s_Album_names) [] [] (He.ma K (He.ga K "Album") "names") (fdOf K (He.ma K (He.ga K "Album") "names")) := T.fn 22 rfl
theorem cal_Album_names (T : Tx fa fn bx K mg) : CalM K (He.ma K (He.ga K "Album") "names") ["self"] := ⟨(F_Album_names T).kp, (F_Album_names T).bindsN fun _ _ _ _ _ _ us hl => match us, hl with | [_], _ => rfl⟩
theorem F_Album_links (T : Tx fa fn bx K mg) : FunD K "links" "Album.links" (defArgs s_Album_links) (defBody s_Album_links) (defScope s_Album_links) [] [] (He.ma K (He.ga K "Album") "links") (fdOf K (He.ma K (He.ga K "Album") "links")) := T.fn 23 rfl
theorem cal_Album_links (T : Tx fa fn bx K mg) : CalM K (He.ma K (He.ga K "Album") "links") ["self"] := ⟨(F_Album_links T).kp, (F_Album_links T).bindsN fun _ _ _ _ _ _ us hl => match us, hl with | [_], _ => rfl⟩
theorem F__links_between (T : Tx fa fn bx K mg) : FunD K "_links_between" "_links_between" (defArgs s__links_between) (defBody s__links_between) (defScope s__links_between) [] [] (He.ga K "_links_between") (fdOf K (He.ga K "_links_between")) := T.fn 24 rfl
theorem cal__links_between (T : Tx fa fn bx K mg) : Cal K mg "_links_between" ["album", "names"] := ⟨T.glo 56, (F__links_between T).kp, (F__links_between T).bindsN fun _ _ _ _ _ _ us hl => match us, hl with | [_, _], _ => rfl⟩
theorem F__steps_at (T : Tx fa fn bx K mg) : FunD K "_steps_at" "_steps_at" (defArgs s__steps_at) (defBody s__steps_at) (defScope s__steps_at) [] [] (He.ga K "_steps_at") (fdOf K (He.ga K "_steps_at")) := T.fn 25 rfl
theorem cal__steps_at (T : Tx fa fn bx K mg) : Cal K mg "_steps_at" ["names", "links"] := ⟨T.glo 57, (F__steps_at T).kp, (F__steps_at T).bindsN fun _ _ _ _ _ _ us hl => match us, hl with | [_, _], _ => rfl⟩
theorem F__place_behind (T : Tx fa fn bx K mg) : FunD K "_place_behind" "_place_behind" (defArgs s__place_behind) (defBody s__place_behind) (defScope s__place_behind) [] [] (He.ga K "_place_behind") (fdOf K (He.ga K "_place_behind")) := T.fn 26 rfl
theorem cal__place_behind (T : Tx fa fn bx K mg) : Cal K mg "_place_behind" ["place", "link", "forward"] := ⟨T.glo 58, (F__place_behind T).kp, (F__place_behind T).bindsN fun _ _ _ _ _ _ us hl => match us, hl with | [_, _, _], _ => rfl⟩
theorem F__walks_from (T : Tx fa fn bx K mg) : FunD K "_walks_from" "_walks_from" (defArgs s__walks_from) (defBody s__walks_from) (defScope s__walks_from) [] [] (He.ga K "_walks_from") (fdOf K (He.ga K "_walks_from")) := T.fn 27 rfl
theorem cal__walks_from (T : Tx fa fn bx K mg) : Cal K mg "_walks_from" ["start", "links", "steps"] := ⟨T.glo 59, (F__walks_from T).kp, (F__walks_from T).bindsN fun _ _ _ _ _ _ us hl => match us, hl with | [_, _, _], _ => rfl⟩
theorem F__law_reading (T : Tx fa fn bx K mg) : FunD K "_law_reading" "_law_reading" (defArgs s__law_reading) (defBody s__law_reading) (defScope s__law_reading) [] [] (He.ga K "_law_reading") (fdOf K (He.ga K "_law_reading")) := T.fn 28 rfl
theorem cal__law_reading (T : Tx fa fn bx K mg) : Cal K mg "_law_reading" ["pool"] := ⟨T.glo 60, (F__law_reading T).kp, (F__law_reading T).bindsN fun _ _ _ _ _ _ us hl => match us, hl with | [_], _ => rfl⟩
theorem F__law_rows (T : Tx fa fn bx K mg) : FunD K "_law_rows" "_law_rows" (defArgs s__law_rows) (defBody s__law_rows) (defScope s__law_rows) [] [] (He.ga K "_law_rows") (fdOf K (He.ga K "_law_rows")) := T.fn 29 rfl
theorem cal__law_rows (T : Tx fa fn bx K mg) : Cal K mg "_law_rows" ["pool", "most"] := ⟨T.glo 61, (F__law_rows T).kp, (F__law_rows T).bindsN fun _ _ _ _ _ _ us hl => match us, hl with | [_, _], _ => rfl⟩
theorem F_groups (T : Tx fa fn bx K mg) : FunD K "groups" "groups" (defArgs s_groups) (defBody s_groups) (defScope s_groups) [] [] (He.ga K "groups") (fdOf K (He.ga K "groups")) := T.fn 30 rfl
theorem cal_groups (T : Tx fa fn bx K mg) : Cal K mg "groups" ["album"] := ⟨T.glo 62, (F_groups T).kp, (F_groups T).bindsN fun _ _ _ _ _ _ us hl => match us, hl with | [_], _ => rfl⟩
theorem F_joined (T : Tx fa fn bx K mg) : FunD K "joined" "joined" (defArgs s_joined) (defBody s_joined) (defScope s_joined) [] [] (He.ga K "joined") (fdOf K (He.ga K "joined")) := T.fn 31 rfl
theorem cal_joined (T : Tx fa fn bx K mg) : Cal K mg "joined" ["names", "answers"] := ⟨T.glo 63, (F_joined T).kp, (F_joined T).bindsN fun _ _ _ _ _ _ us hl => match us, hl with | [_, _], _ => rfl⟩
theorem F_Album_index (T : Tx fa fn bx K mg) : FunD K "index" "Album.index" (defArgs s_Album_index) (defBody s_Album_index) (defScope s_Album_index) [] [] (He.ma K (He.ga K "Album") "index") (fdOf K (He.ma K (He.ga K "Album") "index")) := T.fn 32 rfl
theorem cal_Album_index (T : Tx fa fn bx K mg) : CalM K (He.ma K (He.ga K "Album") "index") ["self", "name"] := ⟨(F_Album_index T).kp, (F_Album_index T).bindsN fun _ _ _ _ _ _ us hl => match us, hl with | [_, _], _ => rfl⟩
theorem F__backwards (T : Tx fa fn bx K mg) : FunD K "_backwards" "_backwards" (defArgs s__backwards) (defBody s__backwards) (defScope s__backwards) [] [] (He.ga K "_backwards") (fdOf K (He.ga K "_backwards")) := T.fn 33 rfl
theorem cal__backwards (T : Tx fa fn bx K mg) : Cal K mg "_backwards" ["way"] := ⟨T.glo 64, (F__backwards T).kp, (F__backwards T).bindsN fun _ _ _ _ _ _ us hl => match us, hl with | [_], _ => rfl⟩
theorem F__rings_from (T : Tx fa fn bx K mg) : FunD K "_rings_from" "_rings_from" (defArgs s__rings_from) (defBody s__rings_from) (defScope s__rings_from) [] [] (He.ga K "_rings_from") (fdOf K (He.ga K "_rings_from")) := T.fn 34 rfl
theorem cal__rings_from (T : Tx fa fn bx K mg) : Cal K mg "_rings_from" ["start", "links", "steps"] := ⟨T.glo 65, (F__rings_from T).kp, (F__rings_from T).bindsN fun _ _ _ _ _ _ us hl => match us, hl with | [_, _, _], _ => rfl⟩
theorem F_lay_group (T : Tx fa fn bx K mg) : FunD K "lay_group" "lay_group" (defArgs s_lay_group) (defBody s_lay_group) (defScope s_lay_group) [] [] (He.ga K "lay_group") (fdOf K (He.ga K "lay_group")) := T.fn 35 rfl
theorem cal_lay_group (T : Tx fa fn bx K mg) : Cal K mg "lay_group" ["album", "names"] := ⟨T.glo 66, (F_lay_group T).kp, (F_lay_group T).bindsN fun _ _ _ _ _ _ us hl => match us, hl with | [_, _], _ => rfl⟩
theorem F_lay (T : Tx fa fn bx K mg) : FunD K "lay" "lay" (defArgs s_lay) (defBody s_lay) (defScope s_lay) [] [] (He.ga K "lay") (fdOf K (He.ga K "lay")) := T.fn 36 rfl
theorem cal_lay (T : Tx fa fn bx K mg) : Cal K mg "lay" ["album"] := ⟨T.glo 67, (F_lay T).kp, (F_lay T).bindsN fun _ _ _ _ _ _ us hl => match us, hl with | [_], _ => rfl⟩
theorem F_readings (T : Tx fa fn bx K mg) : FunD K "readings" "readings" (defArgs s_readings) (defBody s_readings) (defScope s_readings) [] [] (He.ga K "readings") (fdOf K (He.ga K "readings")) := T.fn 37 rfl
theorem cal_readings (T : Tx fa fn bx K mg) : Cal K mg "readings" ["view"] := ⟨T.glo 68, (F_readings T).kp, (F_readings T).bindsN fun _ _ _ _ _ _ us hl => match us, hl with | [_], _ => rfl⟩
theorem F_link_of (T : Tx fa fn bx K mg) : FunD K "link_of" "link_of" (defArgs s_link_of) (defBody s_link_of) (defScope s_link_of) [] [] (He.ga K "link_of") (fdOf K (He.ga K "link_of")) := T.fn 38 rfl
theorem cal_link_of (T : Tx fa fn bx K mg) : Cal K mg "link_of" ["one", "two", "fit"] := ⟨T.glo 69, (F_link_of T).kp, (F_link_of T).bindsN fun _ _ _ _ _ _ us hl => match us, hl with | [_, _, _], _ => rfl⟩
theorem F__tallies (T : Tx fa fn bx K mg) : FunD K "_tallies" "_tallies" (defArgs s__tallies) (defBody s__tallies) (defScope s__tallies) [] [] (He.ga K "_tallies") (fdOf K (He.ga K "_tallies")) := T.fn 39 rfl
theorem cal__tallies (T : Tx fa fn bx K mg) : Cal K mg "_tallies" ["one", "two"] := ⟨T.glo 70, (F__tallies T).kp, (F__tallies T).bindsN fun _ _ _ _ _ _ us hl => match us, hl with | [_, _], _ => rfl⟩
theorem F_fits (T : Tx fa fn bx K mg) : FunD K "fits" "fits" (defArgs s_fits) (defBody s_fits) (defScope s_fits) [] [] (He.ga K "fits") (fdOf K (He.ga K "fits")) := T.fn 40 rfl
theorem kb_fits (T : Tx fa fn bx K mg) : KBn K (fdOf K (He.ga K "fits")) ["one", "two", "reach", "errors", "least"] 2 ["reach", "errors", "least"] (fun us ws => us ++ ws) (fun vs zs => vs ++ zs) := Y.kbn_of (F_fits T) (fun _ _ _ _ _ _ us ws h1 h2 => match us, h1, ws, h2 with | [_, _], _, [_, _, _], _ => rfl)
theorem calk_fits (T : Tx fa fn bx K mg) : mg "fits" = some (.ref (He.ga K "fits")) ∧ PySem.W.keepIn K (.ref (He.ga K "fits")) = true := ⟨T.glo 71, (F_fits T).kp⟩
theorem F_law (T : Tx fa fn bx K mg) : FunD K "law" "law" (defArgs s_law) (defBody s_law) (defScope s_law) [] [] (He.ga K "law") (fdOf K (He.ga K "law")) := T.fn 41 rfl
theorem cal_law (T : Tx fa fn bx K mg) : Cal K mg "law" ["script"] := ⟨T.glo 72, (F_law T).kp, (F_law T).bindsN fun _ _ _ _ _ _ us hl => match us, hl with | [_], _ => rfl⟩
def isWhole (d : PyData) : Bool := match d with
  | .int _ => true
  | _ => false
def sp_is_whole (K : PySem.W.Frag) : Sp := fun vs H Q _ => ∃ G v d, vs = [v] ∧ Y.Ex G H ∧ Dp K G v d ∧ Q (.bl (isWhole d)) H
theorem ok_is_whole (T : Tx fa fn bx K mg) : FnOk P w K mg base CX0 1 (He.ga K "is_whole") (fdOf K (He.ga K "is_whole")) ["value"] (sp_is_whole K) := by
  refine FunD.ok (F_is_whole T) sc_is_whole (fun vs H Q E h => ?_) (fun cdv A outer s H vs Q E hr h => ?_)
  · obtain ⟨_, _, _, rfl, _⟩ := h
    rfl
  · obtain ⟨G, v, d, rfl, e, hd, q⟩ := h
    refine ⟨_, PSs.nox ((pss_one (ps_ret (pe_and (pe_callB (Y.call_isiK (K := K) rfl) (by rfl) (T.free 0) (by decide +kernel) (pa_cons (pv 0) (pa_cons (pe_bltn (v := .ty "int") (by rfl) (T.free 2) (by decide +kernel) rfl) pa_nil))) (pe_one (pe_not (pe_callB (Y.call_isiK (K := K) rfl) (by rfl) (T.free 0) (by decide +kernel) (pa_cons (pv 0) (pa_cons (pe_bltn (v := .ty "bool") (by rfl) (T.free 1) (by decide +kernel) rfl) pa_nil))))))))), ?_⟩
    cases d with
    | dict _ => exact (dp_nodict hd).elim
    | int i =>
      cases dp_int hd
      walk_at "sx"
      walk_at "isi"
      walk_at "sx"
      walk_at "isi"
      walk_at "sx"
      exact q
    | _ =>
      walk_at "sx"
      walk_at "isi"
      walk_at "sx"
      try (walk_at "isi"; walk_at "sx")
      exact q
def within (d : PyData) (lo hi : Int) : Bool := match d with
  | .int i => decide (lo ≤ i ∧ i ≤ hi)
  | _ => false
def sp_is_within (K : PySem.W.Frag) : Sp := fun vs H Q _ => ∃ G v d lo hi, vs = [v, .int lo, .int hi] ∧ Y.Ex G H ∧ Dp K G v d ∧ Q (.bl (within d lo hi)) H
theorem ok_is_within (T : Tx fa fn bx K mg) : FnOk P w K mg base CX0 2 (He.ga K "is_within") (fdOf K (He.ga K "is_within")) ["value", "least", "greatest"] (sp_is_within K) := by
  refine FunD.ok (F_is_within T) sc_is_within (fun vs H Q E h => ?_) (fun cdv A outer s H vs Q E hr h => ?_)
  · obtain ⟨_, _, _, _, _, rfl, _⟩ := h
    rfl
  · obtain ⟨G, v, d, lo, hi, rfl, e, hd, q⟩ := h
    refine ⟨_, PSs.nox ((pss_one (ps_ret (pe_and (Y.pe_callC (ok_is_whole T) (cal_is_whole T) (hr.mono (by decide)) (by rfl) pass0 (pa_cons (pv 0) pa_nil)) (pe_one (pe_chain op_le op_le (pv 1) (pv 0) (pv 2))))))), ?_⟩
    walk_at "sx"
    refine ⟨G, v, d, rfl, e, hd, ?_⟩
    cases d with
    | dict _ => exact (dp_nodict hd).elim
    | int i =>
      cases dp_int hd
      refine ⟨true, rfl, ?_⟩
      walk_at "sx"
      refine g_dec (fun h1 => ?_) (fun h1 => ?_) <;> walk_at "sx" <;> exact q_bl q (by simp [within, h1])
    | _ =>
      refine ⟨false, rfl, ?_⟩
      walk_at "sx"
      exact q
def isRd (d : PyData) : Bool := match d with
  | .none => true
  | .int i => decide (0 ≤ i ∧ i ≤ 999)
  | _ => false
def sp_is_reading (K : PySem.W.Frag) : Sp := fun vs H Q _ => ∃ G v d, vs = [v] ∧ Y.Ex G H ∧ Dp K G v d ∧ Q (.bl (isRd d)) H
theorem ok_is_reading (T : Tx fa fn bx K mg) : FnOk P w K mg base CX0 3 (He.ga K "is_reading") (fdOf K (He.ga K "is_reading")) ["value"] (sp_is_reading K) := by
  refine FunD.ok (F_is_reading T) sc_is_reading (fun vs H Q E h => ?_) (fun cdv A outer s H vs Q E hr h => ?_)
  · obtain ⟨_, _, _, rfl, _⟩ := h
    rfl
  · obtain ⟨G, v, d, rfl, e, hd, q⟩ := h
    refine ⟨_, PSs.nox ((pss_one (ps_ret (pe_or (pe_cmp (pc_isN (pv 0))) (pe_one (Y.pe_callC (ok_is_within T) (cal_is_within T) (hr.mono (by decide)) (by rfl) pass0 (pa_cons (pv 0) (pa_cons pe_int (pa_cons (pe_gint (T.int 10)) pa_nil))))))))), ?_⟩
    walk_at "sx"
    refine g_dec (fun h1 => ?_) (fun h1 => ?_) <;> walk_at "sx"
    · rw [dp_non_iff hd] at h1
      subst h1
      exact q
    · rw [dp_non_iff hd] at h1
      refine ⟨G, v, d, 0, 999, rfl, e, hd, q_bl q ?_⟩
      cases d <;> first | rfl | exact absurd rfl h1
def rowOk (d : PyData) : Bool := match d with
  | .tuple xs => decide (1 ≤ xs.length ∧ xs.length ≤ 12) && xs.all isRd
  | _ => false
def sp__is_row (K : PySem.W.Frag) : Sp := fun vs H Q _ => ∃ G v d, vs = [v] ∧ Y.Ex G H ∧ Dp K G v d ∧ ∀ G' H', Nx [] G H G' H' → Q (.bl (rowOk d)) H'
theorem ok__is_row (T : Tx fa fn bx K mg) : FnOk P w K mg base CX0 4 (He.ga K "_is_row") (fdOf K (He.ga K "_is_row")) ["value"] (sp__is_row K) := by
  refine FunD.ok (F__is_row T) sc__is_row (fun vs H Q E h => ?_) (fun cdv A outer s H vs Q E hr h => ?_)
  · obtain ⟨_, _, _, rfl, _⟩ := h
    rfl
  · obtain ⟨G, v, d, rfl, e, hd, q⟩ := h
    refine ⟨_, PSs.nox ((pss_cons (ps_if (PW.pt (pw_or (pt_not (pt_val (pe_callB (Y.call_isiK (K := K) rfl) (by rfl) (T.free 0) (by decide +kernel) (pa_cons (pv 0) (pa_cons (pe_bltn (v := .ty "tuple") (by rfl) (T.free 4) (by decide +kernel) rfl) pa_nil))))) (pw_or1 (pt_not (pt_chain op_le op_le pe_int (pe_callB (Y.call_lenK (K := K) rfl) (by rfl) (T.free 3) (by decide +kernel) (pa_cons (pv 0) pa_nil)) (pe_gint (T.int 11)))))))
      (pss_one (ps_ret pe_bl))
      pss_nil)
      (pss_one (ps_ret (pe_callB (Y.cr_allK (K := K) rfl rfl) (by rfl) (T.free 7) (by decide +kernel) (pa_cons (pe_lc (own := [("reading", 1)]) (tt := tYes) rfl sc__is_row.nd (Y.pi_tupK (K := K) rfl (pv 0)) (blkOk_by (own := [("reading", 1)]) (by kernel_rfl)) (fun _ _ _ _ _ => (pg_name (i := 1) sc__is_row.nd rfl (Or.inl rfl))) (fun _ _ _ _ _ => pts_nil) (fun _ _ _ _ _ => (Y.pe_callC (ok_is_reading T) (cal_is_reading T) (hr.mono (by decide)) (by rfl) pass0 (pa_cons (pv 1) pa_nil)))) pa_nil)))))), ?_⟩
    cases d with
    | dict _ => exact (dp_nodict hd).elim
    | tuple xs =>
      walk_at "sx"
      walk_at "isi"
      walk_at "sx"
      walk_at "len"
      walk_at "sx"
      refine g_dec (fun h1 => ?_) (fun h1 => ?_) <;> walk_at "sx"
      · refine g_ndec (fun h2 => ?_) (fun h2 => ?_) <;> walk_at "sx"
        · refine q_bl (q G H (Nx.refl e)) ?_
          simp only [rowOk]
          rw [decide_eq_false (by omega)]
          rfl
        · refine g_walkT e hd fun a ha S => ?_
          intro A hA
          refine g_lcMap (K := K) (M := []) (es := (xs.map isRd).map .bool) (S []) e hA (by simp) (szl (by omega)) (by simp) (fun i d d' v G' H' hi hi' dv n QE k => ?_) (fun G' H' ys n g h da => ?_)
          · have hd' : d' = .bool (isRd d) := by
              simp only [List.getElem?_map, hi, Option.map_some, Option.some.injEq] at hi'
              exact hi'.symm
            subst hd'
            walk_at "sx"
            exact ⟨G', v, d, rfl, n.gh, dv, k _ _ _ (Nx.refl n.gh) (.bl _)⟩
          · refine g_allM h da ?_
            refine q_bl (q G' H' n) ?_
            simp only [rowOk]
            rw [decide_eq_true (by omega), List.all_map]
            rfl
      · refine q_bl (q G H (Nx.refl e)) ?_
        simp only [rowOk]
        rw [decide_eq_false (by omega)]
        rfl
    | _ =>
      walk_at "sx"
      walk_at "isi"
      walk_at "sx"
      exact q G H (Nx.refl e)
def sameLen (xs : List PyData) : Bool := match xs with
  | [] => true
  | r :: _ => xs.all fun x => decide (dlen x = dlen r)
def rowsOk (d : PyData) : Bool := match d with
  | .tuple xs => decide (1 ≤ xs.length ∧ xs.length ≤ 12) && (xs.all rowOk && sameLen xs)
  | _ => false
theorem rowOk_tup {d : PyData} (h : rowOk d = true) : ∃ xs, d = .tuple xs ∧ 1 ≤ xs.length ∧ xs.length ≤ 12 ∧ xs.all isRd = true := by
  cases d with
  | tuple xs =>
    simp only [rowOk, Bool.and_eq_true, decide_eq_true_eq] at h
    exact ⟨xs, rfl, h.1.1, h.1.2, h.2⟩
  | _ => cases h
def sp__is_rows (K : PySem.W.Frag) : Sp := fun vs H Q _ => ∃ G v d, vs = [v] ∧ Y.Ex G H ∧ Dp K G v d ∧ ∀ G' H', Nx [] G H G' H' → Q (.bl (rowsOk d)) H'
theorem ok__is_rows (T : Tx fa fn bx K mg) : FnOk P w K mg base CX0 5 (He.ga K "_is_rows") (fdOf K (He.ga K "_is_rows")) ["value"] (sp__is_rows K) := by
  refine FunD.ok (F__is_rows T) sc__is_rows (fun vs H Q E h => ?_) (fun cdv A outer s H vs Q E hr h => ?_)
  · obtain ⟨_, _, _, rfl, _⟩ := h
    rfl
  · obtain ⟨G, v, d, rfl, e, hd, q⟩ := h
    refine ⟨_, PSs.nox ((pss_cons (ps_if (PW.pt (pw_or (pt_not (pt_val (pe_callB (Y.call_isiK (K := K) rfl) (by rfl) (T.free 0) (by decide +kernel) (pa_cons (pv 0) (pa_cons (pe_bltn (v := .ty "tuple") (by rfl) (T.free 4) (by decide +kernel) rfl) pa_nil))))) (pw_or1 (pt_not (pt_chain op_le op_le pe_int (pe_callB (Y.call_lenK (K := K) rfl) (by rfl) (T.free 3) (by decide +kernel) (pa_cons (pv 0) pa_nil)) (pe_gint (T.int 12)))))))
      (pss_one (ps_ret pe_bl))
      pss_nil)
      (pss_cons (ps_if (pt_not (pt_val (pe_callB (Y.cr_allK (K := K) rfl rfl) (by rfl) (T.free 7) (by decide +kernel) (pa_cons (pe_lc (own := [("row", 1)]) (tt := tYes) rfl sc__is_rows.nd (Y.pi_tupK (K := K) rfl (pv 0)) (blkOk_by (own := [("row", 1)]) (by kernel_rfl)) (fun _ _ _ _ _ => (pg_name (i := 1) sc__is_rows.nd rfl (Or.inl rfl))) (fun _ _ _ _ _ => pts_nil) (fun _ _ _ _ _ => (Y.pe_callC (ok__is_row T) (cal__is_row T) (hr.mono (by decide)) (by rfl) pass0 (pa_cons (pv 1) pa_nil)))) pa_nil))))
      (pss_one (ps_ret pe_bl))
      pss_nil)
      (pss_one (ps_ret (pe_callB (Y.cr_allK (K := K) rfl rfl) (by rfl) (T.free 7) (by decide +kernel) (pa_cons (pe_lc (own := [("row", 1)]) (tt := tYes) rfl sc__is_rows.nd (Y.pi_tupK (K := K) rfl (pv 0)) (blkOk_by (own := [("row", 1)]) (by kernel_rfl)) (fun _ _ _ _ _ => (pg_name (i := 1) sc__is_rows.nd rfl (Or.inl rfl))) (fun _ _ _ _ _ => pts_nil) (fun _ _ _ _ _ => (pe_cmpR op_eq (pe_callB (Y.call_lenK (K := K) rfl) (by rfl) (T.free 3) (by decide +kernel) (pa_cons (pv 1) pa_nil)) (pe_callB (Y.call_lenK (K := K) rfl) (by rfl) (T.free 3) (by decide +kernel) (pa_cons (pe_ix (Y.ix_tupK (K := K) rfl) (pv 0) pe_int (fun _ _ => rfl)) pa_nil)) (nomark _)))) pa_nil))))))), ?_⟩
    cases d with
    | dict _ => exact (dp_nodict hd).elim
    | tuple xs =>
      walk_at "sx"
      walk_at "isi"
      walk_at "sx"
      walk_at "len"
      walk_at "sx"
      refine g_dec (fun h1 => ?_) (fun h1 => ?_) <;> walk_at "sx"
      · refine g_ndec (fun h2 => ?_) (fun h2 => ?_) <;> walk_at "sx"
        · refine q_bl (q G H (Nx.refl e)) ?_
          simp only [rowsOk]
          rw [decide_eq_false (by omega)]
          rfl
        · have h12 : 1 ≤ xs.length ∧ xs.length ≤ 12 := by omega
          refine g_walkT e hd fun a ha S => ?_
          intro A hA
          refine g_lcMap (K := K) (M := []) (es := (xs.map rowOk).map .bool) (S []) e hA (by simp) (szl (by omega)) (by simp) (fun i d d' v G' H' hi hi' dv n QE k => ?_) (fun G' H' ys n g h da => ?_)
          · have hd' : d' = .bool (rowOk d) := by
              simp only [List.getElem?_map, hi, Option.map_some, Option.some.injEq] at hi'
              exact hi'.symm
            subst hd'
            walk_at "sx"
            exact ⟨G', v, d, rfl, n.gh, dv, fun G2 H2 n2 => k _ _ _ n2 (.bl _)⟩
          · walk_at "sx"
            refine g_allM h da ?_
            walk_at "sx"
            have hall : (xs.map rowOk).all id = xs.all rowOk := by rw [List.all_map]; rfl
            rw [hall]
            cases hr : xs.all rowOk with
            | false =>
              walk_at "sx"
              refine q_bl (q G' H' n) ?_
              simp only [rowsOk]
              rw [hr, decide_eq_true h12]
              rfl
            | true =>
              walk_at "sx"
              have hd1 : Dp K G' v (.tuple xs) := dp_mono n.gg hd
              refine g_walkT n.gh hd1 fun a' ha' S' => ?_
              intro B hB
              have hx : ∃ r rs, xs = r :: rs := by
                cases xs with
                | nil => simp at h12
                | cons r rs => exact ⟨r, rs, rfl⟩
              obtain ⟨r, rs, hrs⟩ := hx
              have row : ∀ {i : Nat} {d : PyData}, xs[i]? = some d → ∃ cs, d = .tuple cs := fun {i d} hi => by
                obtain ⟨cs, h1, _⟩ := rowOk_tup (List.all_eq_true.mp hr d (List.mem_of_getElem? hi))
                exact ⟨cs, h1⟩
              refine g_lcMap (K := K) (M := []) (es := (xs.map fun x => decide (dlen x = dlen r)).map .bool) (S' []) n.gh hB (by simp) (szl (by omega)) (by simp) (fun i d d' w G2 H2 hi hi' dv n2 QE k => ?_) (fun G2 H2 ys n2 g h da => ?_)
              · have hd' : d' = .bool (decide (dlen d = dlen r)) := by
                  simp only [List.getElem?_map, hi, Option.map_some, Option.some.injEq] at hi'
                  exact hi'.symm
                subst hd'
                obtain ⟨cs, rfl⟩ := row hi
                obtain ⟨c0, rfl⟩ := row (i := 0) (d := r) (by rw [hrs]; rfl)
                have e2 := n2.gh
                have hd2 : Dp K G2 v (.tuple xs) := dp_mono n2.gg hd1
                walk_at "sx"
                walk_at "len"
                walk_at "sx"
                refine g_ixT (k := 0) e2 hd2 (by rw [hrs]; rfl) rfl fun u hu => ?_
                walk_at "sx"
                walk_at "len"
                walk_at "sx"
                refine k _ _ _ (Nx.refl e2) ?_
                rw [dec_ni]
                exact .bl _
              · walk_at "sx"
                refine g_allM h da ?_
                refine q_bl (q G2 H2 (n.trans n2)) ?_
                simp only [rowsOk]
                rw [hr, decide_eq_true h12, List.all_map]
                simp only [sameLen, hrs, Bool.true_and]
                rfl
      · refine q_bl (q G H (Nx.refl e)) ?_
        simp only [rowsOk]
        rw [decide_eq_false (by omega)]
        rfl
    | _ =>
      walk_at "sx"
      walk_at "isi"
      walk_at "sx"
      exact q G H (Nx.refl e)
def letq (c : Nat) : Bool := decide (c ∈ ("abcdefghijklmnopqrstuvwxyz" : Str).cps.toList)
def digq (c : Nat) : Bool := decide (c ∈ ("0123456789" : Str).cps.toList)
def nameOk (s : Str) : Bool := decide (1 ≤ s.length ∧ s.length ≤ 8) && (match s.cps.toList with
  | [] => false
  | c :: _ => letq c) && s.cps.toList.all fun c => letq c || digq c
def isName (d : PyData) : Bool := match d with
  | .str s => nameOk s
  | _ => false
def sp_is_name (K : PySem.W.Frag) : Sp := fun vs H Q _ => ∃ G v d, vs = [v] ∧ Y.Ex G H ∧ Dp K G v d ∧ fit d = true ∧ ∀ G' H', Nx [] G H G' H' → Q (.bl (isName d)) H'
theorem ok_is_name (T : Tx fa fn bx K mg) : FnOk P w K mg base CX0 1 (He.ga K "is_name") (fdOf K (He.ga K "is_name")) ["value"] (sp_is_name K) := by
  refine FunD.ok (F_is_name T) sc_is_name (fun vs H Q E h => ?_) (fun cdv A outer s H vs Q E hr h => ?_)
  · obtain ⟨_, _, _, rfl, _⟩ := h
    rfl
  · obtain ⟨G, v, d, rfl, e, hd, hf, q⟩ := h
    refine ⟨_, PSs.nox ((pss_cons (ps_if (PW.pt (pw_or (pt_not (pt_val (pe_callB (Y.call_isiK (K := K) rfl) (by rfl) (T.free 0) (by decide +kernel) (pa_cons (pv 0) (pa_cons (pe_bltn (v := .ty "str") (by rfl) (T.free 5) (by decide +kernel) rfl) pa_nil))))) (pw_or1 (pt_not (pt_chain op_le op_le pe_int (pe_callB Y.call_lenS (by rfl) (T.free 3) (by decide +kernel) (pa_cons (pv 0) pa_nil)) (pe_gint (T.int 6)))))))
      (pss_one (ps_ret pe_bl))
      pss_nil)
      (pss_one (ps_ret (pe_and (pe_cmpR Y.op_inSign (pe_ix ix_str (pv 0) pe_int (fun _ _ => rfl)) (pe_gstr (T.str 9)) (by rfl)) (pe_one (pe_callB (Y.cr_allK (K := K) rfl rfl) (by rfl) (T.free 7) (by decide +kernel) (pa_cons (pe_lc (own := [("sign", 1)]) (tt := tYes) rfl sc_is_name.nd (pi_str (pv 0)) (blkOk_by (own := [("sign", 1)]) (by kernel_rfl)) (fun _ _ _ _ _ => (pg_name (i := 1) sc_is_name.nd rfl (Or.inl rfl))) (fun _ _ _ _ _ => pts_nil) (fun _ _ _ _ _ => (pe_or (pe_cmpR Y.op_inSign (pv 1) (pe_gstr (T.str 9)) (by rfl)) (pe_one (pe_cmpR Y.op_inSign (pv 1) (pe_gstr (T.str 8)) (by rfl)))))) pa_nil)))))))), ?_⟩
    cases d with
    | dict _ => exact (dp_nodict hd).elim
    | str s =>
      cases dp_str hd
      have hz : s.length ≤ sizeLine := fit_str hf
      walk_at "sx"
      walk_at "isi"
      walk_at "sx"
      refine g_lenS hz ?_
      walk_at "sx"
      refine g_dec (fun h1 => ?_) (fun h1 => ?_) <;> walk_at "sx"
      · refine g_ndec (fun h2 => ?_) (fun h2 => ?_) <;> walk_at "sx"
        · refine q_bl (q G H (Nx.refl e)) ?_
          simp only [isName, nameOk]
          rw [decide_eq_false (by omega)]
          rfl
        · obtain ⟨c, r, hc⟩ : ∃ c r, s.cps.toList = c :: r := by
            cases hs : s.cps.toList with
            | nil =>
              have : s.length = 0 := by show s.cps.size = 0; rw [← Array.length_toList, hs]; rfl
              omega
            | cons c r => exact ⟨c, r, rfl⟩
          have hn : nameOk s = (letq c && s.cps.toList.all fun c => letq c || digq c) := by
            unfold nameOk
            rw [hc, decide_eq_true (show 1 ≤ s.length ∧ s.length ≤ 8 by omega)]
            simp
          refine g_ixS (k := 0) (c := c) hz (by rw [hc]; rfl) rfl ?_
          walk_at "sx"
          refine g_dec (fun h3 => ?_) (fun h3 => ?_) <;> walk_at "sx"
          · refine g_walkS ?_
            intro A hA
            refine g_lcMap (K := K) (M := []) (es := (s.cps.toList.map fun c => letq c || digq c).map .bool) (src_str s) e hA (by simp) (by rw [sgn_len]; exact szl (by omega)) (by rw [sgn_len, List.length_map, List.length_map]; exact Array.length_toList) (fun i d d' v G' H' hi hi' dv n QE k => ?_) (fun G' H' ys n g h da => ?_)
            · obtain ⟨x, hx, rfl⟩ := sgn_get hi
              have hd' : d' = .bool (letq x || digq x) := by
                simp only [List.getElem?_map, hx, Option.map_some, Option.some.injEq] at hi'
                exact hi'.symm
              subst hd'
              cases dp_str dv
              walk_at "sx"
              refine g_dec (fun h4 => ?_) (fun h4 => ?_) <;> walk_at "sx"
              · refine k _ _ _ (Nx.refl n.gh) ?_
                rw [show letq x = true from decide_eq_true h4]
                exact .bl _
              · refine k _ _ _ (Nx.refl n.gh) ?_
                rw [show letq x = false from decide_eq_false h4]
                exact .bl _
            · refine g_allM h da ?_
              refine q_bl (q G' H' n) ?_
              show nameOk s = _
              rw [hn, show letq c = true from decide_eq_true h3, List.all_map]
              rfl
          · refine q_bl (q G H (Nx.refl e)) ?_
            show nameOk s = _
            rw [hn, show letq c = false from decide_eq_false h3]
            rfl
      · refine q_bl (q G H (Nx.refl e)) ?_
        simp only [isName, nameOk]
        rw [decide_eq_false (by omega)]
        rfl
    | _ =>
      walk_at "sx"
      walk_at "isi"
      walk_at "sx"
      exact q G H (Nx.refl e)
def tupleOf (d : PyData) (n : Int) : Bool := match d with
  | .tuple xs => decide ((xs.length : Int) = n)
  | _ => false
/-- data, or a tuple or a list of whatever: d tells then no more than its kind and its length -/
def TupIs (K : PySem.W.Frag) (G H : Hp) (v : V) (d : PyData) : Prop := Dp K G v d ∨ (∃ t xs ds, v = .ref t ∧ SqT K G t xs ∧ d = .tuple ds ∧ ds.length = xs.length) ∨ ∃ p xs ds, v = .ref p ∧ H p = some (.lst xs) ∧ d = .list ds
theorem g_isiLraw {K : PySem.W.Frag} {H : Hp} {p : Addr} {xs : List V} {Q : VK} (h : H p = some (.lst xs)) (q : Q (.bl false) H) : rIsi K [.ref p, .ty "tuple"] H Q :=
  ⟨.ref p, .ty "tuple", _, _, false, rfl, .ty "tuple", .base (.lst h), kit_ty (by rfl), q⟩
def sp_is_tuple_of (K : PySem.W.Frag) : Sp := fun vs H Q _ => ∃ G v d n, vs = [v, .int n] ∧ Y.Ex G H ∧ TupIs K G H v d ∧ Q (.bl (tupleOf d n)) H
theorem ok_is_tuple_of (T : Tx fa fn bx K mg) : FnOk P w K mg base CX0 1 (He.ga K "is_tuple_of") (fdOf K (He.ga K "is_tuple_of")) ["value", "length"] (sp_is_tuple_of K) := by
  refine FunD.ok (F_is_tuple_of T) sc_is_tuple_of (fun vs H Q E h => ?_) (fun cdv A outer s H vs Q E hr h => ?_)
  · obtain ⟨_, _, _, _, rfl, _⟩ := h
    rfl
  · obtain ⟨G, v, d, n, rfl, e, hd, q⟩ := h
    refine ⟨_, PSs.nox ((pss_one (ps_ret (pe_and (pe_callB (Y.call_isiK (K := K) rfl) (by rfl) (T.free 0) (by decide +kernel) (pa_cons (pv 0) (pa_cons (pe_bltn (v := .ty "tuple") (by rfl) (T.free 4) (by decide +kernel) rfl) pa_nil))) (pe_one (pe_cmpR op_eq (pe_callB (Y.call_lenK (K := K) rfl) (by rfl) (T.free 3) (by decide +kernel) (pa_cons (pv 0) pa_nil)) (pv 1) (nomark _))))))), ?_⟩
    rcases hd with hd | ⟨t, xs, ds, rfl, hs, rfl, hl⟩ | ⟨p, xs, ds, rfl, hp, rfl⟩
    · cases d with
      | dict _ => exact (dp_nodict hd).elim
      | tuple xs =>
        walk_at "sx"
        walk_at "isi"
        walk_at "sx"
        refine g_lenT e hd ?_
        walk_at "sx"
        exact q
      | _ =>
        walk_at "sx"
        walk_at "isi"
        walk_at "sx"
        exact q
    · walk_at "sx"
      refine g_isiR e hs ?_
      refine ⟨true, rfl, ?_⟩
      refine g_bool (fun _ => ?_) (fun h => nomatch h)
      walk_at "sx"
      refine g_lenTR e hs ?_
      walk_at "sx"
      rw [← hl]
      exact q
    · walk_at "sx"
      refine g_isiLraw hp ?_
      refine ⟨false, rfl, ?_⟩
      refine g_bool (fun h => nomatch h) (fun _ => ?_)
      exact q
def viewOk (d : PyData) : Bool := match d with
  | .tuple [a, b] => isName a && rowsOk b
  | _ => false
def sp_is_view (K : PySem.W.Frag) : Sp := fun vs H Q _ => ∃ G v d, vs = [v] ∧ Y.Ex G H ∧ Dp K G v d ∧ fit d = true ∧ ∀ G' H', Nx [] G H G' H' → Q (.bl (viewOk d)) H'
theorem ok_is_view (T : Tx fa fn bx K mg) : FnOk P w K mg base CX0 6 (He.ga K "is_view") (fdOf K (He.ga K "is_view")) ["value"] (sp_is_view K) := by
  refine FunD.ok (F_is_view T) sc_is_view (fun vs H Q E h => ?_) (fun cdv A outer s H vs Q E hr h => ?_)
  · obtain ⟨_, _, _, rfl, _⟩ := h
    rfl
  · obtain ⟨G, v, d, rfl, e, hd, hf, q⟩ := h
    refine ⟨_, PSs.nox ((pss_one (ps_ret (pe_and (Y.pe_callC (ok_is_tuple_of T) (cal_is_tuple_of T) (hr.mono (by decide)) (by rfl) pass0 (pa_cons (pv 0) (pa_cons pe_int pa_nil))) (pe_and (Y.pe_callC (ok_is_name T) (cal_is_name T) (hr.mono (by decide)) (by rfl) pass0 (pa_cons (pe_ix (Y.ix_tupK (K := K) rfl) (pv 0) pe_int (fun _ _ => rfl)) pa_nil)) (pe_one (Y.pe_callC (ok__is_rows T) (cal__is_rows T) (hr.mono (by decide)) (by rfl) pass0 (pa_cons (pe_ix (Y.ix_tupK (K := K) rfl) (pv 0) pe_int (fun _ _ => rfl)) pa_nil)))))))), ?_⟩
    walk_at "sx"
    refine ⟨G, v, d, 2, rfl, e, .inl hd, ?_⟩
    walk_at "sx"
    refine g_bool (fun h1 => ?_) (fun h1 => ?_)
    · obtain ⟨a, b, rfl⟩ : ∃ a b, d = .tuple [a, b] := by
        cases d with
        | tuple xs =>
          simp only [tupleOf, decide_eq_true_eq] at h1
          match xs, h1 with
          | [a, b], _ => exact ⟨a, b, rfl⟩
          | [], h | [_], h => simp at h
          | _ :: _ :: _ :: _, h => simp at h; omega
        | _ => cases h1
      walk_at "sx"
      refine g_ixT (k := 0) e hd rfl rfl fun u hu => ?_
      walk_at "sx"
      refine ⟨G, u, a, rfl, e, hu, fit_get (i := 0) (fit_tup hf).2 rfl, fun G1 H1 n1 => ?_⟩
      walk_at "sx"
      refine g_bool (fun h2 => ?_) (fun h2 => ?_)
      · walk_at "sx"
        refine g_ixT (k := 1) n1.gh (dp_mono n1.gg hd) rfl rfl fun u' hu' => ?_
        walk_at "sx"
        refine ⟨G1, u', b, rfl, n1.gh, hu', fun G2 H2 n2 => ?_⟩
        refine q_bl (q G2 H2 (n1.trans n2)) ?_
        simp only [viewOk]
        rw [h2, Bool.true_and]
      · refine q_bl (q G1 H1 n1) ?_
        simp only [viewOk]
        rw [h2, Bool.false_and]
    · refine q_bl (q G H (Nx.refl e)) ?_
      cases d with
      | tuple xs =>
        simp only [tupleOf, decide_eq_false_iff_not] at h1
        match xs, h1 with
        | [a, b], h => exact absurd rfl h
        | [], _ | [_], _ => rfl
        | _ :: _ :: _ :: _, _ => rfl
      | _ => rfl
def linkOk (d : PyData) : Bool := match d with
  | .tuple [a, b, x, y, z] => isName a && isName b && !PyData.eqv a b && within x (-99) 99 && within y (-99) 99 && within z (-999) 999
  | _ => false
theorem linkOk_five {d : PyData} (h : linkOk d = true) : ∃ a b x y z, d = .tuple [a, b, x, y, z] := by
  unfold linkOk at h
  split at h
  · exact ⟨_, _, _, _, _, rfl⟩
  · cases h
theorem tup5 {d : PyData} (h : tupleOf d 5 = true) : ∃ a b x y z, d = .tuple [a, b, x, y, z] := by
  cases d with
  | tuple xs =>
    simp only [tupleOf, decide_eq_true_eq] at h
    match xs, h with
    | [a, b, x, y, z], _ => exact ⟨a, b, x, y, z, rfl⟩
    | [], h | [_], h | [_, _], h | [_, _, _], h | [_, _, _, _], h => simp at h
    | _ :: _ :: _ :: _ :: _ :: _ :: _, h => simp at h; omega
  | _ => cases h
theorem isName_str {d : PyData} (h : isName d = true) : ∃ s, d = .str s ∧ nameOk s = true := by
  cases d with
  | str s => exact ⟨s, rfl, h⟩
  | _ => cases h
def sp_is_link (K : PySem.W.Frag) : Sp := fun vs H Q _ => ∃ G v d, vs = [v] ∧ Y.Ex G H ∧ Dp K G v d ∧ fit d = true ∧ ∀ G' H', Nx [] G H G' H' → Q (.bl (linkOk d)) H'
theorem ok_is_link (T : Tx fa fn bx K mg) : FnOk P w K mg base CX0 3 (He.ga K "is_link") (fdOf K (He.ga K "is_link")) ["value"] (sp_is_link K) := by
  refine FunD.ok (F_is_link T) sc_is_link (fun vs H Q E h => ?_) (fun cdv A outer s H vs Q E hr h => ?_)
  · obtain ⟨_, _, _, rfl, _⟩ := h
    rfl
  · obtain ⟨G, v, d, rfl, e, hd, hf, q⟩ := h
    refine ⟨_, PSs.nox ((pss_cons (ps_if (pt_not (pt_val (Y.pe_callC (ok_is_tuple_of T) (cal_is_tuple_of T) (hr.mono (by decide)) (by rfl) pass0 (pa_cons (pv 0) (pa_cons pe_int pa_nil)))))
      (pss_one (ps_ret pe_bl))
      pss_nil)
      (pss_cons (ps_asg (pv 0) (Y.pg_tupK (K := K) (n := 5) rfl rfl (pgs_cons (pg_name (i := 1) sc_is_link.nd rfl (Or.inl rfl)) (pgs_cons (pg_name (i := 2) sc_is_link.nd rfl (Or.inl rfl)) (pgs_cons (pg_name (i := 3) sc_is_link.nd rfl (Or.inl rfl)) (pgs_cons (pg_name (i := 4) sc_is_link.nd rfl (Or.inl rfl)) (pgs_cons (pg_name (i := 5) sc_is_link.nd rfl (Or.inl rfl)) pgs_nil)))))))
      (pss_cons (ps_if (PW.pt (pw_or (pt_not (pt_val (Y.pe_callC (ok_is_name T) (cal_is_name T) (hr.mono (by decide)) (by rfl) pass0 (pa_cons (pv 1) pa_nil)))) (pw_or (pt_not (pt_val (Y.pe_callC (ok_is_name T) (cal_is_name T) (hr.mono (by decide)) (by rfl) pass0 (pa_cons (pv 2) pa_nil)))) (pw_or1 (pt_cmpR (Y.op_eqDK (K := K) rfl hr.units) (pv 1) (pv 2) (nomark _))))))
      (pss_one (ps_ret pe_bl))
      pss_nil)
      (pss_cons (ps_if (PW.pt (pw_or (pt_not (pt_val (Y.pe_callC (ok_is_within T) (cal_is_within T) (hr.mono (by decide)) (by rfl) pass0 (pa_cons (pv 3) (pa_cons (pe_un un_neg (pe_gint (T.int 14))) (pa_cons (pe_gint (T.int 14)) pa_nil)))))) (pw_or1 (pt_not (pt_val (Y.pe_callC (ok_is_within T) (cal_is_within T) (hr.mono (by decide)) (by rfl) pass0 (pa_cons (pv 4) (pa_cons (pe_un un_neg (pe_gint (T.int 14))) (pa_cons (pe_gint (T.int 14)) pa_nil)))))))))
      (pss_one (ps_ret pe_bl))
      pss_nil)
      (pss_one (ps_ret (Y.pe_callC (ok_is_within T) (cal_is_within T) (hr.mono (by decide)) (by rfl) pass0 (pa_cons (pv 5) (pa_cons (pe_un un_neg (pe_gint (T.int 15))) (pa_cons (pe_gint (T.int 15)) pa_nil))))))))))), ?_⟩
    walk_at "sx"
    refine ⟨G, v, d, 5, rfl, e, .inl hd, ?_⟩
    walk_at "sx"
    refine g_nbool (fun h1 => ?_) (fun h1 => ?_) <;> walk_at "sx"
    · refine q_bl (q G H (Nx.refl e)) ?_
      cases hl : linkOk d with
      | false => rfl
      | true =>
        obtain ⟨_, _, _, _, _, rfl⟩ := linkOk_five hl
        cases h1
    obtain ⟨a, b, x, y, z, rfl⟩ := tup5 h1
    have hff := fitAll_iff.mp (fit_tup hf).2
    refine g_un5 e hd fun v1 v2 v3 v4 v5 d1 d2 d3 d4 d5 => ?_
    walk_at "sx"
    refine ⟨G, v1, a, rfl, e, d1, hff a (by simp), fun G1 H1 n1 => ?_⟩
    walk_at "sx"
    refine g_nbool (fun h1 => ?_) (fun h1 => ?_) <;> walk_at "sx"
    · exact q_bl (q G1 H1 n1) (by simp [linkOk, h1])
    refine ⟨G1, v2, b, rfl, n1.gh, dp_mono n1.gg d2, hff b (by simp), fun G2 H2 n2 => ?_⟩
    walk_at "sx"
    have n := n1.trans n2
    refine g_nbool (fun h2 => ?_) (fun h2 => ?_) <;> walk_at "sx"
    · exact q_bl (q G2 H2 n) (by simp [linkOk, h2])
    have sh : ∀ d ∈ [a, b, x, y, z], isName d = true → SeqAt.shaped d = true := fun d hd hn => by
      obtain ⟨s, rfl, _⟩ := isName_str hn
      exact shaped_fit (hff _ hd) (by simp [PyData.depth])
    refine g_eqD n2.gh (dp_mono n.gg d1) (dp_mono n.gg d2) (sh a (by simp) h1) (sh b (by simp) h2) ?_
    walk_at "sx"
    refine g_bool (fun h3 => ?_) (fun h3 => ?_) <;> walk_at "sx"
    · exact q_bl (q G2 H2 n) (by simp [linkOk, h3])
    refine ⟨G2, v3, x, -99, 99, rfl, n2.gh, dp_mono n.gg d3, ?_⟩
    walk_at "sx"
    refine g_nbool (fun h4 => ?_) (fun h4 => ?_) <;> walk_at "sx"
    · exact q_bl (q G2 H2 n) (by simp [linkOk, h4])
    refine ⟨G2, v4, y, -99, 99, rfl, n2.gh, dp_mono n.gg d4, ?_⟩
    walk_at "sx"
    refine g_nbool (fun h5 => ?_) (fun h5 => ?_) <;> walk_at "sx"
    · exact q_bl (q G2 H2 n) (by simp [linkOk, h5])
    refine ⟨G2, v5, z, -999, 999, rfl, n2.gh, dp_mono n.gg d5, ?_⟩
    exact q_bl (q G2 H2 n) (by simp [linkOk, h1, h2, h3, h4, h5])
/-! the album: its object, its dict, its list -/
def nmOf : PyData → Str
  | .tuple [.str s, _] => s
  | _ => ⟨#[]⟩
def look (s : Str) (vs : List PyData) : Option PyData := vs.find? fun v => decide (nmOf v = s)
/-- what an album may hold -/
structure AOk (vs ls : List PyData) : Prop where
  vl : vs.length ≤ 30
  ll : ls.length ≤ 60
  vo : ∀ v ∈ vs, viewOk v = true ∧ fit v = true
  lo : ∀ v ∈ ls, linkOk v = true ∧ fit v = true
  nd : (vs.map nmOf).Nodup
def AlbAt (K : PySem.W.Frag) (a d l : Addr) (G H : Hp) (vs ls : List PyData) : Prop := G a = none ∧ G d = none ∧ G l = none ∧ AOk vs ls ∧ (∃ dx, H a = some (.ins (He.ga K "Album") dx [("_views", .ref d), ("_links", .ref l)])) ∧
  (∃ kvs, H d = some (.dK kvs) ∧ kvs.map (·.1) = vs.map (fun v => (Sum.inr (nmOf v) : Key)) ∧ DpAll K G (kvs.map (·.2)) vs) ∧ ∃ xs, H l = some (.lst xs) ∧ DpAll K G xs ls
section
variable {K : PySem.W.Frag} {a d l : Addr} {G H G' H' : Hp} {vs ls : List PyData} {M : List Addr}
theorem AlbAt.go (r : AlbAt K a d l G H vs ls) (n : Nx M G H G' H') (ha : a ∉ M) (hd : d ∉ M) (hl : l ∉ M) : AlbAt K a d l G' H' vs ls := by
  obtain ⟨g1, g2, g3, ok, ⟨dx, h1⟩, ⟨kvs, h2, hk, dk⟩, xs, h3, dl⟩ := r
  exact ⟨n.old a g1 ⟨_, h1, fun _ z => nomatch z⟩, n.old d g2 ⟨_, h2, fun _ z => nomatch z⟩, n.old l g3 ⟨_, h3, fun _ z => nomatch z⟩, ok,
    ⟨dx, n.fr a _ ha h1⟩, ⟨kvs, n.fr d _ hd h2, hk, dpAll_mono n.gg dk⟩, xs, n.fr l _ hl h3, dpAll_mono n.gg dl⟩
theorem AlbAt.live (r : AlbAt K a d l G H vs ls) : H a ≠ none ∧ H d ≠ none ∧ H l ≠ none ∧ a ≠ d ∧ a ≠ l ∧ d ≠ l := by
  obtain ⟨g1, g2, g3, ok, ⟨dx, h1⟩, ⟨kvs, h2, hk, dk⟩, xs, h3, dl⟩ := r
  refine ⟨(by rw [h1]; exact fun z => nomatch z), (by rw [h2]; exact fun z => nomatch z), (by rw [h3]; exact fun z => nomatch z), fun z => ?_, fun z => ?_, fun z => ?_⟩
  · subst z; rw [h1] at h2; cases h2
  · subst z; rw [h1] at h3; cases h3
  · subst z; rw [h2] at h3; cases h3
end
theorem look_valV {K : PySem.W.Frag} {G : Hp} (s : Str) : ∀ {kvs : List (Key × V)} {vs : List PyData}, kvs.map (·.1) = vs.map (fun v => (Sum.inr (nmOf v) : Key)) → DpAll K G (kvs.map (·.2)) vs →
    (∀ d, look s vs = some d → ∃ v, valV kvs (Sum.inr s : Key) = some v ∧ Dp K G v d) ∧ (look s vs = none → valV kvs (Sum.inr s : Key) = none)
  | [], [], _, _ => ⟨(fun d h => by cases h), fun _ => rfl⟩
  | [], _ :: _, h, _ => by simp at h
  | _ :: _, [], h, _ => by simp at h
  | (k, u) :: kvs, v :: vs, h, hd => by
    simp only [List.map_cons, List.cons.injEq] at h
    obtain ⟨h1, h2⟩ := h
    cases hd with
    | cons d1 d2 =>
      have ih := look_valV s h2 d2
      by_cases hs : nmOf v = s
      · have e1 : look s (v :: vs) = some v := by unfold look; rw [List.find?_cons_of_pos (by simp [hs])]
        have e2 : valV ((k, u) :: kvs) (Sum.inr s : Key) = some u := by unfold valV; rw [List.find?_cons_of_pos (by simp [h1, hs])]; rfl
        rw [e1, e2]
        exact ⟨fun d hd => by cases hd; exact ⟨u, rfl, d1⟩, fun z => by cases z⟩
      · have e1 : look s (v :: vs) = look s vs := by unfold look; rw [List.find?_cons_of_neg (by simp [hs])]
        have e2 : valV ((k, u) :: kvs) (Sum.inr s : Key) = valV kvs (Sum.inr s) := by unfold valV; rw [List.find?_cons_of_neg (by simp [h1, hs])]
        rw [e1, e2]
        exact ih
theorem look_isSome {K : PySem.W.Frag} {G : Hp} {s : Str} {kvs : List (Key × V)} {vs : List PyData} (h : kvs.map (·.1) = vs.map (fun v => (Sum.inr (nmOf v) : Key))) (hd : DpAll K G (kvs.map (·.2)) vs) : (valV kvs (Sum.inr s : Key)).isSome = (look s vs).isSome := by
  have := look_valV s h hd
  cases e : look s vs with
  | none => rw [this.2 e]; rfl
  | some d =>
    obtain ⟨v, hv, _⟩ := this.1 d e
    rw [hv]; rfl
/-- what an album's method may refuse -/
inductive Er where
  | mis (w : Str)
  | cla (s : Str)
  | unk (s : Str)
  | ove (w : Str)
def RaE (K : PySem.W.Frag) (G H : Hp) (E : XK) : Er → Prop
  | .mis w => RaX (He.ga K "Misused") "why" (.str w) G H E
  | .cla s => RaX (He.ga K "Clashing") "name" (.str s) G H E
  | .unk s => RaX (He.ga K "Unknown") "name" (.str s) G H E
  | .ove w => RaX (He.ga K "Oversized") "limit" (.str w) G H E
theorem view_inv {d : PyData} (h : viewOk d = true) : ∃ s r, d = .tuple [.str s, r] ∧ nameOk s = true ∧ rowsOk r = true := by
  unfold viewOk at h
  split at h
  · rw [Bool.and_eq_true] at h
    obtain ⟨s, rfl, hs⟩ := isName_str h.1
    exact ⟨s, _, rfl, hs, h.2⟩
  · cases h
theorem look_none {s : Str} {ws : List PyData} (h : look s ws = none) : s ∉ ws.map nmOf := by
  intro hm
  obtain ⟨v, hv, rfl⟩ := List.mem_map.mp hm
  have := List.find?_eq_none.mp h v hv
  simp at this
def sp_Album___init__ (K : PySem.W.Frag) : Sp := fun vs H Q _ => ∃ (G : Hp) (a dx : Addr), vs = [.ref a] ∧ Y.Ex G H ∧ G a = none ∧ H a = some (.ins (He.ga K "Album") dx []) ∧
  ∀ d l H', Nx [a] G H G H' → H d = none → H l = none → AlbAt K a d l G H' [] [] → Q .non H'
theorem ok_Album___init__ (T : Tx fa fn bx K mg) : FnOk P w K mg base CX0 1 (He.ma K (He.ga K "Album") "__init__") (fdOf K (He.ma K (He.ga K "Album") "__init__")) ["self"] (sp_Album___init__ K) := by
  refine FunD.ok (F_Album___init__ T) sc_Album___init__ (fun vs H Q E h => ?_) (fun cdv A outer s H vs Q E hr h => ?_)
  · obtain ⟨_, _, _, rfl, _⟩ := h
    rfl
  · obtain ⟨G, a, dx, rfl, e, ga, ha, q⟩ := h
    refine ⟨_, PSs.nox ((pss_cons (Y.ps_fldK (K := K) rfl (pv 0) pe_dnewK rfl)
      (pss_one (Y.ps_fldK (K := K) rfl (pv 0) (pe_lst pa_nil) rfl)))), ?_⟩
    walk_at "sx"
    refine g_new fun d hd => ?_
    walk_at "sx"
    have n1 : Nx [a] G H G (upd H d (.dK [])) := Nx.own e hd |>.pure
    have hda : d ≠ a := fun z => by rw [z, ha] at hd; cases hd
    refine g_sfW (by rw [upd_ne hda.symm]; exact ha) (T.cls 20) (T.noat 40) (by decide) ?_
    walk_at "sx"
    have n2 : Nx [a] G H G (upd (upd H d (.dK [])) a (.ins (He.ga K "Album") dx (putF "_views" (.ref d) []))) := n1.trans (Nx.set n1.gh ga (by simp))
    refine g_lstM (xs := []) n2.gh (Nat.zero_le _) fun l H3 n3 hl hl3 gl => ?_
    walk_at "sx"
    have hla : l ≠ a := fun z => by rw [z, upd_same] at hl; cases hl
    have hld : l ≠ d := fun z => by rw [z, upd_ne hda, upd_same] at hl; cases hl
    refine g_sfW (n3.fr a _ (by simp) upd_same) (T.cls 20) (T.noat 41) (by show 1 < 1000; decide) ?_
    walk_at "sx"
    have n4 := (n2.trans n3.pure).trans (Nx.set (p := a) (o := .ins (He.ga K "Album") dx (putF "_links" (.ref l) (putF "_views" (.ref d) []))) n3.gh ga (by simp))
    refine q d l _ n4 hd (n2.fresh hl) ⟨ga, e.free hd, gl, ⟨by simp, by simp, by simp, by simp, by simp⟩, ⟨dx, upd_same⟩, ⟨[], ?_, rfl, .nil⟩, [], ?_, .nil⟩
    · rw [upd_ne hda]
      exact n3.fr d _ (by simp) (by rw [upd_ne hda, upd_same])
    · rw [upd_ne hla]
      exact hl3
theorem ok_Unknown___init__ (T : Tx fa fn bx K mg) : FnOk P w K mg base CX0 1 (He.ma K (He.ga K "Unknown") "__init__") (fdOf K (He.ma K (He.ga K "Unknown") "__init__")) ["self", "name"] (spXi (He.ga K "Unknown") "name") := by
  refine FunD.ok (F_Unknown___init__ T) sc_Unknown___init__ (fun vs H Q E h => ?_) (fun cdv A outer s H vs Q E hr h => ?_)
  · obtain ⟨_, _, rfl, _⟩ := h
    rfl
  · obtain ⟨a, v, rfl, ha, q⟩ := h
    refine ⟨_, PSs.nox ((pss_one (ps_ost (pv 0) (pv 1)))), ?_⟩
    exact ⟨_, rfl, _, rfl, a, _, rfl, (ex_Unknown T).oex, (ex_Unknown T).no, .inl ⟨ha, fun dx hd hne => q dx hd hne⟩⟩
def sp_Album__check_known (K : PySem.W.Frag) : Sp := fun vs H Q E => ∃ G a d l ws ls s, vs = [.ref a, .str s] ∧ Y.Ex G H ∧ AlbAt K a d l G H ws ls ∧ ((look s ws).isSome = true → Q .non H) ∧ (look s ws = none → RaX (He.ga K "Unknown") "name" (.str s) G H E)
theorem okN_Album__check_known (T : Tx fa fn bx K mg) : FnOk P w K mg base (L2N.CX P w) 3 (He.ma K (He.ga K "Album") "_check_known") (fdOf K (He.ma K (He.ga K "Album") "_check_known")) ["self", "name"] (sp_Album__check_known K) := by
  refine FunD.ok (F_Album__check_known T) sc_Album__check_known (fun vs H Q E h => ?_) (fun cdv A outer s H vs Q E hr h => ?_)
  · obtain ⟨_, _, _, _, _, _, _, rfl, _⟩ := h
    rfl
  · obtain ⟨G, a, d, l, ws, ls, s, rfl, e, hA, q, qe⟩ := h
    refine ⟨_, ((pss_one (ps_if (pt_cmp (pc_dnotin (hu_of hr) (pv 1) (Y.pe_fldK (K := K) rfl (pv 0) rfl)))
      (pss_one (Y.ps_raiseIN (ex_Unknown T) (T.glo 25) (ok_Unknown___init__ T) (cal_Unknown___init__ T).b (hr.mono (by decide)) (by rfl) rfl (L2N.takes_of rfl rfl rfl rfl) (by exact (pa_cons (pv 1) pa_nil))))
      pss_nil))), ?_⟩
    obtain ⟨g1, g2, g3, ok, ⟨dx, h1⟩, ⟨kvs, h2, hk, dk⟩, xs, h3, dl⟩ := id hA
    walk_at "sx"
    refine g_fdW h1 (T.cls 20) (T.noat 40) rfl ?_
    walk_at "sx"
    refine g_dniW h2 ?_
    rw [look_isSome hk dk]
    walk_at "sx"
    refine g_nbool (fun h => ?_) (fun h => ?_) <;> walk_at "sx"
    · refine ⟨_, rfl, _, rfl, fun dd hdd => (qe ?_).go (Nx.refl e) hdd⟩
      cases z : look s ws with
      | none => rfl
      | some _ => rw [z] at h; cases h
    · exact q h
theorem ok_Album__check_known (T : Tx fa fn bx K mg) : FnOk P w K mg base (L2.CX P w) 3 (He.ma K (He.ga K "Album") "_check_known") (fdOf K (He.ma K (He.ga K "Album") "_check_known")) ["self", "name"] (sp_Album__check_known K) := Y.okN (okN_Album__check_known T)
theorem ok_Misused___init__ (T : Tx fa fn bx K mg) : FnOk P w K mg base CX0 1 (He.ma K (He.ga K "Misused") "__init__") (fdOf K (He.ma K (He.ga K "Misused") "__init__")) ["self", "why"] (spXi (He.ga K "Misused") "why") := by
  refine FunD.ok (F_Misused___init__ T) sc_Misused___init__ (fun vs H Q E h => ?_) (fun cdv A outer s H vs Q E hr h => ?_)
  · obtain ⟨_, _, rfl, _⟩ := h
    rfl
  · obtain ⟨a, v, rfl, ha, q⟩ := h
    refine ⟨_, PSs.nox ((pss_one (ps_ost (pv 0) (pv 1)))), ?_⟩
    exact ⟨_, rfl, _, rfl, a, _, rfl, (ex_Misused T).oex, (ex_Misused T).no, .inl ⟨ha, fun dx hd hne => q dx hd hne⟩⟩
theorem ok_Oversized___init__ (T : Tx fa fn bx K mg) : FnOk P w K mg base CX0 1 (He.ma K (He.ga K "Oversized") "__init__") (fdOf K (He.ma K (He.ga K "Oversized") "__init__")) ["self", "limit"] (spXi (He.ga K "Oversized") "limit") := by
  refine FunD.ok (F_Oversized___init__ T) sc_Oversized___init__ (fun vs H Q E h => ?_) (fun cdv A outer s H vs Q E hr h => ?_)
  · obtain ⟨_, _, rfl, _⟩ := h
    rfl
  · obtain ⟨a, v, rfl, ha, q⟩ := h
    refine ⟨_, PSs.nox ((pss_one (ps_ost (pv 0) (pv 1)))), ?_⟩
    exact ⟨_, rfl, _, rfl, a, _, rfl, (ex_Oversized T).oex, (ex_Oversized T).no, .inl ⟨ha, fun dx hd hne => q dx hd hne⟩⟩
def lnA : PyData → Str
  | .tuple [.str a, _, _, _, _] => a
  | _ => ⟨#[]⟩
def lnB : PyData → Str
  | .tuple [_, .str b, _, _, _] => b
  | _ => ⟨#[]⟩
theorem link_inv {d : PyData} (h : linkOk d = true) : ∃ a b x y z, d = .tuple [.str a, .str b, x, y, z] ∧ nameOk a = true ∧ nameOk b = true := by
  obtain ⟨a, b, x, y, z, rfl⟩ := linkOk_five h
  simp only [linkOk, Bool.and_eq_true] at h
  obtain ⟨s, rfl, hs⟩ := isName_str h.1.1.1.1.1
  obtain ⟨t, rfl, ht⟩ := isName_str h.1.1.1.1.2
  exact ⟨s, t, x, y, z, rfl, hs, ht⟩
def addL (ws ls : List PyData) (x : PyData) : Option Er := if linkOk x = false then some (.mis "link") else if (look (lnA x) ws).isSome = false then some (.unk (lnA x)) else if (look (lnB x) ws).isSome = false then some (.unk (lnB x)) else if 60 ≤ ls.length then some (.ove "links") else none
def sp_Album_add_link (K : PySem.W.Frag) : Sp := fun vs H Q E => ∃ G a d l ws ls v x, vs = [.ref a, v] ∧ Y.Ex G H ∧ AlbAt K a d l G H ws ls ∧ Dp K G v x ∧ fit x = true ∧ (∀ er, addL ws ls x = some er → RaE K G H E er) ∧
  (addL ws ls x = none → ∀ G' H', Nx [l] G H G' H' → AlbAt K a d l G' H' ws (ls ++ [x]) → Q .non H')
theorem okN_Album_add_link (T : Tx fa fn bx K mg) : FnOk P w K mg base (L2N.CX P w) 4 (He.ma K (He.ga K "Album") "add_link") (fdOf K (He.ma K (He.ga K "Album") "add_link")) ["self", "link"] (sp_Album_add_link K) := by
  refine FunD.ok (F_Album_add_link T) sc_Album_add_link (fun vs H Q E h => ?_) (fun cdv A outer s H vs Q E hr h => ?_)
  · obtain ⟨_, _, _, _, _, _, _, _, rfl, _⟩ := h
    rfl
  · obtain ⟨G, a, d, l, ws, ls, v, x, rfl, e, hA, dv, hf, qe, q⟩ := h
    refine ⟨_, ((pss_cons (ps_if (pt_not (pt_val (Y.pe_callC (ok_is_link T) (cal_is_link T) (hr.mono (by decide)) (by rfl) pass0 (pa_cons (pv 1) pa_nil))))
      (pss_one (Y.ps_raiseIN (ex_Misused T) (T.glo 16) (ok_Misused___init__ T) (cal_Misused___init__ T).b (hr.mono (by decide)) (by rfl) rfl (L2N.takes_of rfl rfl rfl rfl) (by exact (pa_cons pe_str pa_nil))))
      pss_nil)
      (pss_cons (ps_for PassesOwn.leaving rfl (Y.pi_tupK (K := K) rfl (pe_slice (Y.sl_tupAK (K := K) rfl) (pv 1) po_none (po_some pe_int))) (pg_name (i := 2) sc_Album_add_link.nd rfl (Or.inl rfl))
      (pss_one (ps_expr (Y.pe_methC (pv 0) (T.cls 20) (T.meth 21) (okN_Album__check_known T) (hr.mono (by decide)) (cal_Album__check_known T) (Y.passN (L2N.takes_of rfl rfl rfl rfl)) (pa_cons (pv 2) pa_nil)))))
      (pss_cons (ps_if (pt_cmpR op_ge (pe_callB (Y.call_lenK (K := K) rfl) (by rfl) (T.free 3) (by decide +kernel) (pa_cons (Y.pe_fldK (K := K) rfl (pv 0) rfl) pa_nil)) (pe_gint (T.int 22)) (nomark _))
      (pss_one (Y.ps_raiseIN (ex_Oversized T) (T.glo 19) (ok_Oversized___init__ T) (cal_Oversized___init__ T).b (hr.mono (by decide)) (by rfl) rfl (L2N.takes_of rfl rfl rfl rfl) (by exact (pa_cons pe_str pa_nil))))
      pss_nil)
      (pss_one (ps_expr (Y.pe_bmK (K := K) rfl PySem.F.plainAttrs_list PySem.F.slot_list_append PySem.F.type_list_append mt_append (Y.pe_fldK (K := K) rfl (pv 0) rfl) (pa_cons (pv 1) pa_nil)))))))), ?_⟩
    walk_at "sx"
    refine ⟨G, v, x, rfl, e, dv, hf, fun G1 H1 n1 => ?_⟩
    walk_at "sx"
    refine g_nbool (fun hv => ?_) (fun hv => ?_) <;> walk_at "sx"
    · exact ⟨_, rfl, fun dd hdd => (show RaX _ _ _ _ _ _ from qe (.mis "link") (by simp [addL, hv])).go n1 hdd⟩
    obtain ⟨s, t, x3, x4, x5, rfl, hs, ht⟩ := link_inv hv
    replace hA := hA.go n1 (by simp) (by simp) (by simp)
    replace dv := dp_mono n1.gg dv
    refine g_slHi (k := 2) n1.gh dv rfl fun v2 G2 H2 n2 dv2 => ?_
    walk_at "sx"
    have n12 := n1.trans n2
    refine g_walkT n2.gh dv2 fun b hb S => ?_
    refine g_forS (K := K) (M := []) (S []) n2.gh (fun i σ G' H' => ∃ y, σ = [some (.ref a), some v, y] ∧ (1 ≤ i → (look s ws).isSome = true) ∧ (2 ≤ i → (look t ws).isSome = true)) ⟨_, rfl, fun z => absurd z (by decide), fun z => absurd z (by decide)⟩ ?_ ?_
    · rintro i w u σ' G3 H3 G4 H4 hi n3 ⟨y, rfl, p1, p2⟩ n4 du
      have n24 := (n2.trans n3).trans n4
      have hA4 := hA.go n24 (by simp) (by simp) (by simp)
      match i, hi, p1, p2 with
      | 0, hi, p1, p2 =>
        cases (Option.some.inj hi)
        cases dp_str du
        walk_at "sx"
        obtain ⟨g1, g2, g3, ok, ⟨dx, h1⟩, _⟩ := id hA4
        refine g_mth h1 rfl ?_
        walk_at "sx"
        refine ⟨G4, a, d, l, ws, ls, s, rfl, n4.gh, hA4, fun hl => ?_, fun hl => ?_⟩
        · walk_at "sx"
          exact ⟨G4, n3.trans n4, _, rfl, fun _ => hl, fun z => absurd z (by decide)⟩
        · exact (show RaX _ _ _ _ _ _ from qe (.unk s) (by simp [addL, hv, lnA, hl])).trans (n1.trans n24)
      | 1, hi, p1, p2 =>
        cases (Option.some.inj hi)
        cases dp_str du
        walk_at "sx"
        obtain ⟨g1, g2, g3, ok, ⟨dx, h1⟩, _⟩ := id hA4
        refine g_mth h1 rfl ?_
        walk_at "sx"
        refine ⟨G4, a, d, l, ws, ls, t, rfl, n4.gh, hA4, fun hl => ?_, fun hl => ?_⟩
        · walk_at "sx"
          exact ⟨G4, n3.trans n4, _, rfl, fun _ => p1 (by decide), fun _ => hl⟩
        · exact (show RaX _ _ _ _ _ _ from qe (.unk t) (by simp [addL, hv, lnA, lnB, hl, p1 (by decide)])).trans (n1.trans n24)
      | i + 2, hi, _, _ => simp at hi
    rintro σ' G3 H3 n3 ⟨y, rfl, p1, p2⟩
    replace p1 := p1 (by show 1 ≤ 2; decide)
    replace p2 := p2 (by show 2 ≤ 2; decide)
    have n13 := n12.trans n3
    replace hA := hA.go (n2.trans n3) (by simp) (by simp) (by simp)
    replace dv := dp_mono (n2.trans n3).gg dv
    obtain ⟨g1, g2, g3, ok, ⟨dx, h1⟩, ⟨kvs, h2, hk, dk⟩, xs, h3, dl⟩ := id hA
    have lv := hA.live
    walk_at "sx"
    refine g_fdW h1 (T.cls 20) (T.noat 41) rfl ?_
    walk_at "sx"
    refine g_lenM h3 ?_
    walk_at "sx"
    have hlen := dpAll_len dl
    refine g_dec (fun h60 => ?_) (fun h60 => ?_) <;> walk_at "sx"
    · exact ⟨_, rfl, fun dd hdd => (show RaX _ _ _ _ _ _ from qe (.ove "links") (by simp [addL, hv, lnA, lnB, p1, p2]; omega)).go n13 hdd⟩
    refine g_fdW h1 (T.cls 20) (T.noat 41) rfl ?_
    refine g_tyL h3 ?_
    walk_at "sx"
    refine g_app h3 (szl (by omega)) ?_
    refine q (by simp [addL, hv, lnA, lnB, p1, p2]; omega) G3 _ (n13.pure.trans (Nx.set n3.gh g3 (by simp))) ⟨g1, g2, g3, ⟨ok.vl, ?_, ok.vo, ?_, ok.nd⟩, ⟨dx, by rw [upd_ne lv.2.2.2.2.1]; exact h1⟩, ⟨kvs, by rw [upd_ne lv.2.2.2.2.2]; exact h2, hk, dk⟩, _, upd_same, dpAll_snoc dl dv⟩
    · rw [List.length_append]; simp; omega
    · intro w hw
      rcases List.mem_append.mp hw with hw | hw
      · exact ok.lo w hw
      · simp only [List.mem_cons, List.not_mem_nil, or_false] at hw
        subst hw
        exact ⟨hv, hf⟩
theorem ok_Album_add_link (T : Tx fa fn bx K mg) : FnOk P w K mg base (L2.CX P w) 4 (He.ma K (He.ga K "Album") "add_link") (fdOf K (He.ma K (He.ga K "Album") "add_link")) ["self", "link"] (sp_Album_add_link K) := Y.okN (okN_Album_add_link T)
theorem ok_Clashing___init__ (T : Tx fa fn bx K mg) : FnOk P w K mg base CX0 1 (He.ma K (He.ga K "Clashing") "__init__") (fdOf K (He.ma K (He.ga K "Clashing") "__init__")) ["self", "name"] (spXi (He.ga K "Clashing") "name") := by
  refine FunD.ok (F_Clashing___init__ T) sc_Clashing___init__ (fun vs H Q E h => ?_) (fun cdv A outer s H vs Q E hr h => ?_)
  · obtain ⟨_, _, rfl, _⟩ := h
    rfl
  · obtain ⟨a, v, rfl, ha, q⟩ := h
    refine ⟨_, PSs.nox ((pss_one (ps_ost (pv 0) (pv 1)))), ?_⟩
    exact ⟨_, rfl, _, rfl, a, _, rfl, (ex_Clashing T).oex, (ex_Clashing T).no, .inl ⟨ha, fun dx hd hne => q dx hd hne⟩⟩
def addV (ws : List PyData) (x : PyData) : Option Er := if viewOk x = false then some (.mis "view") else if (look (nmOf x) ws).isSome = true then some (.cla (nmOf x)) else if 30 ≤ ws.length then some (.ove "views") else none
def sp_Album_add_view (K : PySem.W.Frag) : Sp := fun vs H Q E => ∃ G a d l ws ls v x, vs = [.ref a, v] ∧ Y.Ex G H ∧ AlbAt K a d l G H ws ls ∧ Dp K G v x ∧ fit x = true ∧ (∀ er, addV ws x = some er → RaE K G H E er) ∧
  (addV ws x = none → ∀ G' H', Nx [d] G H G' H' → AlbAt K a d l G' H' (ws ++ [x]) ls → Q .non H')
theorem put_new {kvs : List (Key × V)} {k : Key} {v : V} (h : (valV kvs k).isSome = false) : putK kvs k v = kvs ++ [(k, v)] := by
  unfold putK
  rw [if_neg]
  intro z
  unfold valV at h
  rw [Option.isSome_map] at h
  cases e : kvs.find? (fun kv => decide (kv.1 = k)) with
  | some _ => rw [e] at h; cases h
  | none =>
    obtain ⟨x, hx, hx2⟩ := List.any_eq_true.mp z
    exact List.find?_eq_none.mp e x hx hx2
theorem okN_Album_add_view (T : Tx fa fn bx K mg) : FnOk P w K mg base (L2N.CX P w) 7 (He.ma K (He.ga K "Album") "add_view") (fdOf K (He.ma K (He.ga K "Album") "add_view")) ["self", "view"] (sp_Album_add_view K) := by
  refine FunD.ok (F_Album_add_view T) sc_Album_add_view (fun vs H Q E h => ?_) (fun cdv A outer s H vs Q E hr h => ?_)
  · obtain ⟨_, _, _, _, _, _, _, _, rfl, _⟩ := h
    rfl
  · obtain ⟨G, a, d, l, ws, ls, v, x, rfl, e, hA, dv, hf, qe, q⟩ := h
    refine ⟨_, ((pss_cons (ps_if (pt_not (pt_val (Y.pe_callC (ok_is_view T) (cal_is_view T) (hr.mono (by decide)) (by rfl) pass0 (pa_cons (pv 1) pa_nil))))
      (pss_one (Y.ps_raiseIN (ex_Misused T) (T.glo 16) (ok_Misused___init__ T) (cal_Misused___init__ T).b (hr.mono (by decide)) (by rfl) rfl (L2N.takes_of rfl rfl rfl rfl) (by exact (pa_cons pe_str pa_nil))))
      pss_nil)
      (pss_cons (ps_set (i := 2) sc_Album_add_view.nd rfl (Or.inl rfl) (pe_ix (Y.ix_tupK (K := K) rfl) (pv 1) pe_int (fun _ _ => rfl)))
      (pss_cons (ps_if (pt_cmp (pc_din (hu_of hr) (pv 2) (Y.pe_fldK (K := K) rfl (pv 0) rfl)))
      (pss_one (Y.ps_raiseIN (ex_Clashing T) (T.glo 17) (ok_Clashing___init__ T) (cal_Clashing___init__ T).b (hr.mono (by decide)) (by rfl) rfl (L2N.takes_of rfl rfl rfl rfl) (by exact (pa_cons (pv 2) pa_nil))))
      pss_nil)
      (pss_cons (ps_if (pt_cmpR op_ge (pe_callB Y.call_lenDk (by rfl) (T.free 3) (by decide +kernel) (pa_cons (Y.pe_fldK (K := K) rfl (pv 0) rfl) pa_nil)) (pe_gint (T.int 18)) (nomark _))
      (pss_one (Y.ps_raiseIN (ex_Oversized T) (T.glo 19) (ok_Oversized___init__ T) (cal_Oversized___init__ T).b (hr.mono (by decide)) (by rfl) rfl (L2N.takes_of rfl rfl rfl rfl) (by exact (pa_cons pe_str pa_nil))))
      pss_nil)
      (pss_one (ps_dput (hu_of hr) (Y.pe_fldK (K := K) rfl (pv 0) rfl) (pv 2) (pv 1) rfl))))))), ?_⟩
    walk_at "sx"
    refine ⟨G, v, x, rfl, e, dv, hf, fun G1 H1 n1 => ?_⟩
    walk_at "sx"
    refine g_nbool (fun hv => ?_) (fun hv => ?_) <;> walk_at "sx"
    · exact ⟨_, rfl, fun dd hdd => (show RaX _ _ _ _ _ _ from qe (.mis "view") (by simp [addV, hv])).go n1 hdd⟩
    obtain ⟨s, r, rfl, hs, hr⟩ := view_inv hv
    replace hA := hA.go n1 (by simp) (by simp) (by simp)
    replace dv := dp_mono n1.gg dv
    obtain ⟨g1, g2, g3, ok, ⟨dx, h1⟩, ⟨kvs, h2, hk, dk⟩, xs, h3, dl⟩ := id hA
    have lv := hA.live
    refine g_ixT (k := 0) n1.gh dv rfl rfl fun vn dn => ?_
    cases dp_str dn
    walk_at "sx"
    refine g_fdW h1 (T.cls 20) (T.noat 40) rfl ?_
    walk_at "sx"
    refine g_dinW h2 ?_
    walk_at "sx"
    refine g_bool (fun hl => ?_) (fun hl => ?_) <;> walk_at "sx"
    · rw [look_isSome hk dk] at hl
      exact ⟨_, rfl, _, rfl, fun dd hdd => (show RaX _ _ _ _ _ _ from qe (.cla s) (by simp [addV, hv, nmOf, hl])).go n1 hdd⟩
    have hput := put_new (v := v) hl
    rw [look_isSome hk dk] at hl
    refine g_fdW h1 (T.cls 20) (T.noat 40) rfl ?_
    walk_at "sx"
    refine ⟨d, kvs, rfl, h2, ?_⟩
    walk_at "sx"
    have hlen : kvs.length = ws.length := by
      have := congrArg List.length hk
      simpa using this
    refine g_dec (fun h30 => ?_) (fun h30 => ?_) <;> walk_at "sx"
    · exact ⟨_, rfl, fun dd hdd => (show RaX _ _ _ _ _ _ from qe (.ove "views") (by simp [addV, hv, nmOf, hl]; omega)).go n1 hdd⟩
    refine g_fdW h1 (T.cls 20) (T.noat 40) rfl ?_
    walk_at "sx"
    refine ⟨d, _, rfl, .inl ⟨kvs, .inr s, h2, rfl, szl (by omega), rfl⟩, ?_⟩
    walk_at "sx"
    rw [hput]
    have hno : look s ws = none := by
      cases z : look s ws with
      | none => rfl
      | some _ => rw [z] at hl; cases hl
    refine q (by simp [addV, hv, nmOf, hl]; omega) G1 _ (n1.pure.trans (Nx.set n1.gh g2 (by simp))) ⟨g1, g2, g3, ⟨?_, ok.ll, ?_, ok.lo, ?_⟩, ⟨dx, by rw [upd_ne lv.2.2.2.1]; exact h1⟩, ⟨_, upd_same, ?_, ?_⟩, xs, by rw [upd_ne lv.2.2.2.2.2.symm]; exact h3, dl⟩
    · rw [List.length_append]; simp; omega
    · intro w hw
      rcases List.mem_append.mp hw with hw | hw
      · exact ok.vo w hw
      · simp only [List.mem_cons, List.not_mem_nil, or_false] at hw
        subst hw
        exact ⟨hv, hf⟩
    · rw [List.map_append]
      refine List.nodup_append.mpr ⟨ok.nd, by simp, fun x hx y hy => ?_⟩
      simp only [List.map_cons, List.map_nil, List.mem_cons, List.not_mem_nil, or_false] at hy
      intro z
      subst z hy
      exact look_none hno hx
    · rw [List.map_append, List.map_append, hk]; rfl
    · rw [List.map_append]; exact dpAll_snoc dk dv
theorem ok_Album_add_view (T : Tx fa fn bx K mg) : FnOk P w K mg base (L2.CX P w) 7 (He.ma K (He.ga K "Album") "add_view") (fdOf K (He.ma K (He.ga K "Album") "add_view")) ["self", "view"] (sp_Album_add_view K) := Y.okN (okN_Album_add_view T)
def sp__law_wide (K : PySem.W.Frag) : Sp := fun vs H Q _ => ∃ (G : Hp) (a : Addr) (ns : List Int) (k : Int), vs = [.ref a, .int k] ∧ Y.Ex G H ∧ SqL K G a (ns.map V.int) ∧ 0 ≤ k ∧ ∀ r, 0 ≤ r → Q (.int r) H
theorem ok__law_wide (T : Tx fa fn bx K mg) : FnOk P w K mg base CX0 1 (He.ga K "_law_wide") (fdOf K (He.ga K "_law_wide")) ["script", "k"] (sp__law_wide K) := by
  refine FunD.ok (F__law_wide T) sc__law_wide (fun vs H Q E h => ?_) (fun cdv A outer s H vs Q E hr h => ?_)
  · obtain ⟨_, _, _, _, rfl, _⟩ := h
    rfl
  · obtain ⟨G, a, ns, k, rfl, e, hs, hk, q⟩ := h
    refine ⟨_, PSs.nox ((pss_cons (ps_set (i := 2) sc__law_wide.nd rfl (Or.inl rfl) pe_int)
      (pss_cons (ps_if (pt_cmpR op_lt (pv 1) (pe_callB (Y.call_lenK (K := K) rfl) (by rfl) (T.free 3) (by decide +kernel) (pa_cons (pv 0) pa_nil)) (nomark _))
      (pss_one (ps_set (i := 2) sc__law_wide.nd rfl (Or.inl rfl) (pe_callB Y.call_abs (by rfl) (T.free 28) (by decide +kernel) (pa_cons (pe_ix (Y.ix_listK (K := K) rfl) (pv 0) (pv 1) (fun _ _ => rfl)) pa_nil))))
      pss_nil)
      (pss_cons (ps_if (pt_cmpR op_ge (pv 2) pe_int (nomark _))
      (pss_one (ps_ret (pv 2)))
      pss_nil)
      (pss_cons (ps_set (i := 3) sc__law_wide.nd rfl (Or.inl rfl) (pe_op op_modN (pe_callTy Y.call_int1 (by rfl) (T.free 2) (by decide +kernel) (pa_cons (pe_op op_add (pe_op op_mul (pe_op op_add (pv 2) pe_int) pe_int) (pe_op op_mul (pe_op op_add (pv 1) pe_int) pe_int)) pa_nil)) pe_int))
      (pss_one (ps_ret (pe_op op_modN (pe_callTy Y.call_int1 (by rfl) (T.free 2) (by decide +kernel) (pa_cons (pe_op op_add (pe_op op_mul (pv 3) pe_int) (pe_op op_fdivN (pv 3) pe_int)) pa_nil)) pe_int)))))))), ?_⟩
    walk_at "sx"
    refine g_lenK e hs ?_
    walk_at "sx"
    refine g_dec (fun h1 => ?_) (fun h1 => ?_) <;> walk_at "sx"
    · rw [List.length_map] at h1
      have hl : k.toNat < ns.length := by omega
      refine g_ixK e hs (k := k.toNat) (v := .int ns[k.toNat]) (by simp [hl]) (by omega) ?_
      walk_at "sx"
      refine g_dec (fun h2 => ?_) (fun h2 => ?_) <;> walk_at "sx"
      · exact q _ (by omega)
      · refine g_I (.inr (by decide)) ?_
        walk_at "sx"
        refine g_I (.inr (by decide)) ?_
        walk_at "sx"
        refine g_I (by decide) ?_
        walk_at "sx"
        refine g_I (.inr (by decide)) ?_
        walk_at "sx"
        refine g_I ⟨by decide, by decide⟩ ?_
        walk_at "sx"
        refine g_I (by decide) ?_
        walk_at "sx"
        exact q _ (Int.fmod_nonneg_of_pos _ (by decide))
    · refine g_dec (fun h2 => ?_) (fun h2 => ?_) <;> walk_at "sx"
      · exact q _ (Int.le_refl _)
      · refine g_I (.inr (by decide)) ?_
        walk_at "sx"
        refine g_I (.inr (by decide)) ?_
        walk_at "sx"
        refine g_I (by decide) ?_
        walk_at "sx"
        refine g_I (.inr (by decide)) ?_
        walk_at "sx"
        refine g_I ⟨by decide, by decide⟩ ?_
        walk_at "sx"
        refine g_I (by decide) ?_
        walk_at "sx"
        exact q _ (Int.fmod_nonneg_of_pos _ (by decide))
def sp__law_take (K : PySem.W.Frag) : Sp := fun vs H Q _ => ∃ G a m, vs = [.ref a, .int m] ∧ Y.Ex G H ∧ PoolAt K a G H ∧ 0 < m ∧ m < 1073741824 ∧ ∀ i H', 0 ≤ i → i < m → Nx [a] G H G H' → PoolAt K a G H' → Q (.int i) H'
theorem take_end {K : PySem.W.Frag} {G H : Hp} {Q : VK} {a l : Addr} {x k m : Int} {ns : List Int} (e : Y.Ex G H) (g : G a = none) (h : H a = some (.lst [.int x, .ref l, .int k])) (hl : SqL K G l (ns.map V.int)) (hx : 0 ≤ x) (hk : -1 ≤ k) (h0 : 0 < m) (h1 : m < 1073741824)
    (q : ∀ i H', 0 ≤ i → i < m → Nx [a] G H G H' → PoolAt K a G H' → Q (.int i) H') : Q (.int (x.fmod m)) (upd H a (.lst [.int (x.fdiv m), .ref l, .int k])) := by
  refine q _ _ (Int.fmod_nonneg_of_pos _ h0) (Int.fmod_lt_of_pos _ h0) (Nx.set e g (by simp)) ⟨g, _, k, l, ns, upd_same, hl, ?_, hk⟩
  rw [Int.fdiv_eq_ediv_of_nonneg _ (by omega)]
  exact Int.ediv_nonneg hx (by omega)
theorem ok__law_take (T : Tx fa fn bx K mg) : FnOk P w K mg base CX0 2 (He.ga K "_law_take") (fdOf K (He.ga K "_law_take")) ["pool", "most"] (sp__law_take K) := by
  refine FunD.ok (F__law_take T) sc__law_take (fun vs H Q E h => ?_) (fun cdv A outer s H vs Q E hr h => ?_)
  · obtain ⟨_, _, _, rfl, _⟩ := h
    rfl
  · obtain ⟨G, a, m, rfl, e, ⟨g, x, k, l, ns, hp, hl, hx, hk⟩, h0, h1, q⟩ := h
    refine ⟨_, PSs.nox ((pss_cons (ps_if (pt_cmpR op_lt (pe_ix (Y.ix_listK (K := K) rfl) (pv 0) pe_int (fun _ _ => rfl)) pe_int (nomark _))
      (pss_cons (ps_asg (pe_op op_add (pe_ix (Y.ix_listK (K := K) rfl) (pv 0) pe_int (fun _ _ => rfl)) pe_int) (pg_sub (pv 0) pe_int set_list))
      (pss_one (ps_asg (Y.pe_callC (ok__law_wide T) (cal__law_wide T) (hr.mono (by decide)) (by rfl) pass0 (pa_cons (pe_ix (Y.ix_listK (K := K) rfl) (pv 0) pe_int (fun _ _ => rfl)) (pa_cons (pe_ix (Y.ix_listK (K := K) rfl) (pv 0) pe_int (fun _ _ => rfl)) pa_nil))) (pg_sub (pv 0) pe_int set_list))))
      pss_nil)
      (pss_cons (ps_set (i := 2) sc__law_take.nd rfl (Or.inl rfl) (pe_op op_modN (pe_callTy Y.call_int1 (by rfl) (T.free 2) (by decide +kernel) (pa_cons (pe_ix (Y.ix_listK (K := K) rfl) (pv 0) pe_int (fun _ _ => rfl)) pa_nil)) (pv 1)))
      (pss_cons (ps_asg (pe_op op_fdivN (pe_ix (Y.ix_listK (K := K) rfl) (pv 0) pe_int (fun _ _ => rfl)) (pv 1)) (pg_sub (pv 0) pe_int set_list))
      (pss_one (ps_ret (pv 2))))))), ?_⟩
    walk_at "sx"
    refine g_ixM hp (k := 0) rfl rfl ?_
    walk_at "sx"
    refine g_dec (fun h2 => ?_) (fun h2 => ?_) <;> walk_at "sx"
    · refine g_ixM hp (k := 2) rfl rfl ?_
      walk_at "sx"
      refine g_setM hp (k := 2) rfl (by simp) ?_
      have n1 : Nx [a] G H G (upd H a (.lst [.int x, .ref l, .int (k + 1)])) := Nx.set e g (by simp)
      have hp1 : (upd H a (.lst [.int x, .ref l, .int (k + 1)])) a = some (.lst [.int x, .ref l, .int (k + 1)]) := upd_same
      show tSeq _ _ _ _ (upd H a (.lst [.int x, .ref l, .int (k + 1)]))
      generalize upd H a (.lst [.int x, .ref l, .int (k + 1)]) = H1 at n1 hp1 ⊢
      walk_at "sx"
      refine g_ixM hp1 (k := 1) rfl rfl ?_
      walk_at "sx"
      refine g_ixM hp1 (k := 2) rfl rfl ?_
      walk_at "sx"
      refine ⟨G, l, ns, k + 1, rfl, n1.gh, hl, by omega, fun r hr => ?_⟩
      walk_at "sx"
      refine g_setM hp1 (k := 0) rfl (by simp) ?_
      have n2 : Nx [a] G H1 G (upd H1 a (.lst [.int r, .ref l, .int (k + 1)])) := Nx.set n1.gh g (by simp)
      have hp2 : (upd H1 a (.lst [.int r, .ref l, .int (k + 1)])) a = some (.lst [.int r, .ref l, .int (k + 1)]) := upd_same
      show tNext _ _ (upd H1 a (.lst [.int r, .ref l, .int (k + 1)]))
      generalize upd H1 a (.lst [.int r, .ref l, .int (k + 1)]) = H2 at n2 hp2 ⊢
      walk_at "sx"
      refine g_ixM hp2 (k := 0) rfl rfl ?_
      walk_at "sx"
      refine g_I (by omega) ?_
      walk_at "sx"
      refine g_ixM hp2 (k := 0) rfl rfl ?_
      walk_at "sx"
      refine g_I ⟨by omega, by omega⟩ ?_
      walk_at "sx"
      refine g_setM hp2 (k := 0) rfl (by simp) ?_
      walk_at "sx"
      exact take_end n2.gh g hp2 hl hr (by omega) h0 h1 fun i H' a1 a2 n p => q i H' a1 a2 ((n1.trans n2).trans n) p
    · refine g_ixM hp (k := 0) rfl rfl ?_
      walk_at "sx"
      refine g_I (by omega) ?_
      walk_at "sx"
      refine g_ixM hp (k := 0) rfl rfl ?_
      walk_at "sx"
      refine g_I ⟨by omega, by omega⟩ ?_
      walk_at "sx"
      refine g_setM hp (k := 0) rfl (by simp) ?_
      walk_at "sx"
      exact take_end e g hp hl hx hk h0 h1 q
def headq (s : Str) : Bool := match s.cps.toList with
  | [] => false
  | c :: _ => letq c
def partsq (s : Str) : Bool := s.cps.toList.all fun c => letq c || digq c
theorem nameOk_of {s : Str} (h1 : 1 ≤ s.length) (h2 : s.length ≤ 8) (h3 : headq s = true) (h4 : partsq s = true) : nameOk s = true := by
  unfold nameOk
  rw [decide_eq_true (show 1 ≤ s.length ∧ s.length ≤ 8 from ⟨h1, h2⟩)]
  unfold headq at h3
  unfold partsq at h4
  rw [h4, Bool.and_true, Bool.true_and]
  exact h3
theorem app_list (a b : Str) : (a ++ b).cps.toList = a.cps.toList ++ b.cps.toList := by
  show (a.cps ++ b.cps).toList = _
  simp
theorem app_len (a b : Str) : (a ++ b).length = a.length + b.length := by
  show (a.cps ++ b.cps).size = _
  rw [Array.size_append]
  rfl
theorem headq_app {a b : Str} (h : headq a = true) : headq (a ++ b) = true := by
  unfold headq at h ⊢
  rw [app_list]
  cases e : a.cps.toList with
  | nil => rw [e] at h; cases h
  | cons c r => rw [e] at h; exact h
theorem partsq_app {a b : Str} (h : partsq a = true) (h2 : partsq b = true) : partsq (a ++ b) = true := by
  unfold partsq at h h2 ⊢
  rw [app_list, List.all_append, h, h2]
  rfl
theorem let_mem {c : Nat} (h : c ∈ ("abcdefghijklmnopqrstuvwxyz" : Str).cps.toList) : letq c = true := decide_eq_true h
theorem sign_mem {c : Nat} (h : c ∈ (("abcdefghijklmnopqrstuvwxyz" : Str) ++ ("0123456789" : Str)).cps.toList) : (letq c || digq c) = true := by
  rw [app_list] at h
  rcases List.mem_append.mp h with h | h
  · rw [show letq c = true from decide_eq_true h]; rfl
  · rw [show digq c = true from decide_eq_true h, Bool.or_true]
theorem let_small {c : Nat} (h : letq c = true) : c < 128 := by
  have h2 : c ∈ ("abcdefghijklmnopqrstuvwxyz" : Str).cps.toList := of_decide_eq_true h
  exact (show ∀ c ∈ ("abcdefghijklmnopqrstuvwxyz" : Str).cps.toList, c < 128 by decide +kernel) c h2
theorem dig_small {c : Nat} (h : digq c = true) : c < 128 := by
  have h2 : c ∈ ("0123456789" : Str).cps.toList := of_decide_eq_true h
  exact (show ∀ c ∈ ("0123456789" : Str).cps.toList, c < 128 by decide +kernel) c h2
theorem nameOk_inv {s : Str} (h : nameOk s = true) : 1 ≤ s.length ∧ s.length ≤ 8 ∧ headq s = true ∧ partsq s = true := by
  unfold nameOk at h
  simp only [Bool.and_eq_true, decide_eq_true_eq] at h
  exact ⟨h.1.1.1, h.1.1.2, h.1.2, h.2⟩
theorem fit_name {s : Str} (h : nameOk s = true) : fit (.str s) = true := by
  obtain ⟨h1, h2, _, h4⟩ := nameOk_inv h
  rw [fit, decide_eq_true (by omega), Bool.true_and]
  unfold PyData.strOk
  rw [← Array.all_toList]
  refine List.all_eq_true.mpr fun c hc => ?_
  have := List.all_eq_true.mp h4 c hc
  refine decide_eq_true ?_
  rcases Bool.or_eq_true_iff.mp this with z | z
  · have := let_small z; omega
  · have := dig_small z; omega
theorem fit_list {ds : List PyData} (h1 : ds.length ≤ 100000) (h : ∀ d ∈ ds, fit d = true) : fit (.list ds) = true := by rw [fit, decide_eq_true h1, Bool.true_and]; exact fitAll_iff.mpr h
def sp__law_name (K : PySem.W.Frag) : Sp := fun vs H Q _ => ∃ G a, vs = [.ref a] ∧ Y.Ex G H ∧ PoolAt K a G H ∧ ∀ s G' H', ((nameOk s = true ∧ s ≠ "zz9") ∧ (s.length ≠ 3 ∨ s = "end")) → Nx [a] G H G' H' → PoolAt K a G' H' → Q (.str s) H'
theorem ok__law_name (T : Tx fa fn bx K mg) : FnOk P w K mg base CX0 3 (He.ga K "_law_name") (fdOf K (He.ga K "_law_name")) ["pool"] (sp__law_name K) := by
  refine FunD.ok (F__law_name T) sc__law_name (fun vs H Q E h => ?_) (fun cdv A outer s H vs Q E hr h => ?_)
  · obtain ⟨_, _, rfl, _⟩ := h
    rfl
  · obtain ⟨G, a, rfl, e, hp, q⟩ := h
    refine ⟨_, PSs.nox ((pss_cons (ps_set (i := 1) sc__law_name.nd rfl (Or.inl rfl) pe_str)
      (pss_cons (ps_set (i := 2) sc__law_name.nd rfl (Or.inl rfl) (pe_ix (Y.ix_listK (K := K) rfl) (pe_lst (pa_cons pe_str (pa_cons pe_str (pa_cons pe_str (pa_cons pe_str (pa_cons pe_str (pa_cons pe_str pa_nil))))))) (Y.pe_callC (ok__law_take T) (cal__law_take T) (hr.mono (by decide)) (by rfl) pass0 (pa_cons (pv 0) (pa_cons pe_int pa_nil))) (fun _ _ => rfl)))
      (pss_cons (ps_if (pt_cmpR op_eq (Y.pe_callC (ok__law_take T) (cal__law_take T) (hr.mono (by decide)) (by rfl) pass0 (pa_cons (pv 0) (pa_cons pe_int pa_nil))) pe_int (nomark _))
      (pss_cons (ps_set (i := 2) sc__law_name.nd rfl (Or.inl rfl) (pe_ix ix_str (pv 1) (Y.pe_callC (ok__law_take T) (cal__law_take T) (hr.mono (by decide)) (by rfl) pass0 (pa_cons (pv 0) (pa_cons pe_int pa_nil))) (fun _ _ => rfl)))
      (pss_one (ps_for PassesOwn.never rfl (pi_range1 (by rfl) (T.free 35) (pa_cons (pe_ix (Y.ix_listK (K := K) rfl) (pe_lst (pa_cons pe_int (pa_cons pe_int (pa_cons pe_int (pa_cons pe_int pa_nil))))) (Y.pe_callC (ok__law_take T) (cal__law_take T) (hr.mono (by decide)) (by rfl) pass0 (pa_cons (pv 0) (pa_cons pe_int pa_nil))) (fun _ _ => rfl)) pa_nil)) (pg_name (i := 3) sc__law_name.nd rfl (Or.inl rfl))
      (pss_one (ps_set (i := 2) sc__law_name.nd rfl (Or.inl rfl) (pe_op Y.op_addS (pv 2) (pe_ix ix_str (pe_op Y.op_addS (pv 1) pe_str) (Y.pe_callC (ok__law_take T) (cal__law_take T) (hr.mono (by decide)) (by rfl) pass0 (pa_cons (pv 0) (pa_cons pe_int pa_nil))) (fun _ _ => rfl))))))))
      pss_nil)
      (pss_one (ps_ret (pv 2))))))), ?_⟩
    walk_at "sx"
    refine g_lstD (K := K) (ds := [.str "a", .str "b", .str "view", .str "end", .str "link", .str "c"]) e (by walk_at "da") (by show 6 ≤ sizeLine; decide) fun p G1 H1 n1 dp => ?_
    walk_at "sx"
    refine ⟨G1, a, 6, rfl, n1.gh, hp.go n1 (by simp), by decide, by decide, fun i H2 i0 i1 n2 hp2 => ?_⟩
    walk_at "sx"
    refine g_ixLn n2.gh dp i0 (by simpa using i1) fun v d hm _ dv => ?_
    obtain ⟨s, rfl, hs⟩ : ∃ s, d = .str s ∧ ((nameOk s = true ∧ s ≠ "zz9") ∧ (s.length ≠ 3 ∨ s = "end")) := by
      simp only [List.mem_cons, List.not_mem_nil, or_false] at hm
      rcases hm with h | h | h | h | h | h <;> exact ⟨_, h, by decide +kernel⟩
    cases dp_str dv
    have n12 := n1.pure.trans n2
    clear dp dv hm i0 i1
    walk_at "sx"
    refine ⟨G1, a, 3, rfl, n2.gh, hp2, by decide, by decide, fun i H3 i0 i1 n3 hp3 => ?_⟩
    walk_at "sx"
    have n13 := n12.trans n3
    refine g_dec (fun h2 => ?_) (fun h2 => ?_) <;> walk_at "sx"
    · refine ⟨G1, a, 26, rfl, n3.gh, hp3, by decide, by decide, fun i4 H4 j0 j1 n4 hp4 => ?_⟩
      walk_at "sx"
      refine g_ixSn (by decide) j0 j1 fun c hc => ?_
      walk_at "sx"
      refine g_lstD (K := K) (ds := [.int 0, .int 1, .int 3, .int 7]) n4.gh (by walk_at "da") (by show 4 ≤ sizeLine; decide) fun p2 G5 H5 n5 dp2 => ?_
      walk_at "sx"
      refine ⟨G5, a, 4, rfl, n5.gh, hp4.go n5 (by simp), by decide, by decide, fun i6 H6 k0 k1 n6 hp6 => ?_⟩
      walk_at "sx"
      refine g_ixLn n6.gh dp2 k0 (by simpa using k1) fun v d hm _ dv => ?_
      obtain ⟨m, rfl, hm0, hm7, hm2⟩ : ∃ m : Int, d = .int m ∧ 0 ≤ m ∧ m ≤ 7 ∧ m ≠ 2 := by
        simp only [List.mem_cons, List.not_mem_nil, or_false] at hm
        rcases hm with h | h | h | h <;> exact ⟨_, h, by decide, by decide, by decide⟩
      cases dp_int dv
      walk_at "sx"
      have n16 := ((n13.trans n4).trans n5.pure).trans n6
      refine g_walkR (by omega) (by omega) ?_
      refine g_forS (K := K) (M := [a]) (src_rng 0 m.toNat) n6.gh (fun i σ G' H' => PoolAt K a G' H' ∧ ∃ s y, σ = [some (.ref a), some (.str "abcdefghijklmnopqrstuvwxyz"), some (.str s), y] ∧ s.length = 1 + i ∧ headq s = true ∧ partsq s = true) ⟨hp6, _, _, rfl, rfl, by show letq c = true; exact let_mem hc, ?_⟩ ?_ ?_
      · show ([c] : List Nat).all _ = true
        simp only [List.all_cons, List.all_nil, let_mem hc]
        rfl
      · rintro i d w σ' G7 H7 G8 H8 hi n7 ⟨hp7, s, y, rfl, hl, hh, hq⟩ n8 dw
        have hil : i < m.toNat := by
          have := (List.getElem?_eq_some_iff.mp hi).1
          simpa [rng] using this
        have hp8 := hp7.go n8 (by simp)
        walk_at "sx"
        refine g_addS (by decide) ?_
        walk_at "sx"
        refine ⟨G8, a, 36, rfl, n8.gh, hp8, by decide, by decide, fun i9 H9 l0 l1 n9 hp9 => ?_⟩
        walk_at "sx"
        refine g_ixSn (by decide) l0 l1 fun c2 hc2 => ?_
        walk_at "sx"
        refine g_addS (by rw [hl]; show 1 + i + 1 ≤ sizeLine; rw [sizeLine_eq]; omega) ?_
        walk_at "sx"
        refine ⟨G8, (n7.trans n8.pure).trans n9, hp9, _, _, rfl, ?_, headq_app hh, partsq_app hq ?_⟩
        · rw [app_len, hl]; rfl
        · show ([c2] : List Nat).all _ = true
          simp only [List.all_cons, List.all_nil, sign_mem hc2]
          rfl
      · rintro σ' G7 H7 n7 ⟨hp7, s, y, rfl, hl, hh, hq⟩
        walk_at "sx"
        have : (rng 0 m.toNat).length = m.toNat := by simp [rng]
        refine q s G7 H7 ⟨⟨nameOk_of (by omega) (by omega) hh hq, fun z => ?_⟩, .inl (by omega)⟩ (n16.trans n7) hp7
        rw [z] at hl
        have h3 : ("zz9" : Str).length = 3 := by decide
        omega
    · exact q s G1 H3 hs n13 hp3
theorem dig1 : ∀ i : Nat, i < 10 → partsq (toString (i : Int)) = true ∧ Str.length (toString (i : Int)) = 1 := by decide +kernel
theorem name_cut {s : Str} {i : Nat} (h : nameOk s = true) (hi : i < 10) : nameOk (cutS s none (some 6) ++ toString (i : Int)) = true := by
  have hc := cutS_hi s 6
  unfold nameOk at h
  simp only [Bool.and_eq_true, decide_eq_true_eq] at h
  obtain ⟨⟨⟨h1, h2⟩, h3⟩, h4⟩ := h
  have hl : s.cps.toList.length = s.length := Array.length_toList
  have hn : (cutS s none (some 6)).length ≤ 6 := by
    show (cutS s none (some 6)).cps.size ≤ 6
    rw [← Array.length_toList]
    show (cutS s none (some ((6 : Nat) : Int))).cps.toList.length ≤ 6
    rw [hc, List.length_take]
    omega
  have d1 := dig1 i hi
  refine nameOk_of ?_ ?_ (headq_app ?_) (partsq_app ?_ d1.1)
  · rw [app_len, d1.2]; omega
  · rw [app_len, d1.2]; omega
  · unfold headq
    show (match (cutS s none (some ((6 : Nat) : Int))).cps.toList with | [] => false | c :: _ => letq c) = true
    rw [hc]
    cases e : s.cps.toList with
    | nil => rw [e] at hl; simp at hl; omega
    | cons c r => rw [e] at h3; exact h3
  · unfold partsq
    show (cutS s none (some ((6 : Nat) : Int))).cps.toList.all _ = true
    rw [hc]
    exact List.all_eq_true.mpr fun c hc => List.all_eq_true.mp h4 c (List.mem_of_mem_take hc)
theorem name_zq {i : Nat} (hi : i < 10) : nameOk (("z" : Str) ++ toString (i : Int) ++ ("q" : Str)) = true := (by decide +kernel : ∀ i : Nat, i < 10 → nameOk (("z" : Str) ++ toString (i : Int) ++ ("q" : Str)) = true) i hi
theorem name_zq9 {i : Nat} (hi : i < 10) : ("z" : Str) ++ toString (i : Int) ++ ("q" : Str) ≠ "zz9" := (by decide +kernel : ∀ i : Nat, i < 10 → ("z" : Str) ++ toString (i : Int) ++ ("q" : Str) ≠ "zz9") i hi
theorem dig_cps : ∀ i : Nat, i < 9 → (toString (i : Int) : Str).cps.toList = [48 + i] := by decide +kernel
theorem name_cut9 {s : Str} {i : Nat} (hi : i < 9) : s ++ toString (i : Int) ≠ "zz9" := by
  intro z
  have h1 : (s ++ toString (i : Int)).cps.toList.getLast? = ("zz9" : Str).cps.toList.getLast? := by rw [z]
  rw [app_list, dig_cps i hi, List.getLast?_append] at h1
  have h2 : ("zz9" : Str).cps.toList.getLast? = some 57 := by decide +kernel
  rw [h2] at h1
  simp at h1
  omega
def zq (i : Nat) : Str := ("z" : Str) ++ toString (i : Int) ++ ("q" : Str)
/-- the names drawn ahead of turn i -/
def goodN (i : Nat) (s : Str) : Prop := (s.length ≠ 3 ∨ s = "end") ∨ (∃ c, s.cps.toList.getLast? = some c ∧ 48 ≤ c ∧ c ≤ 57) ∨ ∃ j, j < i ∧ s = zq j
theorem zq_facts : ∀ i : Nat, i < 10 → Str.length (zq i) = 3 ∧ zq i ≠ "end" ∧ (zq i).cps.toList.getLast? = some 113 ∧ ∀ j : Nat, j < i → zq j ≠ zq i := by decide +kernel
theorem zq_new {i : Nat} {s : Str} (hi : i < 10) (h : goodN i s) : s ≠ zq i := by
  obtain ⟨f1, f2, f3, f4⟩ := zq_facts i hi
  rintro rfl
  rcases h with (h | h) | ⟨c, h, h1, h2⟩ | ⟨j, hj, h⟩
  · exact h f1
  · exact f2 h
  · rw [f3] at h
    cases h
    omega
  · exact f4 j hj h.symm
theorem goodN.mono {i j : Nat} {s : Str} (h : goodN i s) (hij : i ≤ j) : goodN j s := by
  rcases h with h | h | ⟨k, hk, h⟩
  · exact .inl h
  · exact .inr (.inl h)
  · exact .inr (.inr ⟨k, by omega, h⟩)
theorem cut_good {s : Str} {i : Nat} (hi : i < 9) : goodN (i + 1) (s ++ toString (i : Int)) := by
  refine .inr (.inl ⟨48 + i, ?_, by omega, by omega⟩)
  rw [app_list, dig_cps i hi, List.getLast?_append]
  rfl
def sp__law_names (K : PySem.W.Frag) : Sp := fun vs H Q _ => ∃ G a c, vs = [.ref a, .int c] ∧ Y.Ex G H ∧ PoolAt K a G H ∧ 0 ≤ c ∧ c ≤ 9 ∧ ∀ (p : Addr) (ns : List Str) G' H', (∀ s ∈ ns, nameOk s = true ∧ s ≠ "zz9") → ((ns.length : Int) = c ∧ ns.Nodup) → H p = none → LstAt K p G' H' (ns.map .str) → Nx [a] G H G' H' → PoolAt K a G' H' → Q (.ref p) H'
theorem ok__law_names (T : Tx fa fn bx K mg) : FnOk P w K mg base CX0 4 (He.ga K "_law_names") (fdOf K (He.ga K "_law_names")) ["pool", "count"] (sp__law_names K) := by
  refine FunD.ok (F__law_names T) sc__law_names (fun vs H Q E h => ?_) (fun cdv A outer s H vs Q E hr h => ?_)
  · obtain ⟨_, _, _, rfl, _⟩ := h
    rfl
  · obtain ⟨G, a, c, rfl, e, hp, hc0, hc1, q⟩ := h
    refine ⟨_, PSs.nox ((pss_cons (ps_set (i := 2) sc__law_names.nd rfl (Or.inl rfl) (pe_lst pa_nil))
      (pss_cons (ps_for PassesOwn.never rfl (pi_range1 (by rfl) (T.free 35) (pa_cons (pv 1) pa_nil)) (pg_name (i := 3) sc__law_names.nd rfl (Or.inl rfl))
      (pss_cons (ps_set (i := 4) sc__law_names.nd rfl (Or.inl rfl) (Y.pe_callC (ok__law_name T) (cal__law_name T) (hr.mono (by decide)) (by rfl) pass0 (pa_cons (pv 0) pa_nil)))
      (pss_cons (ps_if (pt_cmpR (Y.op_inK (K := K) rfl) (pv 4) (pv 2) (by rfl))
      (pss_one (ps_set (i := 4) sc__law_names.nd rfl (Or.inl rfl) (pe_op Y.op_addS (pe_slice sl_str (pv 4) po_none (po_some pe_int)) (pe_callTy Y.call_strI (by rfl) (T.free 5) (by decide +kernel) (pa_cons (pv 3) pa_nil)))))
      pss_nil)
      (pss_cons (ps_if (pt_cmpR (Y.op_inK (K := K) rfl) (pv 4) (pv 2) (by rfl))
      (pss_one (ps_set (i := 4) sc__law_names.nd rfl (Or.inl rfl) (pe_op Y.op_addS (pe_op Y.op_addS pe_str (pe_callTy Y.call_strI (by rfl) (T.free 5) (by decide +kernel) (pa_cons (pv 3) pa_nil))) pe_str)))
      pss_nil)
      (pss_one (ps_expr (Y.pe_bmK (K := K) rfl PySem.F.plainAttrs_list PySem.F.slot_list_append PySem.F.type_list_append mt_append (pv 2) (pa_cons (pv 4) pa_nil))))))))
      (pss_one (ps_ret (pv 2)))))), ?_⟩
    walk_at "sx"
    refine g_lstM (xs := []) e (Nat.zero_le _) fun p H1 n1 np hp1 gp => ?_
    have hpa : p ≠ a := fun z => hp.live (z ▸ np)
    walk_at "sx"
    refine g_walkR (by omega) (by omega) ?_
    refine g_forS (K := K) (M := [a, p]) (src_rng 0 _) n1.gh (fun i σ G' H' => PoolAt K a G' H' ∧ ∃ ns y3 y4, σ = [some (.ref a), some (.int c), some (.ref p), y3, y4] ∧ ns.length = i ∧ (∀ s ∈ ns, nameOk s = true ∧ s ≠ "zz9") ∧ ((∀ s ∈ ns, goodN i s) ∧ ns.Nodup) ∧ LstAt K p G' H' (ns.map .str)) ⟨hp.go n1 (by simp), [], _, _, rfl, rfl, by simp, ⟨by simp, by simp⟩, [], hp1, gp, .nil⟩ ?_ ?_
    · rintro i d w σ' G2 H2 G3 H3 hi n2 ⟨hp2, ns, y3, y4, rfl, hl, hn, ⟨hg, hnd⟩, hL⟩ n3 dw
      obtain ⟨hic, rfl⟩ := rng_get hi
      cases dp_int dw
      have hi10 : i < 10 := by omega
      walk_at "sx"
      refine ⟨G3, a, rfl, n3.gh, hp2.go n3 (by simp), fun s G4 H4 ⟨⟨hs, hz⟩, h3⟩ n4 hp4 => ?_⟩
      have hs8 : s.length ≤ 8 := (nameOk_inv hs).2.1
      obtain ⟨vs, hvs, gvs, dvs⟩ := (hL.go n3 (by simp)).go n4 (by simp [hpa])
      rw [dpAll_str_inv dvs] at hvs
      have n24 : Nx [a, p] G H1 G4 H4 := (n2.trans n3.pure).trans (n4.mono fun x hx => by simp at hx; simp [hx])
      have fin : ∀ t, (nameOk t = true ∧ t ≠ "zz9") → goodN (i + 1) t → t ∉ ns → ∃ G5, Nx [a, p] G H1 G5 (upd H4 p (.lst (ns.map V.str ++ [.str t]))) ∧ (PoolAt K a G5 (upd H4 p (.lst (ns.map V.str ++ [.str t]))) ∧ ∃ (ns' : List Str) (y3 y4 : Option V), [some (V.ref a), some (.int c), some (.ref p), some (.int (i : Int)), some (.str t)] = [some (.ref a), some (.int c), some (.ref p), y3, y4] ∧ ns'.length = i + 1 ∧ (∀ s ∈ ns', nameOk s = true ∧ s ≠ "zz9") ∧ ((∀ s ∈ ns', goodN (i + 1) s) ∧ ns'.Nodup) ∧ LstAt K p G5 (upd H4 p (.lst (ns.map V.str ++ [.str t]))) (ns'.map .str)) := fun t ht tg tn =>
        ⟨G4, n24.trans (Nx.set n24.gh gvs (by simp)), hp4.upd hpa, ns ++ [t], _, _, rfl, by simp [hl], fun x hx => by
          rcases List.mem_append.mp hx with hx | hx
          · exact hn x hx
          · simp only [List.mem_cons, List.not_mem_nil, or_false] at hx
            exact hx ▸ ht, ⟨fun x hx => by
          rcases List.mem_append.mp hx with hx | hx
          · exact (hg x hx).mono (by omega)
          · simp only [List.mem_cons, List.not_mem_nil, or_false] at hx
            exact hx ▸ tg, List.nodup_append.mpr ⟨hnd, by simp, fun x hx y hy => by
          simp only [List.mem_cons, List.not_mem_nil, or_false] at hy
          rintro rfl
          exact tn (hy ▸ hx)⟩⟩, _, upd_same, gvs, by rw [List.map_append]; exact dpAll_snoc (dpAll_str ns) (.str t)⟩
      have hlz : (ns.map V.str).length < sizeLine := by rw [List.length_map, hl]; exact szl (by omega)
      have lg : (i : Int).natAbs.log2 < 1920 := by
        have : (i : Int).natAbs = i := by omega
        rw [this]
        exact Nat.lt_of_le_of_lt (Nat.log2_le_self i) (by omega)
      have d1 := dig1 i hi10
      walk_at "sx"
      refine g_inSF (.of hvs) ?_
      walk_at "sx"
      refine g_dec (fun z1 => ?_) (fun z1 => ?_) <;> walk_at "sx"
      · refine g_slS (szle (by omega)) ?_
        walk_at "sx"
        refine g_strI lg ?_
        walk_at "sx"
        have hc := name_cut hs hi10
        have hcl : (cutS s none (some 6)).length ≤ s.length := cutS_length s none (some 6)
        refine g_addS (by rw [d1.2]; exact szle (by omega)) ?_
        walk_at "sx"
        refine g_inSF (.of hvs) ?_
        walk_at "sx"
        refine g_dec (fun z2 => ?_) (fun z2 => ?_) <;> walk_at "sx"
        · refine g_strI lg ?_
          walk_at "sx"
          refine g_addS (by rw [d1.2]; decide) ?_
          walk_at "sx"
          refine g_addS (by rw [app_len, d1.2]; decide) ?_
          walk_at "sx"
          refine g_tyL hvs ?_
          walk_at "sx"
          refine g_app hvs hlz ?_
          exact fin _ ⟨name_zq hi10, name_zq9 hi10⟩ (.inr (.inr ⟨i, by omega, rfl⟩)) (fun z => zq_new hi10 (hg _ z) rfl)
        · refine g_tyL hvs ?_
          walk_at "sx"
          refine g_app hvs hlz ?_
          exact fin _ ⟨hc, name_cut9 (by omega)⟩ (cut_good (by omega)) z2
      · refine g_inSF (.of hvs) ?_
        walk_at "sx"
        refine g_dec (fun z2 => absurd z2 z1) (fun z2 => ?_)
        walk_at "sx"
        refine g_tyL hvs ?_
        walk_at "sx"
        refine g_app hvs hlz ?_
        exact fin _ ⟨hs, hz⟩ (.inl h3) z2
    · rintro σ' G2 H2 n2 ⟨hp2, ns, y3, y4, rfl, hl, hn, ⟨hg, hnd⟩, hL⟩
      rw [rng_len] at hl
      walk_at "sx"
      exact q p ns G2 H2 hn ⟨by omega, hnd⟩ np hL (((n1.pure (M := [a, p])).trans n2).sub fun x hx => by
        simp only [List.mem_cons, List.not_mem_nil, or_false] at hx
        rcases hx with rfl | rfl
        · exact .inl (by simp)
        · exact .inr np) hp2
def sp__law_pool (K : PySem.W.Frag) : Sp := fun vs H Q _ => ∃ (G : Hp) (a : Addr) (ns : List Int), vs = [.ref a] ∧ Y.Ex G H ∧ SqL K G a (ns.map V.int) ∧ ∀ p G' H', Nx [] G H G' H' → H p = none → PoolAt K p G' H' → Q (.ref p) H'
theorem ok__law_pool (T : Tx fa fn bx K mg) : FnOk P w K mg base CX0 1 (He.ga K "_law_pool") (fdOf K (He.ga K "_law_pool")) ["script"] (sp__law_pool K) := by
  refine FunD.ok (F__law_pool T) sc__law_pool (fun vs H Q E h => ?_) (fun cdv A outer s H vs Q E hr h => ?_)
  · obtain ⟨_, _, _, rfl, _⟩ := h
    rfl
  · obtain ⟨G, a, ns, rfl, e, hs, q⟩ := h
    refine ⟨_, PSs.nox ((pss_one (ps_ret (pe_lst (pa_cons pe_int (pa_cons (pe_callTy (Y.call_listK (K := K) rfl) (by rfl) (T.free 24) (by decide +kernel) (pa_cons (pv 0) pa_nil)) (pa_cons (pe_un un_neg pe_int) pa_nil))))))), ?_⟩
    walk_at "sx"
    refine g_listOf e (.inl (.lst hs (dpAll_ints ns))) fun l G1 H1 n1 dl => ?_
    walk_at "sx"
    refine g_lstM (xs := [.int 0, .ref l, .int (-1)]) n1.gh (by show 3 ≤ sizeLine; decide) fun p H2 n2 np hp gp => ?_
    obtain ⟨l', vs, el, sl, dl'⟩ := dp_lst dl
    cases el
    rw [dpAll_ints_inv dl'] at sl
    exact q p G1 H2 (n1.trans n2) (n1.fresh np) ⟨gp, 0, -1, l, ns, hp, sl, by decide, by decide⟩
def namesOf (ws : List PyData) : List PyData := ws.map fun v => .str (nmOf v)
def sp_Album_names (K : PySem.W.Frag) : Sp := fun vs H Q _ => ∃ G a d l ws ls, vs = [.ref a] ∧ Y.Ex G H ∧ AlbAt K a d l G H ws ls ∧ ∀ p H', Nx [] G H G H' → H p = none → LstAt K p G H' (namesOf ws) → Q (.ref p) H'
theorem names_dp {K : PySem.W.Frag} {G : Hp} : ∀ {kvs : List (Key × V)} {ws : List PyData}, kvs.map (·.1) = ws.map (fun v => (Sum.inr (nmOf v) : Key)) → DpAll K G (kvs.map fun kv => kV kv.1) (namesOf ws)
  | [], [], _ => .nil
  | [], _ :: _, h => by simp at h
  | _ :: _, [], h => by simp at h
  | (k, u) :: kvs, v :: vs, h => by
    simp only [List.map_cons, List.cons.injEq] at h
    obtain ⟨h1, h2⟩ := h
    refine .cons ?_ (names_dp h2)
    show Dp K G (kV k) (.str (nmOf v))
    rw [h1]
    exact .str _
theorem ok_Album_names (T : Tx fa fn bx K mg) : FnOk P w K mg base CX0 1 (He.ma K (He.ga K "Album") "names") (fdOf K (He.ma K (He.ga K "Album") "names")) ["self"] (sp_Album_names K) := by
  refine FunD.ok (F_Album_names T) sc_Album_names (fun vs H Q E h => ?_) (fun cdv A outer s H vs Q E hr h => ?_)
  · obtain ⟨_, _, _, _, _, _, rfl, _⟩ := h
    rfl
  · obtain ⟨G, a, d, l, ws, ls, rfl, e, hA, q⟩ := h
    refine ⟨_, PSs.nox ((pss_one (ps_ret (pe_callTy (call_list_dK rfl) (by rfl) (T.free 24) (by decide +kernel) (pa_cons (Y.pe_fldK (K := K) rfl (pv 0) rfl) pa_nil))))), ?_⟩
    obtain ⟨g1, g2, g3, ok, ⟨dx, h1⟩, ⟨kvs, h2, hk, dk⟩, xs, h3, dl⟩ := id hA
    walk_at "sx"
    refine g_fdW h1 (T.cls 20) (T.noat 40) rfl ?_
    walk_at "sx"
    refine g_listDk h2 fun p hp => ?_
    exact q p _ (Nx.own e hp) hp ⟨_, upd_same, e.free hp, names_dp hk⟩
def sp_Album_links (K : PySem.W.Frag) : Sp := fun vs H Q _ => ∃ G a d l ws ls, vs = [.ref a] ∧ Y.Ex G H ∧ AlbAt K a d l G H ws ls ∧ ∀ p H', Nx [] G H G H' → H p = none → LstAt K p G H' ls → Q (.ref p) H'
theorem ok_Album_links (T : Tx fa fn bx K mg) : FnOk P w K mg base CX0 1 (He.ma K (He.ga K "Album") "links") (fdOf K (He.ma K (He.ga K "Album") "links")) ["self"] (sp_Album_links K) := by
  refine FunD.ok (F_Album_links T) sc_Album_links (fun vs H Q E h => ?_) (fun cdv A outer s H vs Q E hr h => ?_)
  · obtain ⟨_, _, _, _, _, _, rfl, _⟩ := h
    rfl
  · obtain ⟨G, a, d, l, ws, ls, rfl, e, hA, q⟩ := h
    refine ⟨_, PSs.nox ((pss_one (ps_ret (pe_callTy (Y.call_listK (K := K) rfl) (by rfl) (T.free 24) (by decide +kernel) (pa_cons (Y.pe_fldK (K := K) rfl (pv 0) rfl) pa_nil))))), ?_⟩
    obtain ⟨g1, g2, g3, ok, ⟨dx, h1⟩, ⟨kvs, h2, hk, dk⟩, xs, h3, dl⟩ := id hA
    walk_at "sx"
    refine g_fdW h1 (T.cls 20) (T.noat 41) rfl ?_
    walk_at "sx"
    exact g_listL e ⟨xs, h3, g3, dl⟩ q
def PlOk (d : PyData) : Prop := ∃ x y z : Int, d = .tuple [.int x, .int y, .int z] ∧ (-4 ≤ x ∧ x ≤ 4) ∧ (-4 ≤ y ∧ y ≤ 4) ∧ -4 ≤ z ∧ z ≤ 4
def sml (d : PyData) : Prop := ∃ x : Int, d = .int x ∧ -20 ≤ x ∧ x ≤ 20
def LkOf (ns : List Str) (d : PyData) : Prop := ∃ (s t : Str) (x y z : Int), d = .tuple [.str s, .str t, .int x, .int y, .int z] ∧ s ∈ ns ∧ t ∈ ns ∧ s ≠ t ∧ (-20 ≤ x ∧ x ≤ 20) ∧ (-20 ≤ y ∧ y ≤ 20) ∧ -20 ≤ z ∧ z ≤ 20
def sp__law_links (K : PySem.W.Frag) : Sp := fun vs H Q _ => ∃ G a p ns m, vs = [.ref a, .ref p, .int m] ∧ Y.Ex G H ∧ PoolAt K a G H ∧ LstAt K p G H (ns.map .str) ∧ p ≠ a ∧ 1 ≤ ns.length ∧ ns.length ≤ 10 ∧ 0 ≤ m ∧ m ≤ 20 ∧
  ∀ r ls G' H', Nx [a] G H G' H' → PoolAt K a G' H' → H r = none → LstAt K r G' H' ls → (ls.length : Int) ≤ m → (∀ d ∈ ls, LkOf ns d) → Q (.ref r) H'
/-! links with their numbers, steps, walks -/
def num : Nat → List PyData → List (Nat × PyData)
  | _, [] => []
  | k, d :: r => (k, d) :: num (k + 1) r
def lkB (nm : List Str) (ls : List PyData) : List (Nat × PyData) := (num 0 ls).filter fun p => decide (lnA p.2 ∈ nm) && decide (lnB p.2 ∈ nm)
def lkM (nl : List (Nat × PyData)) : List (Key × PyData) := nl.map fun p => (Sum.inl (p.1 : Int), p.2)
abbrev Stp := Nat × Bool × Str
abbrev Way := List (Nat × Bool)
abbrev Plc := Int × Int × Int
def stepsL (n : Str) (p : Nat × PyData) : List Stp := (if lnA p.2 = n then [(p.1, true, lnB p.2)] else []) ++ (if lnB p.2 = n then [(p.1, false, lnA p.2)] else [])
def stepsOf (nl : List (Nat × PyData)) (n : Str) : List Stp := nl.flatMap (stepsL n)
def stD (s : Stp) : PyData := .tuple [.int (s.1 : Int), .bool s.2.1, .str s.2.2]
def waD (w : Nat × Bool) : PyData := .tuple [.int (w.1 : Int), .bool w.2]
def wayD (w : Way) : PyData := .tuple (w.map waD)
def plD (p : Plc) : PyData := .tuple [.int p.1, .int p.2.1, .int p.2.2]
theorem num_get : ∀ (k i : Nat) (ls : List PyData), (num k ls)[i]? = (ls[i]?).map fun d => (k + i, d)
  | _, _, [] => by simp [num]
  | k, 0, d :: r => by simp [num]
  | k, i + 1, d :: r => by
    show (num (k + 1) r)[i]? = _
    rw [num_get (k + 1) i r, List.getElem?_cons_succ]
    congr 1
    funext d
    rw [show k + 1 + i = k + (i + 1) by omega]
theorem num_len : ∀ (k : Nat) (ls : List PyData), (num k ls).length = ls.length
  | _, [] => rfl
  | k, d :: r => congrArg (· + 1) (num_len (k + 1) r)
theorem num_take : ∀ (k i : Nat) (ls : List PyData), num k (ls.take i) = (num k ls).take i
  | _, 0, _ => by simp [num]
  | _, _ + 1, [] => by simp [num]
  | k, i + 1, d :: r => by
    show (k, d) :: num (k + 1) (r.take i) = (k, d) :: (num (k + 1) r).take i
    rw [num_take]
theorem num_mem : ∀ {k : Nat} {ls : List PyData} {p : Nat × PyData}, p ∈ num k ls → k ≤ p.1 ∧ p.2 ∈ ls
  | k, d :: r, p, h => by
    rcases List.mem_cons.mp h with rfl | h
    · exact ⟨Nat.le_refl _, by simp⟩
    · obtain ⟨h1, h2⟩ := num_mem h
      exact ⟨by omega, by simp [h2]⟩
theorem num_nodup : ∀ (k : Nat) (ls : List PyData), ((num k ls).map (·.1)).Nodup
  | _, [] => by simp [num]
  | k, d :: r => by
    show (k :: (num (k + 1) r).map (·.1)).Nodup
    rw [List.nodup_cons]
    refine ⟨fun h => ?_, num_nodup (k + 1) r⟩
    obtain ⟨p, hp, h2⟩ := List.mem_map.mp h
    have := (num_mem hp).1
    omega
theorem lkB_take {nm : List Str} {ls : List PyData} {i : Nat} {d : PyData} (h : ls[i]? = some d) : lkB nm (ls.take (i + 1)) = lkB nm (ls.take i) ++ (if (decide (lnA d ∈ nm) && decide (lnB d ∈ nm)) = true then [(i, d)] else []) := by
  unfold lkB
  rw [num_take, num_take, List.take_add_one, num_get, h, List.filter_append]
  congr 1
  simp only [Option.map_some, Option.toList_some, Nat.zero_add]
  by_cases hc : (decide (lnA d ∈ nm) && decide (lnB d ∈ nm)) = true
  · rw [if_pos hc, List.filter_cons_of_pos (by simpa using hc)]
    rfl
  · rw [if_neg hc, List.filter_cons_of_neg (by simpa using hc)]
    rfl
theorem lkB_new {nm : List Str} {ls : List PyData} {i : Nat} : ((i : Nat) : Int) ∉ (lkB nm (ls.take i)).map (fun p => (p.1 : Int)) := by
  intro h
  obtain ⟨p, hp, h2⟩ := List.mem_map.mp h
  have hp := (List.mem_filter.mp hp).1
  rw [num_take] at hp
  obtain ⟨j, hj, hj2⟩ := List.mem_take_iff_getElem.mp hp
  have e1 : (num 0 ls)[j]? = some p := by rw [List.getElem?_eq_getElem (by omega), hj2]
  rw [num_get] at e1
  obtain ⟨d, _, rfl⟩ := Option.map_eq_some_iff.mp e1
  simp only at h2
  omega
theorem lkB_len (nm : List Str) (ls : List PyData) : (lkB nm ls).length ≤ ls.length := by
  unfold lkB
  exact Nat.le_trans (List.length_filter_le _ _) (Nat.le_of_eq (num_len 0 ls))
theorem lkB_mem {nm : List Str} {ls : List PyData} {p : Nat × PyData} (h : p ∈ lkB nm ls) : p.2 ∈ ls ∧ lnA p.2 ∈ nm ∧ lnB p.2 ∈ nm ∧ ls[p.1]? = some p.2 := by
  obtain ⟨h1, h2⟩ := List.mem_filter.mp h
  rw [Bool.and_eq_true, decide_eq_true_eq, decide_eq_true_eq] at h2
  refine ⟨(num_mem h1).2, h2.1, h2.2, ?_⟩
  obtain ⟨j, hj, hj2⟩ := List.mem_iff_getElem.mp h1
  have e1 : (num 0 ls)[j]? = some p := by rw [List.getElem?_eq_getElem hj, hj2]
  rw [num_get] at e1
  obtain ⟨d, hd, rfl⟩ := Option.map_eq_some_iff.mp e1
  simpa using hd
def sp__links_between (K : PySem.W.Frag) : Sp := fun vs H Q _ => ∃ G a d l ws ls p nm, vs = [.ref a, .ref p] ∧ Y.Ex G H ∧ AlbAt K a d l G H ws ls ∧ LstAt K p G H (nm.map .str) ∧ ∀ q G' H', Nx [] G H G' H' → H q = none → DctAt K q G' H' (lkM (lkB nm ls)) → Q (.ref q) H'
theorem ok__links_between (T : Tx fa fn bx K mg) : FnOk P w K mg base CX0 2 (He.ga K "_links_between") (fdOf K (He.ga K "_links_between")) ["album", "names"] (sp__links_between K) := by
  refine FunD.ok (F__links_between T) sc__links_between (fun vs H Q E h => ?_) (fun cdv A outer s H vs Q E hr h => ?_)
  · obtain ⟨_, _, _, _, _, _, _, _, rfl, _⟩ := h
    rfl
  · obtain ⟨G, a, d, l, ws, ls, p, nm, rfl, e, hA, hL, q⟩ := h
    refine ⟨_, PSs.nox ((pss_cons (ps_set (i := 2) sc__links_between.nd rfl (Or.inl rfl) pe_dnewK)
      (pss_cons (ps_for PassesOwn.never rfl (Y.pi_enumK (K := K) rfl (by rfl) (T.free 13) (pa_cons (Y.pe_meth0C (pv 0) (T.cls 20) (T.meth 30) (ok_Album_links T) (hr.mono (by decide)) (cal_Album_links T) pass0) pa_nil)) (Y.pg_tupK (K := K) (n := 2) rfl rfl (pgs_cons (pg_name (i := 3) sc__links_between.nd rfl (Or.inl rfl)) (pgs_cons (pg_name (i := 4) sc__links_between.nd rfl (Or.inl rfl)) pgs_nil)))
      (pss_one (ps_if (PW.pt (pw_and (pt_cmpR (Y.op_inK (K := K) rfl) (pe_ix (Y.ix_tupK (K := K) rfl) (pv 4) pe_int (fun _ _ => rfl)) (pv 1) (by rfl)) (pw_and1 (pt_cmpR (Y.op_inK (K := K) rfl) (pe_ix (Y.ix_tupK (K := K) rfl) (pv 4) pe_int (fun _ _ => rfl)) (pv 1) (by rfl)))))
      (pss_one (ps_dput (hu_of hr) (pv 2) (pv 3) (pv 4) rfl))
      pss_nil)))
      (pss_one (ps_ret (pv 2)))))), ?_⟩
    walk_at "sx"
    refine g_newD (K := K) e fun q0 H1 n1 hq0 hD => ?_
    walk_at "sx"
    have hA1 := hA.go n1 (by simp) (by simp) (by simp)
    have hL1 := hL.go n1 (by simp)
    obtain ⟨_, _, _, ok, ⟨dx, h1⟩, _⟩ := id hA1
    refine g_mth h1 rfl ?_
    walk_at "sx"
    refine ⟨G, a, d, l, ws, ls, rfl, n1.gh, hA1, fun pl H2 n2 hpl hLl => ?_⟩
    have hq0p : q0 ≠ p := fun z => hL.live (z ▸ hq0)
    have hq0l : q0 ≠ pl := fun z => hD.live (z ▸ hpl)
    have hL2 := hL1.go n2 (by simp)
    refine g_walkEs hLl fun S => ?_
    refine g_forS (K := K) (M := [q0]) (S [q0] (by simp [hq0l.symm])) n2.gh (fun i σ G' H' => ∃ y3 y4, σ = [some (.ref a), some (.ref p), some (.ref q0), y3, y4] ∧ DctAt K q0 G' H' (lkM (lkB nm (ls.take i)))) ⟨_, _, rfl, hD.go n2 (by simp)⟩ ?_ ?_
    · rintro i w v σ' G3 H3 G4 H4 hi n3 ⟨y3, y4, rfl, hD3⟩ n4 dv
      rw [prs_get] at hi
      obtain ⟨d0, hd0, rfl⟩ := Option.map_eq_some_iff.mp hi
      have hil : i < ls.length := (List.getElem?_eq_some_iff.mp hd0).1
      have lok := (ok.lo d0 (List.mem_of_getElem? hd0)).1
      obtain ⟨s, t, x, y, z, rfl, hs, ht⟩ := link_inv lok
      refine g_un2 n4.gh dv fun v1 v2 d1 d2 => ?_
      rw [Nat.zero_add] at d1
      cases dp_int d1
      have n24 : Nx [q0] G H2 G4 H4 := n3.trans n4.pure
      have hL4 := hL2.go n24 (by simp [hq0p.symm])
      have hD4 := hD3.go n4 (by simp)
      have el : (lkM (lkB nm (ls.take i))).length < 100000 := by
        have h1 := lkB_len nm (ls.take i)
        rw [List.length_take] at h1
        have := ok.ll
        unfold lkM
        rw [List.length_map]
        omega
      have keep : ¬ (s ∈ nm ∧ t ∈ nm) → ∃ G3', Nx [q0] G H2 G3' H4 ∧ ∃ y3 y4, [some (V.ref a), some (.ref p), some (.ref q0), some (.int (i : Int)), some v2] = [some (.ref a), some (.ref p), some (.ref q0), y3, y4] ∧ DctAt K q0 G3' H4 (lkM (lkB nm (ls.take (i + 1)))) := fun hc => ⟨G4, n24, _, _, rfl, by
        rw [lkB_take hd0, if_neg (fun z => by rw [Bool.and_eq_true, decide_eq_true_eq, decide_eq_true_eq] at z; exact hc z), List.append_nil]
        exact hD4⟩
      walk_at "sx"
      refine g_ixT (k := 0) n4.gh d2 rfl rfl fun u du => ?_
      cases dp_str du
      walk_at "sx"
      refine g_inSsF hL4 ?_
      walk_at "sx"
      refine g_dec (fun h1 => ?_) (fun h1 => ?_) <;> walk_at "sx"
      rotate_left
      · exact keep (fun z => h1 z.1)
      refine g_ixT (k := 1) n4.gh d2 rfl rfl fun u du => ?_
      cases dp_str du
      walk_at "sx"
      refine g_inSsF hL4 ?_
      walk_at "sx"
      refine g_dec (fun h2 => ?_) (fun h2 => ?_) <;> walk_at "sx"
      rotate_left
      · exact keep (fun z => h2 z.2)
      refine g_dcPut n4.gh hD4 (k := Sum.inl (i : Int)) rfl d2 el fun H5 n5 hD5 => ?_
      refine ⟨G4, n24.trans n5, _, _, rfl, ?_⟩
      rw [lkB_take hd0, if_pos (by rw [Bool.and_eq_true, decide_eq_true_eq, decide_eq_true_eq]; exact ⟨h1, h2⟩)]
      rw [ptM_new (fun hm => ?_)] at hD5
      · unfold lkM at hD5 ⊢
        rw [List.map_append]
        exact hD5
      · unfold lkM at hm
        rw [List.map_map] at hm
        obtain ⟨x, hx, hx2⟩ := List.mem_map.mp hm
        exact lkB_new (List.mem_map.mpr ⟨x, hx, by simpa using hx2⟩)
    · rintro σ' G3 H3 n3 ⟨y3, y4, rfl, hD3⟩
      rw [prs_len, List.take_length] at hD3
      walk_at "sx"
      exact q q0 G3 H3 ((n1.trans n2).pure.trans n3 |>.drop hq0) hq0 hD3
/-- the dict of the steps while it is made: its lists by address -/
structure StA (K : PySem.W.Frag) (D : Addr) (nm : List Str) (as : List Addr) (F : Str → List Stp) (G H : Hp) : Prop where
  dk : H D = some (.dK (List.zipWith (fun n a => ((Sum.inr n : Key), V.ref a)) nm as))
  gd : G D = none
  len : as.length = nm.length
  nd : as.Nodup
  nin : D ∉ as
  at_ : ∀ (j : Nat) (n : Str) (a : Addr), nm[j]? = some n → as[j]? = some a → LstAt K a G H ((F n).map stD)
section
variable {K : PySem.W.Frag} {D : Addr} {nm : List Str} {as : List Addr} {F : Str → List Stp} {G H G' H' : Hp} {M : List Addr}
theorem StA.go (r : StA K D nm as F G H) (n : Nx M G H G' H') (hD : D ∉ M) (ha : ∀ a ∈ as, a ∉ M) : StA K D nm as F G' H' :=
  ⟨n.fr D _ hD r.dk, n.old D r.gd ⟨_, r.dk, fun _ z => nomatch z⟩, r.len, r.nd, r.nin, fun j x a h1 h2 => (r.at_ j x a h1 h2).go n (ha a (List.mem_of_getElem? h2))⟩
theorem StA.updd (r : StA K D nm as F G H) {q : Addr} {o : HO} (h1 : q ≠ D) (h2 : q ∉ as) : StA K D nm as F G (upd H q o) :=
  ⟨by rw [upd_ne h1.symm]; exact r.dk, r.gd, r.len, r.nd, r.nin, fun j x a h3 h4 => (r.at_ j x a h3 h4).upd (fun z => h2 (z ▸ List.mem_of_getElem? h4))⟩
theorem StA.get (r : StA K D nm as F G H) (hnd : nm.Nodup) {j : Nat} {n : Str} (h : nm[j]? = some n) : ∃ a, as[j]? = some a ∧ valV (List.zipWith (fun n a => ((Sum.inr n : Key), V.ref a)) nm as) (Sum.inr n) = some (.ref a) := by
  have hj : j < nm.length := (List.getElem?_eq_some_iff.mp h).1
  have hja : j < as.length := by rw [r.len]; exact hj
  refine ⟨as[j], by simp [hja], ?_⟩
  have key : ∀ (nm : List Str) (as : List Addr) (j : Nat) (n : Str) (a : Addr), nm.Nodup → nm[j]? = some n → as[j]? = some a → valV (List.zipWith (fun n a => ((Sum.inr n : Key), V.ref a)) nm as) (Sum.inr n) = some (.ref a) := by
    intro nm
    induction nm with
    | nil => intro as j n a _ h _; simp at h
    | cons m nm ih =>
      intro as j n a hnd h h2
      cases as with
      | nil => simp at h2
      | cons b as =>
        rw [List.nodup_cons] at hnd
        show valV ((Sum.inr m, V.ref b) :: List.zipWith (fun n a => ((Sum.inr n : Key), V.ref a)) nm as) (Sum.inr n) = _
        cases j with
        | zero =>
          simp only [List.getElem?_cons_zero, Option.some.injEq] at h h2
          subst h h2
          exact valV_pos (p := (Sum.inr m, V.ref b)) rfl
        | succ j =>
          simp only [List.getElem?_cons_succ] at h h2
          have hne : m ≠ n := fun z => hnd.1 (z ▸ List.mem_of_getElem? h)
          rw [valV_neg (p := (Sum.inr m, V.ref b)) (by simpa using hne)]
          exact ih as j n a hnd.2 h h2
  exact key nm as j n _ hnd h (by simp [hja])
/-- one more step at a name -/
theorem StA.put (r : StA K D nm as F G H) (hnd : nm.Nodup) {j : Nat} {n : Str} {a : Addr} (h : nm[j]? = some n) (h2 : as[j]? = some a) {s : Stp} (x : Nx [a] G H G' H') (hL : LstAt K a G' H' ((F n ++ [s]).map stD)) : StA K D nm as (fun m => if m = n then F n ++ [s] else F m) G' H' := by
  have haD : D ≠ a := fun z => r.nin (by rw [z]; exact List.mem_of_getElem? h2)
  refine ⟨x.fr D _ (by simp [haD]) r.dk, x.old D r.gd ⟨_, r.dk, fun _ z => nomatch z⟩, r.len, r.nd, r.nin, fun j' n' a' h3 h4 => ?_⟩
  by_cases hj : j' = j
  · subst hj
    rw [h] at h3
    rw [h2] at h4
    cases h3; cases h4
    rw [if_pos rfl]
    exact hL
  · have hja : j < as.length := (List.getElem?_eq_some_iff.mp h2).1
    have hja' : j' < as.length := (List.getElem?_eq_some_iff.mp h4).1
    have hjn : j < nm.length := (List.getElem?_eq_some_iff.mp h).1
    have hjn' : j' < nm.length := (List.getElem?_eq_some_iff.mp h3).1
    have ha : a' ≠ a := fun z => hj ((List.getElem_inj r.nd).mp (by
      rw [List.getElem?_eq_getElem hja'] at h4
      rw [List.getElem?_eq_getElem hja] at h2
      rw [Option.some.inj h4, Option.some.inj h2, z] : as[j'] = as[j]))
    have hn : n' ≠ n := fun z => hj ((List.getElem_inj hnd).mp (by
      rw [List.getElem?_eq_getElem hjn'] at h3
      rw [List.getElem?_eq_getElem hjn] at h
      rw [Option.some.inj h3, Option.some.inj h, z] : nm[j'] = nm[j]))
    rw [if_neg hn]
    exact (r.at_ j' n' a' h3 h4).go x (by simp [ha])
end
/-- all is known at the end -/
theorem StA.know {K : PySem.W.Frag} {D : Addr} {nm : List Str} {as : List Addr} {F : Str → List Stp} {G H G0 H0 : Hp} {M : List Addr} (r : StA K D nm as F G H) (n : Nx M G0 H0 G H) (h0 : ∀ a ∈ as, H0 a = none) :
    ∃ G', Nx M G0 H0 G' H ∧ DctAt K D G' H (nm.map fun x => ((Sum.inr x : Key), PyData.list ((F x).map stD))) := by
  have key : ∀ k, k ≤ as.length → ∃ G', Nx M G0 H0 G' H ∧ Y.Ex G G' ∧ G' D = none ∧ (∀ (j : Nat) (a : Addr), k ≤ j → as[j]? = some a → G' a = none) ∧ ∀ (j : Nat) (x : Str) (a : Addr), j < k → nm[j]? = some x → as[j]? = some a → Dp K G' (.ref a) (.list ((F x).map stD)) := by
    intro k
    induction k with
    | zero => exact fun _ => ⟨G, n, Ex.refl _, r.gd, fun j a _ h => by
        have hjn : j < nm.length := by have := (List.getElem?_eq_some_iff.mp h).1; rw [r.len] at this; exact this
        obtain ⟨vs, _, g, _⟩ := r.at_ j nm[j] a (by simp [hjn]) h
        exact g, fun j x a h => absurd h (by omega)⟩
    | succ k ih =>
      intro hk
      obtain ⟨G', n', e', gD, gl, kn⟩ := ih (by omega)
      have hka : as[k]? = some as[k] := by simp
      have hkn : k < nm.length := by rw [← r.len]; exact hk
      obtain ⟨vs, h1, _, d1⟩ := r.at_ k nm[k] as[k] (by simp [hkn]) hka
      have gk := gl k _ (Nat.le_refl _) hka
      have ne : Ex G' (upd G' as[k] (.lst vs)) := Ex.new gk
      refine ⟨upd G' as[k] (.lst vs), n'.know (h0 _ (List.mem_of_getElem? hka)) h1 gk, e'.trans ne, ?_, fun j a hj hja => ?_, fun j x a hj hx hja => ?_⟩
      · rw [upd_ne (fun (z : D = as[k]) => r.nin (by rw [z]; exact List.mem_of_getElem? hka))]
        exact gD
      · have hjl : j < as.length := (List.getElem?_eq_some_iff.mp hja).1
        have : a ≠ as[k] := fun z => by
          rw [List.getElem?_eq_getElem hjl] at hja
          have := (List.getElem_inj r.nd).mp ((Option.some.inj hja).trans z)
          omega
        rw [upd_ne this]
        exact gl j a (by omega) hja
      · by_cases hjk : j < k
        · exact dp_mono ne (kn j x a hjk hx hja)
        · have : j = k := by omega
          subst this
          rw [hka] at hja
          have hx' : nm[j]? = some nm[j] := by simp [hkn]
          rw [hx'] at hx
          cases hja; cases hx
          exact .lst (.of upd_same) (dpAll_mono (e'.trans ne) d1)
  obtain ⟨G', n', _, gD, _, kn⟩ := key as.length (Nat.le_refl _)
  refine ⟨G', n', _, r.dk, gD, ?_, ?_⟩
  · rw [List.map_zipWith, List.map_map]
    have : ∀ (nm : List Str) (as : List Addr), as.length = nm.length → List.zipWith (fun (x : Str) (y : Addr) => (Sum.inr x : Key)) nm as = nm.map fun x => (Sum.inr x : Key) := by
      intro nm
      induction nm with
      | nil => intro as _; rfl
      | cons a nm ih =>
        intro as h
        cases as with
        | nil => simp at h
        | cons b as =>
          show (Sum.inr a : Key) :: List.zipWith _ nm as = (Sum.inr a : Key) :: nm.map _
          rw [ih as (by simpa using h)]
    exact this nm as r.len
  · refine dpAll_at (by simp [r.len]) fun i v d hv hd => ?_
    rw [List.getElem?_map, List.getElem?_zipWith] at hv
    rw [List.map_map, List.getElem?_map] at hd
    obtain ⟨x, hx, rfl⟩ := Option.map_eq_some_iff.mp hd
    rw [hx] at hv
    cases ha : as[i]? with
    | none => rw [ha] at hv; cases hv
    | some a =>
      rw [ha] at hv
      cases hv
      exact kn i x a ((List.getElem?_eq_some_iff.mp ha).1) hx ha
def stepsM (nm : List Str) (nl : List (Nat × PyData)) : List (Key × PyData) := nm.map fun x => ((Sum.inr x : Key), PyData.list ((stepsOf nl x).map stD))
def nlOk (nm : List Str) (nl : List (Nat × PyData)) : Prop := nl.length ≤ 1000 ∧ ∀ p ∈ nl, ∃ s t x y z, p.2 = .tuple [.str s, .str t, .int x, .int y, .int z] ∧ s ∈ nm ∧ t ∈ nm ∧ s ≠ t
def sp__steps_at (K : PySem.W.Frag) : Sp := fun vs H Q _ => ∃ G p nm q nl, vs = [.ref p, .ref q] ∧ Y.Ex G H ∧ LstAt K p G H (nm.map .str) ∧ DctAt K q G H (lkM nl) ∧ nm.Nodup ∧ nm.length ≤ 1000 ∧ nlOk nm nl ∧ ∀ r G' H', Nx [] G H G' H' → H r = none → DctAt K r G' H' (stepsM nm nl) → Q (.ref r) H'
theorem stepsOf_snoc {nl : List (Nat × PyData)} {p : Nat × PyData} {n : Str} : stepsOf (nl ++ [p]) n = stepsOf nl n ++ stepsL n p := by
  unfold stepsOf
  rw [List.flatMap_append]
  simp
theorem stepsOf_len (nl : List (Nat × PyData)) (n : Str) : (stepsOf nl n).length ≤ 2 * nl.length := by
  induction nl with
  | nil => exact Nat.zero_le _
  | cons p r ih =>
    have e : stepsOf (p :: r) n = stepsL n p ++ stepsOf r n := rfl
    rw [e, List.length_append]
    have : (stepsL n p).length ≤ 2 := by
      unfold stepsL
      rw [List.length_append]
      split <;> split <;> simp
    simp only [List.length_cons]
    omega
theorem ok__steps_at (T : Tx fa fn bx K mg) : FnOk P w K mg base CX0 1 (He.ga K "_steps_at") (fdOf K (He.ga K "_steps_at")) ["names", "links"] (sp__steps_at K) := by
  refine FunD.ok (F__steps_at T) sc__steps_at (fun vs H Q E h => ?_) (fun cdv A outer s H vs Q E hr h => ?_)
  · obtain ⟨_, _, _, _, _, rfl, _⟩ := h
    rfl
  · obtain ⟨G, p, nm, q0, nl, rfl, e, hL, hD, hnd, hnl, ⟨hll, hok⟩, q⟩ := h
    refine ⟨_, PSs.nox ((pss_cons (Y.ps_setDc (i := 2) (own := [("name", 5)]) (tt := tYes) rfl sc__steps_at.nd rfl rfl (Y.sw_trueD rfl rfl rfl (by decide +kernel)) (Y.pi_listK (K := K) rfl (pv 0)) (blkOk_by (own := [("name", 5)]) (by kernel_rfl)) (fun _ _ _ _ _ => (pg_name (i := 5) sc__steps_at.nd rfl (Or.inl rfl))) (fun _ _ _ _ _ => pts_nil) (fun _ _ _ _ _ => (pv 5)) (fun _ _ _ _ _ => (pe_lst pa_nil)))
      (pss_cons (ps_lock (ps_for PassesOwn.never rfl (pi_items (pv 1)) (Y.pg_tupK (K := K) (n := 2) rfl rfl (pgs_cons (pg_name (i := 3) sc__steps_at.nd rfl (Or.inl rfl)) (pgs_cons (pg_name (i := 4) sc__steps_at.nd rfl (Or.inl rfl)) pgs_nil)))
      (pss_cons (ps_asg (pe_slice (Y.sl_tupAK (K := K) rfl) (pv 4) po_none (po_some pe_int)) (Y.pg_tupK (K := K) (n := 2) rfl rfl (pgs_cons (pg_name (i := 6) sc__steps_at.nd rfl (Or.inl rfl)) (pgs_cons (pg_name (i := 7) sc__steps_at.nd rfl (Or.inl rfl)) pgs_nil))))
      (pss_cons (ps_expr (Y.pe_bmK (K := K) rfl PySem.F.plainAttrs_list PySem.F.slot_list_append PySem.F.type_list_append mt_append (pe_dget (hu_of hr) (pv 2) (pv 6) (fun _ _ => rfl)) (pa_cons (pe_tup (pa_cons (pv 3) (pa_cons pe_bl (pa_cons (pv 7) pa_nil)))) pa_nil)))
      (pss_one (ps_expr (Y.pe_bmK (K := K) rfl PySem.F.plainAttrs_list PySem.F.slot_list_append PySem.F.type_list_append mt_append (pe_dget (hu_of hr) (pv 2) (pv 7) (fun _ _ => rfl)) (pa_cons (pe_tup (pa_cons (pv 3) (pa_cons pe_bl (pa_cons (pv 6) pa_nil)))) pa_nil))))))))
      (pss_one (ps_ret (pv 2)))))), ?_⟩
    walk_at "sx"
    refine g_walkLs hL fun S => ?_
    intro A hA
    have hAp : A ≠ p := fun z => hL.live (z ▸ hA)
    have hAq : A ≠ q0 := fun z => hD.live (z ▸ hA)
    refine g_dcC (K := K) (M := []) (S [] (by simp)) e hA (by simp) (by rw [List.length_map]; omega) (fun i kvs G' H' => ∃ as : List Addr, kvs = List.zipWith (fun n a => ((Sum.inr n : Key), V.ref a)) (nm.take i) as ∧ as.length = min i nm.length ∧ as.Nodup ∧ A ∉ as ∧ (∀ a ∈ as, H a = none) ∧ ∀ a ∈ as, LstAt K a G' H' []) (fun i kvs G' H' o ⟨as, h1, h2, h3, h4, h5, h6⟩ => ⟨as, h1, h2, h3, h4, h5, fun a ha => (h6 a ha).upd (fun z => h4 (z ▸ ha))⟩) (fun i kvs G' H' G1 H1 n ⟨as, h1, h2, h3, h4, h5, h6⟩ => ⟨as, h1, h2, h3, h4, h5, fun a ha => (h6 a ha).go n (by simp)⟩) ⟨[], by simp, by simp, by simp, by simp, by simp, by simp⟩ (fun i d v kvs G' H' hi dv n hAl ⟨as, h1, h2, h3, h4, h5, h6⟩ QE QN k1 k2 => ?_) (fun G1 H1 kvs ⟨as, h1, h2, h3, h4, h5, h6⟩ n1 gA hA1 _ => ?_)
    · rw [List.getElem?_map] at hi
      obtain ⟨x, hx, rfl⟩ := Option.map_eq_some_iff.mp hi
      cases dp_str dv
      have hil : i < nm.length := (List.getElem?_eq_some_iff.mp hx).1
      walk_at "sx"
      refine g_lstLs (K := K) (L := []) n.gh .nil (Nat.zero_le _) fun r H2 n2 hr hLr => ?_
      have hal : as.length = i := by rw [h2]; omega
      refine k1 _ _ (Sum.inr x) G' H2 rfl n2 ⟨as ++ [r], ?_, by rw [List.length_append, hal]; simp; omega, ?_, ?_, ?_, ?_⟩
      · have e1 : putK kvs (Sum.inr x) (V.ref r) = ptM kvs (Sum.inr x) (V.ref r) := rfl
        rw [e1, ptM_new, h1, List.take_add_one, hx]
        · show _ = List.zipWith _ (nm.take i ++ [x]) (as ++ [r])
          rw [List.zipWith_append (by rw [List.length_take, hal]; omega)]
          rfl
        · rw [h1, List.map_zipWith]
          intro hm
          have : ∀ (as : List Addr) (nm : List Str), (Sum.inr x : Key) ∈ List.zipWith (fun (x : Str) (y : Addr) => (Sum.inr x : Key)) nm as → x ∈ nm := by
            intro as nm
            induction nm generalizing as with
            | nil => intro h; simp at h
            | cons m nm ih =>
              intro h
              cases as with
              | nil => simp at h
              | cons b as =>
                rcases List.mem_cons.mp h with h | h
                · simp only [Sum.inr.injEq] at h
                  simp [h]
                · exact List.mem_cons_of_mem _ (ih as h)
          have hm2 := this as (nm.take i) hm
          obtain ⟨j, hj, hj2⟩ := List.mem_take_iff_getElem.mp hm2
          have e2 : nm[i] = x := (List.getElem?_eq_some_iff.mp hx).2
          have := (List.getElem_inj hnd).mp (hj2.trans e2.symm)
          omega
      · refine List.nodup_append.mpr ⟨h3, by simp, fun a ha b hb => ?_⟩
        simp only [List.mem_cons, List.not_mem_nil, or_false] at hb
        subst hb
        exact fun z => (h6 a ha).live (z ▸ hr)
      · intro hm
        rcases List.mem_append.mp hm with hm | hm
        · exact h4 hm
        · simp only [List.mem_cons, List.not_mem_nil, or_false] at hm
          exact hAl (hm ▸ hr)
      · intro a ha
        rcases List.mem_append.mp ha with ha | ha
        · exact h5 a ha
        · simp only [List.mem_cons, List.not_mem_nil, or_false] at ha
          subst ha
          exact n.fresh hr
      · intro a ha
        rcases List.mem_append.mp ha with ha | ha
        · exact (h6 a ha).go n2 (by simp)
        · simp only [List.mem_cons, List.not_mem_nil, or_false] at ha
          subst ha
          exact hLr
    · rw [List.length_map] at h1 h2
      rw [List.take_length] at h1
      rw [Nat.min_self] at h2
      have st : StA K A nm as (stepsOf []) G1 H1 := ⟨by rw [hA1, h1], gA, h2, h3, h4, fun j n a _ ha => h6 a (List.mem_of_getElem? ha)⟩
      have hD1 := hD.go n1 (by simp)
      have hq0as : q0 ∉ as := fun hm => hD.live (h5 q0 hm)
      walk_at "sx"
      have sl := fun n => stepsOf_len nl n
      refine g_forItems (K := K) (M := as) hD1 n1.gh hq0as rfl (fun i σ G' H' => ∃ y3 y4 y6 y7, σ = [some (.ref p), some (.ref q0), some (.ref A), y3, y4, none, y6, y7] ∧ StA K A nm as (stepsOf (nl.take i)) G' H') (fun od u => ⟨_, _, _, _, rfl, st.go (Nx.set (M := [q0]) n1.gh (by obtain ⟨_, _, g, _⟩ := hD1; exact g) (by simp)) (by simp [hAq]) (fun a ha => by simp; exact fun z => hq0as (z ▸ ha))⟩) ?_ ?_
      · rintro i k x v σ' G2 H2 H0 G3 H3 hi n2 ⟨y3, y4, y6, y7, rfl, st2⟩ n3 dv R hR D' e1 e2
        unfold lkM at hi
        rw [List.getElem?_map] at hi
        obtain ⟨⟨nb, x0⟩, hx0, he⟩ := Option.map_eq_some_iff.mp hi
        simp only [Prod.mk.injEq] at he
        obtain ⟨rfl, rfl⟩ := he
        obtain ⟨s, t, dx, dy, dz, e5, hs, ht, hst⟩ := hok _ (List.mem_of_getElem? hx0)
        simp only at e5
        subst e5
        have st3 := st2.go n3 (by simp) (fun _ _ => by simp)
        refine g_un2 n3.gh dv fun v1 v2 d1 d2 => ?_
        cases dp_int d1
        walk_at "sx"
        refine g_slHi (k := 2) n3.gh d2 rfl fun v3 G4 H4 n4 d4 => ?_
        have st4 := st3.go n4 (by simp) (fun _ _ => by simp)
        refine g_un2 n4.gh d4 fun v5 v6 d5 d6 => ?_
        cases dp_str d5
        cases dp_str d6
        walk_at "sx"
        obtain ⟨js, hjs, hjs2⟩ := List.getElem_of_mem hs
        obtain ⟨jt, hjt, hjt2⟩ := List.getElem_of_mem ht
        have gs : nm[js]? = some s := by rw [List.getElem?_eq_getElem hjs, hjs2]
        have gt : nm[jt]? = some t := by rw [List.getElem?_eq_getElem hjt, hjt2]
        obtain ⟨as_, has, hvs⟩ := st4.get hnd gs
        refine g_rawGet st4.dk (k := Sum.inr s) rfl hvs ?_
        have hLs := st4.at_ js s as_ gs has
        refine g_tyLs hLs ?_
        walk_at "sx"
        refine g_tupD (K := K) (ds := [.int (nb : Int), .bool true, .str t]) n4.gh (.cons (.int _) (.cons (.bl _) (.cons (.str _) .nil))) (by show 3 ≤ sizeLine; decide) fun tp G5 H5 n5 d7 => ?_
        walk_at "sx"
        have st5 := st4.go n5 (by simp) (fun _ _ => by simp)
        have bl : ∀ n, ((stepsOf (nl.take i) n).map stD).length < 50000 := fun n => by
          have := stepsOf_len (nl.take i) n
          rw [List.length_take] at this
          rw [List.length_map]
          omega
        refine g_appLs n5.gh (hLs.go n5 (by simp)) d7 (by have := bl s; omega) fun H6 n6 hL6 => ?_
        have st6 := st5.put hnd gs has (s := (nb, true, t)) n6 (by rw [List.map_append]; exact hL6)
        walk_at "sx"
        obtain ⟨at_, hat, hvt⟩ := st6.get hnd gt
        refine g_rawGet st6.dk (k := Sum.inr t) rfl hvt ?_
        have hLt := st6.at_ jt t at_ gt hat
        rw [if_neg (fun z => hst z.symm)] at hLt
        refine g_tyLs hLt ?_
        walk_at "sx"
        refine g_tupD (K := K) (ds := [.int (nb : Int), .bool false, .str s]) n6.gh (.cons (.int _) (.cons (.bl _) (.cons (.str _) .nil))) (by show 3 ≤ sizeLine; decide) fun tp2 G7 H7 n7 d8 => ?_
        walk_at "sx"
        have st7 := st6.go n7 (by simp) (fun _ _ => by simp)
        refine g_appLs n7.gh (hLt.go n7 (by simp)) d8 (by have := bl t; omega) fun H8 n8 hL8 => ?_
        have st8 := st7.put hnd gt hat (s := (nb, false, s)) n8 (by rw [if_neg (fun z => hst z.symm), List.map_append]; exact hL8)
        rw [e1]
        have nn : Nx as G2 H2 G7 H8 := ((((n3.trans n4).trans n5).pure.trans (n6.mono fun w hw => by simp at hw; rw [hw]; exact List.mem_of_getElem? has)).trans n7.pure).trans (n8.mono fun w hw => by simp at hw; rw [hw]; exact List.mem_of_getElem? hat)
        refine hR _ G7 _ (n2.trans nn) ⟨_, _, _, _, rfl, ?_⟩
        have eF : stepsOf (nl.take (i + 1)) = fun m => if m = t then (if t = s then stepsOf (nl.take i) s ++ [(nb, true, t)] else stepsOf (nl.take i) t) ++ [(nb, false, s)] else if m = s then stepsOf (nl.take i) s ++ [(nb, true, t)] else stepsOf (nl.take i) m := by
          funext m
          rw [List.take_add_one, hx0]
          show stepsOf (nl.take i ++ [(nb, _)]) m = _
          rw [stepsOf_snoc]
          simp only [stepsL, lnA, lnB]
          by_cases h1 : m = t
          · subst h1
            have h3 : ¬ m = s := fun z => hst z.symm
            simp [hst, h3]
          · by_cases h2 : m = s
            · subst h2
              have h3 : ¬ t = m := fun z => h1 z.symm
              simp [h1, h3]
            · have h3 : ¬ t = m := fun z => h1 z.symm
              have h4 : ¬ s = m := fun z => h2 z.symm
              simp [h1, h2, h3, h4]
        rw [eF]
        exact st8
      · rintro σ' G2 H2 od u n2 g2 hD2 ⟨y3, y4, y6, y7, rfl, st2⟩
        unfold lkM at st2
        rw [List.length_map, List.take_length] at st2
        have st3 := st2.updd (o := u) hAq.symm hq0as
        obtain ⟨G3, n3, hD3⟩ := st3.know (n1.pure.trans n2) h5
        walk_at "sx"
        exact q A G3 _ (n3.sub fun x hx => .inr (h5 x hx)) hA hD3
/-! walks, breadth first -/
def behind (p : Plc) (d : PyData) (f : Bool) : Plc := match d with
  | .tuple [_, _, .int x, .int y, .int z] => if f = true then (p.1 + x, p.2.1 + y, p.2.2 + z) else (p.1 - x, p.2.1 - y, p.2.2 - z)
  | _ => p
abbrev Tab := List (Str × (Way × Plc))
def lkAt (nl : List (Nat × PyData)) (i : Nat) : PyData := (gtM nl i).getD .none
def visit (nl : List (Nat × PyData)) (w : Way) (p : Plc) (tab : Tab) (st : Stp) : Tab := if st.2.2 ∈ tab.map (·.1) then tab else tab ++ [(st.2.2, (w ++ [(st.1, st.2.1)], behind p (lkAt nl st.1) st.2.1))]
def proc (nl : List (Nat × PyData)) (tab : Tab) (i : Nat) : Tab := match tab[i]? with
  | none => tab
  | some e => (stepsOf nl e.1).foldl (visit nl e.2.1 e.2.2) tab
def walkP (nl : List (Nat × PyData)) (s : Str) : Nat → Tab
  | 0 => [(s, ([], (0, 0, 0)))]
  | i + 1 => proc nl (walkP nl s i) i
def enD (e : Way × Plc) : PyData := .tuple [wayD e.1, plD e.2]
def tabM (tab : Tab) : List (Key × PyData) := tab.map fun e => ((Sum.inr e.1 : Key), enD e.2)
structure TabOk (nm : List Str) (tab : Tab) : Prop where
  nd : (tab.map (·.1)).Nodup
  sub : ∀ s ∈ tab.map (·.1), s ∈ nm
  way : ∀ e ∈ tab, e.2.1.length ≤ tab.length
section
variable {nm : List Str} {nl : List (Nat × PyData)} {tab : Tab} {w : Way} {p : Plc} {st : Stp} {s : Str}
theorem TabOk.len (t : TabOk nm tab) : tab.length ≤ nm.length := by
  have := nodup_le t.nd t.sub
  rwa [List.length_map] at this
theorem TabOk.visit (t : TabOk nm tab) (hs : st.2.2 ∈ nm) (hw : w.length ≤ tab.length) : TabOk nm (visit nl w p tab st) := by
  unfold A.visit
  split
  · exact t
  · rename_i h
    refine ⟨?_, ?_, ?_⟩
    · rw [List.map_append]
      refine List.nodup_append.mpr ⟨t.nd, by simp, fun a ha b hb => ?_⟩
      simp only [List.map_cons, List.map_nil, List.mem_cons, List.not_mem_nil, or_false] at hb
      rintro rfl
      exact h (hb ▸ ha)
    · intro x hx
      rw [List.map_append, List.mem_append] at hx
      rcases hx with hx | hx
      · exact t.sub x hx
      · simp only [List.map_cons, List.map_nil, List.mem_cons, List.not_mem_nil, or_false] at hx
        exact hx ▸ hs
    · intro e he
      rw [List.length_append]
      rcases List.mem_append.mp he with he | he
      · have := t.way e he
        simp only [List.length_cons, List.length_nil]
        omega
      · simp only [List.mem_cons, List.not_mem_nil, or_false] at he
        subst he
        simp
        omega
theorem visit_pre : ∃ more, visit nl w p tab st = tab ++ more := by
  unfold visit
  split
  · exact ⟨[], by simp⟩
  · exact ⟨_, rfl⟩
theorem fold_pre : ∀ {sts : List Stp} {tab : Tab}, ∃ more, sts.foldl (visit nl w p) tab = tab ++ more
  | [], tab => ⟨[], by simp⟩
  | x :: r, tab => by
    obtain ⟨m1, h1⟩ := visit_pre (nl := nl) (w := w) (p := p) (tab := tab) (st := x)
    obtain ⟨m2, h2⟩ := fold_pre (sts := r) (tab := visit nl w p tab x)
    exact ⟨m1 ++ m2, by rw [List.foldl_cons, h2, h1, List.append_assoc]⟩
theorem TabOk.fold : ∀ {sts : List Stp} {tab : Tab}, TabOk nm tab → (∀ x ∈ sts, x.2.2 ∈ nm) → w.length ≤ tab.length → TabOk nm (sts.foldl (A.visit nl w p) tab)
  | [], tab, t, _, _ => t
  | x :: r, tab, t, h, hw => by
    rw [List.foldl_cons]
    obtain ⟨m1, h1⟩ := visit_pre (nl := nl) (w := w) (p := p) (tab := tab) (st := x)
    exact TabOk.fold (t.visit (h x (by simp)) hw) (fun y hy => h y (by simp [hy])) (by rw [h1, List.length_append]; omega)
theorem steps_mem {n : Str} {x : Stp} (h : x ∈ stepsOf nl n) : ∃ q ∈ nl, q.1 = x.1 ∧ ((lnA q.2 = n ∧ x.2.1 = true ∧ lnB q.2 = x.2.2) ∨ (lnB q.2 = n ∧ x.2.1 = false ∧ lnA q.2 = x.2.2)) := by
  obtain ⟨q, hq, h⟩ := List.mem_flatMap.mp h
  refine ⟨q, hq, ?_⟩
  unfold stepsL at h
  rcases List.mem_append.mp h with h | h
  · split at h
    · rename_i hn
      simp only [List.mem_cons, List.not_mem_nil, or_false] at h
      subst h
      exact ⟨rfl, .inl ⟨hn, rfl, rfl⟩⟩
    · cases h
  · split at h
    · rename_i hn
      simp only [List.mem_cons, List.not_mem_nil, or_false] at h
      subst h
      exact ⟨rfl, .inr ⟨hn, rfl, rfl⟩⟩
    · cases h
theorem steps_in (h : nlOk nm nl) {n : Str} {x : Stp} (hx : x ∈ stepsOf nl n) : x.2.2 ∈ nm ∧ n ∈ nm := by
  obtain ⟨q, hq, _, hc⟩ := steps_mem hx
  obtain ⟨s, t, a, b, c, e, hs, ht, _⟩ := h.2 q hq
  rw [e] at hc
  simp only [lnA, lnB] at hc
  rcases hc with ⟨h1, _, h2⟩ | ⟨h1, _, h2⟩
  · exact ⟨h2 ▸ ht, h1 ▸ hs⟩
  · exact ⟨h2 ▸ hs, h1 ▸ ht⟩
theorem TabOk.proc (t : TabOk nm tab) (h : nlOk nm nl) {i : Nat} : TabOk nm (proc nl tab i) := by
  unfold A.proc
  split
  · exact t
  · rename_i e he
    exact t.fold (fun x hx => (steps_in h hx).1) (t.way e (List.mem_of_getElem? he))
theorem walkP_ok (h : nlOk nm nl) (hs : s ∈ nm) : ∀ i, TabOk nm (walkP nl s i)
  | 0 => ⟨by simp [walkP], by simp [walkP, hs], by simp [walkP]⟩
  | i + 1 => (walkP_ok h hs i).proc h
theorem proc_pre {i : Nat} : ∃ more, proc nl tab i = tab ++ more := by
  unfold proc
  split
  · exact ⟨[], by simp⟩
  · exact fold_pre
theorem walkP_pre {a : Nat} : ∀ k, ∃ more, walkP nl s (a + k) = walkP nl s a ++ more
  | 0 => ⟨[], by simp⟩
  | k + 1 => by
    obtain ⟨m, h⟩ := walkP_pre k
    obtain ⟨m2, h2⟩ := proc_pre (nl := nl) (tab := walkP nl s (a + k)) (i := a + k)
    exact ⟨m ++ m2, by show proc nl (walkP nl s (a + k)) (a + k) = _; rw [h2, h, List.append_assoc]⟩
theorem walkP_get {a k i : Nat} {e : Str × (Way × Plc)} (h : (walkP nl s a)[i]? = some e) : (walkP nl s (a + k))[i]? = some e := by
  obtain ⟨m, hm⟩ := walkP_pre (nl := nl) (s := s) (a := a) k
  rw [hm, List.getElem?_append_left (List.getElem?_eq_some_iff.mp h).1]
  exact h
theorem walkP_done {a : Nat} (h : (walkP nl s a).length ≤ a) : ∀ k, walkP nl s (a + k) = walkP nl s a
  | 0 => rfl
  | k + 1 => by
    have ih := walkP_done h k
    show proc nl (walkP nl s (a + k)) (a + k) = _
    unfold proc
    rw [ih, List.getElem?_eq_none (by omega)]
theorem gt_tab (t : TabOk nm tab) {i : Nat} {e : Str × (Way × Plc)} (h : tab[i]? = some e) : gtM (tabM tab) (Sum.inr e.1 : Key) = some (enD e.2) := by
  have key : ∀ (tab : Tab) (i : Nat), (tab.map (·.1)).Nodup → tab[i]? = some e → gtM (tabM tab) (Sum.inr e.1 : Key) = some (enD e.2) := by
    intro tab
    induction tab with
    | nil => intro i _ h; simp at h
    | cons x tab ih =>
      intro i hnd h
      rw [List.map_cons, List.nodup_cons] at hnd
      show gtM (((Sum.inr x.1 : Key), enD x.2) :: tabM tab) _ = _
      rw [gtM_cons]
      cases i with
      | zero =>
        simp only [List.getElem?_cons_zero, Option.some.injEq] at h
        subst h
        simp
      | succ i =>
        simp only [List.getElem?_cons_succ] at h
        have hne : x.1 ≠ e.1 := fun z => hnd.1 (z ▸ List.mem_map_of_mem (List.mem_of_getElem? h))
        rw [if_neg (by simpa using hne)]
        exact ih i hnd.2 h
  exact key tab i t.nd h
theorem tab_keys : (gtM (tabM tab) (Sum.inr s : Key)).isSome = decide (s ∈ tab.map (·.1)) := by
  rw [Bool.eq_iff_iff, decide_eq_true_eq]
  constructor
  · intro h
    refine Classical.byContradiction fun z => ?_
    rw [gtM_none.mpr (fun hm => z ?_)] at h
    · cases h
    · unfold tabM at hm
      rw [List.map_map] at hm
      obtain ⟨e, he, h2⟩ := List.mem_map.mp hm
      simp only [Function.comp_apply, Sum.inr.injEq] at h2
      exact h2 ▸ List.mem_map_of_mem he
  · intro h
    cases e : gtM (tabM tab) (Sum.inr s : Key) with
    | some _ => rfl
    | none =>
      refine absurd ?_ (gtM_none.mp e)
      obtain ⟨x, hx, rfl⟩ := List.mem_map.mp h
      unfold tabM
      rw [List.map_map]
      exact List.mem_map.mpr ⟨x, hx, rfl⟩
theorem gt_steps (hnd : nm.Nodup) (hs : s ∈ nm) : gtM (stepsM nm nl) (Sum.inr s : Key) = some (.list ((stepsOf nl s).map stD)) := by
  have key : ∀ nm : List Str, s ∈ nm → gtM (stepsM nm nl) (Sum.inr s : Key) = some (.list ((stepsOf nl s).map stD)) := by
    intro nm
    induction nm with
    | nil => intro h; cases h
    | cons x nm ih =>
      intro h
      show gtM (((Sum.inr x : Key), _) :: stepsM nm nl) _ = _
      rw [gtM_cons]
      by_cases hx : x = s
      · subst hx
        simp
      · rw [if_neg (by simpa using hx)]
        rcases List.mem_cons.mp h with z | h
        · exact absurd z.symm hx
        · exact ih h
  exact key nm hs
theorem gt_lkM {i : Nat} : gtM (lkM nl) (Sum.inl (i : Int) : Key) = gtM nl i := by
  induction nl with
  | nil => rfl
  | cons x nl ih =>
    show gtM (((Sum.inl (x.1 : Int) : Key), x.2) :: lkM nl) _ = _
    rw [gtM_cons, gtM_cons, ih]
    by_cases h : x.1 = i
    · rw [if_pos (by rw [h]), if_pos h]
    · rw [if_neg (fun z => h (by have := Sum.inl.inj z; omega)), if_neg h]
theorem gt_mem (hnd : (nl.map (·.1)).Nodup) {q : Nat × PyData} (h : q ∈ nl) : gtM nl q.1 = some q.2 := by
  induction nl with
  | nil => cases h
  | cons x nl ih =>
    rw [List.map_cons, List.nodup_cons] at hnd
    rw [gtM_cons]
    rcases List.mem_cons.mp h with rfl | h
    · rw [if_pos rfl]
    · rw [if_neg (fun z => hnd.1 (by rw [z]; exact List.mem_map_of_mem h))]
      exact ih hnd.2 h
end
def sp__place_behind (K : PySem.W.Frag) : Sp := fun vs H Q _ => ∃ G v1 v2 p s t a b c f, vs = [v1, v2, .bl f] ∧ Y.Ex G H ∧ Dp K G v1 (plD p) ∧ Dp K G v2 (.tuple [.str s, .str t, .int a, .int b, .int c]) ∧
  ∀ v G' H', Nx [] G H G' H' → Dp K G' v (plD (behind p (.tuple [.str s, .str t, .int a, .int b, .int c]) f)) → Q v H'
theorem ok__place_behind (T : Tx fa fn bx K mg) : FnOk P w K mg base CX0 1 (He.ga K "_place_behind") (fdOf K (He.ga K "_place_behind")) ["place", "link", "forward"] (sp__place_behind K) := by
  refine FunD.ok (F__place_behind T) sc__place_behind (fun vs H Q E h => ?_) (fun cdv A outer s H vs Q E hr h => ?_)
  · obtain ⟨_, _, _, _, _, _, _, _, _, _, rfl, _⟩ := h
    rfl
  · obtain ⟨G, v1, v2, p, s, t, a, b, c, f, rfl, e, d1, d2, q⟩ := h
    refine ⟨_, PSs.nox ((pss_cons (ps_asg (pv 0) (Y.pg_tupK (K := K) (n := 3) rfl rfl (pgs_cons (pg_name (i := 3) sc__place_behind.nd rfl (Or.inl rfl)) (pgs_cons (pg_name (i := 4) sc__place_behind.nd rfl (Or.inl rfl)) (pgs_cons (pg_name (i := 5) sc__place_behind.nd rfl (Or.inl rfl)) pgs_nil)))))
      (pss_cons (ps_asg (pe_slice (Y.sl_tupAK (K := K) rfl) (pv 1) (po_some pe_int) po_none) (Y.pg_tupK (K := K) (n := 3) rfl rfl (pgs_cons (pg_name (i := 6) sc__place_behind.nd rfl (Or.inl rfl)) (pgs_cons (pg_name (i := 7) sc__place_behind.nd rfl (Or.inl rfl)) (pgs_cons (pg_name (i := 8) sc__place_behind.nd rfl (Or.inl rfl)) pgs_nil)))))
      (pss_cons (ps_if (pt_val (pv 2))
      (pss_one (ps_ret (pe_tup (pa_cons (pe_op op_add (pv 3) (pv 6)) (pa_cons (pe_op op_add (pv 4) (pv 7)) (pa_cons (pe_op op_add (pv 5) (pv 8)) pa_nil))))))
      pss_nil)
      (pss_one (ps_ret (pe_tup (pa_cons (pe_op op_sub (pv 3) (pv 6)) (pa_cons (pe_op op_sub (pv 4) (pv 7)) (pa_cons (pe_op op_sub (pv 5) (pv 8)) pa_nil)))))))))), ?_⟩
    walk_at "sx"
    refine g_un3 e d1 fun u1 u2 u3 e1 e2 e3 => ?_
    cases dp_int e1
    cases dp_int e2
    cases dp_int e3
    walk_at "sx"
    refine g_slLo (k := 2) e d2 rfl fun v3 G1 H1 n1 d3 => ?_
    refine g_un3 n1.gh d3 fun w1 w2 w3 f1 f2 f3 => ?_
    cases dp_int f1
    cases dp_int f2
    cases dp_int f3
    walk_at "sx"
    refine g_bool (fun hf => ?_) (fun hf => ?_) <;> walk_at "sx"
    · refine g_tupD (K := K) n1.gh (.cons (.int _) (.cons (.int _) (.cons (.int _) .nil))) (by show 3 ≤ sizeLine; decide) fun r G2 H2 n2 dr => ?_
      refine q _ G2 H2 (n1.trans n2) ?_
      subst hf
      exact dr
    · refine g_tupD (K := K) n1.gh (.cons (.int _) (.cons (.int _) (.cons (.int _) .nil))) (by show 3 ≤ sizeLine; decide) fun r G2 H2 n2 dr => ?_
      refine q _ G2 H2 (n1.trans n2) ?_
      subst hf
      exact dr
def walksOf (nm : List Str) (nl : List (Nat × PyData)) (s : Str) : Tab := walkP nl s nm.length
def nlNd (nl : List (Nat × PyData)) : Prop := (nl.map (·.1)).Nodup
def sp__walks_from (K : PySem.W.Frag) : Sp := fun vs H Q _ => ∃ G q r nm nl s, vs = [.str s, .ref q, .ref r] ∧ Y.Ex G H ∧ DctAt K q G H (lkM nl) ∧ DctAt K r G H (stepsM nm nl) ∧ nm.Nodup ∧ nm.length ≤ 1000 ∧ nlOk nm nl ∧ nlNd nl ∧ s ∈ nm ∧
  ∀ o G' H', Nx [] G H G' H' → H o = none → DctAt K o G' H' (tabM (walksOf nm nl s)) → Q (.ref o) H'
theorem strs_drop {tab : Tab} {b : Nat} : (tab.drop b).map (fun e => PyData.str e.1) = ((tab.map (fun e => PyData.str e.1)).drop b) := by rw [List.map_drop]
def nmsD (tab : Tab) : List PyData := tab.map fun e => PyData.str e.1
theorem ok__walks_from (T : Tx fa fn bx K mg) : FnOk P w K mg base CX0 2 (He.ga K "_walks_from") (fdOf K (He.ga K "_walks_from")) ["start", "links", "steps"] (sp__walks_from K) := by
  refine FunD.ok (F__walks_from T) sc__walks_from (fun vs H Q E h => ?_) (fun cdv A outer s H vs Q E hr h => ?_)
  · obtain ⟨_, _, _, _, _, _, rfl, _⟩ := h
    rfl
  · obtain ⟨G, q0, r0, nm, nl, s, rfl, e, hq, hr0, hnd, hnl, hok, hnn, hs, q⟩ := h
    refine ⟨_, PSs.nox ((pss_cons (ps_set (i := 3) sc__walks_from.nd rfl (Or.inl rfl) (pe_disp (pps_cons (pv 0) (pe_tup (pa_cons (pe_tup pa_nil) (pa_cons (pe_glob (v := .ref (He.ga K "ORIGIN")) rfl (T.glo 31) rfl) pa_nil))) pps_nil) (by rfl) (by rfl) (fun z => by cases z) (by decide)))
      (pss_cons (ps_set (i := 4) sc__walks_from.nd rfl (Or.inl rfl) (pe_lst (pa_cons (pv 0) pa_nil)))
      (pss_cons (ps_while PassesOwn.never (Y.pt_truthK (K := K) rfl (pv 4) (by intro _; rfl))
      (pss_cons (ps_set (i := 5) sc__walks_from.nd rfl (Or.inl rfl) (pe_lst pa_nil))
      (pss_cons (ps_for PassesOwn.never rfl (Y.pi_listK (K := K) rfl (pv 4)) (pg_name (i := 6) sc__walks_from.nd rfl (Or.inl rfl))
      (pss_cons (ps_asg (pe_dget (hu_of hr) (pv 3) (pv 6) (fun _ _ => rfl)) (Y.pg_tupK (K := K) (n := 2) rfl rfl (pgs_cons (pg_name (i := 7) sc__walks_from.nd rfl (Or.inl rfl)) (pgs_cons (pg_name (i := 8) sc__walks_from.nd rfl (Or.inl rfl)) pgs_nil))))
      (pss_one (ps_for PassesOwn.never rfl (Y.pi_listK (K := K) rfl (pe_dget (hu_of hr) (pv 2) (pv 6) (fun _ _ => rfl))) (Y.pg_tupK (K := K) (n := 3) rfl rfl (pgs_cons (pg_name (i := 9) sc__walks_from.nd rfl (Or.inl rfl)) (pgs_cons (pg_name (i := 10) sc__walks_from.nd rfl (Or.inl rfl)) (pgs_cons (pg_name (i := 11) sc__walks_from.nd rfl (Or.inl rfl)) pgs_nil))))
      (pss_one (ps_if (pt_cmp (pc_dnotin (hu_of hr) (pv 11) (pv 3)))
      (pss_cons (ps_dput (hu_of hr) (pv 3) (pv 11) (pe_tup (pa_cons (pe_op (Y.op_catAK (K := K) rfl) (pv 7) (pe_tup (pa_cons (pe_tup (pa_cons (pv 9) (pa_cons (pv 10) pa_nil))) pa_nil))) (pa_cons (Y.pe_callC (ok__place_behind T) (cal__place_behind T) (hr.mono (by decide)) (by rfl) pass0 (pa_cons (pv 8) (pa_cons (pe_dget (hu_of hr) (pv 1) (pv 9) (fun _ _ => rfl)) (pa_cons (pv 10) pa_nil)))) pa_nil))) rfl)
      (pss_one (ps_expr (Y.pe_bmK (K := K) rfl PySem.F.plainAttrs_list PySem.F.slot_list_append PySem.F.type_list_append mt_append (pv 5) (pa_cons (pv 11) pa_nil)))))
      pss_nil))))))
      (pss_one (ps_set (i := 4) sc__walks_from.nd rfl (Or.inl rfl) (pv 5))))))
      (pss_one (ps_ret (pv 3))))))), ?_⟩
    have tok := walkP_ok hok hs
    have nm1 : 1 ≤ nm.length := List.length_pos_of_mem hs
    walk_at "sx"
    intro D hD0
    have n1 : Nx [] G H G (upd H D (.dK [])) := Nx.own e hD0
    have hDD : (upd H D (.dK [])) D = some (.dK []) := upd_same
    generalize upd H D (.dK []) = H1 at n1 hDD ⊢
    walk_at "sx"
    refine g_tupD (K := K) (ds := []) n1.gh .nil (Nat.zero_le _) fun t1 G2 H2 n2 d1 => ?_
    walk_at "sx"
    have dO : Dp K G2 (.ref (He.ga K "ORIGIN")) (plD (0, 0, 0)) := tupB_ok (ns := [0, 0, 0]) (tup_ORIGIN T) (by decide)
    refine g_tupD (K := K) n2.gh (.cons d1 (.cons dO .nil)) (by show 2 ≤ sizeLine; decide) fun t2 G3 H3 n3 d2 => ?_
    walk_at "sx"
    have n13 := n2.trans n3
    have hD3 := n13.fr D _ (by simp) hDD
    refine g_di1 hD3 (k := Sum.inr s) rfl ?_
    have gD3 : G3 D = none := (n1.trans n13).old D (e.free hD0) |> fun f => by
      have : G3 D = none := n13.old D (e.free hD0) ⟨_, hDD, fun _ z => nomatch z⟩
      exact this
    have n4 : Nx [D] G3 H3 G3 (upd H3 D (.dK [(Sum.inr s, .ref t2)])) := Nx.set n3.gh gD3 (by simp)
    have hDt : DctAt K D G3 (upd H3 D (.dK [(Sum.inr s, .ref t2)])) (tabM (walkP nl s 0)) := ⟨_, upd_same, gD3, rfl, .cons d2 .nil⟩
    generalize upd H3 D (.dK [(Sum.inr s, .ref t2)]) = H4 at n4 hDt ⊢
    have nA : Nx [] G H G3 H4 := ((n1.trans n13).pure.trans n4).drop hD0
    have hq4 := hq.go nA (by simp)
    have hr4 := hr0.go nA (by simp)
    have Dq : D ≠ q0 := fun z => hq.live (z ▸ hD0)
    have Dr : D ≠ r0 := fun z => hr0.live (z ▸ hD0)
    walk_at "sx"
    refine g_lstLs (K := K) (L := [.str s]) n4.gh (.cons (.str _) .nil) (by show 1 ≤ 100000; decide) fun f0 H5 n5 hf0 hLf => ?_
    walk_at "sx"
    have hD5 := hDt.go n5 (by simp)
    have nB : Nx [] G H G3 H5 := nA.trans n5
    refine g_while nm.length (fun n σ H' => ∃ G' f a y5 y6 y7 y8 y9 y10 y11, σ = [some (.str s), some (.ref q0), some (.ref r0), some (.ref D), some (.ref f), y5, y6, y7, y8, y9, y10, y11] ∧ Nx [D] G3 H5 G' H' ∧ DctAt K D G' H' (tabM (walkP nl s a)) ∧ LstAt K f G' H' ((nmsD (walkP nl s a)).drop a) ∧ n = nm.length - a ∧ a ≤ (walkP nl s a).length) ⟨G3, f0, 0, _, _, _, _, _, _, _, rfl, Nx.refl n5.gh, hD5, hLf, by omega, Nat.zero_le _⟩ ?_
    rintro n σ' H6 ⟨G6, f, a, y5, y6, y7, y8, y9, y10, y11, rfl, n6, hD6, hL6, hn, ha⟩
    obtain ⟨us, hus, gus, dus⟩ := id hL6
    have hul := dpAll_len dus
    unfold nmsD at hul
    rw [List.length_drop, List.length_map] at hul
    have tl := (tok a).len
    walk_at "sx"
    refine g_truL (.of hus) ?_
    refine g_nbool (fun hne => ?_) (fun hem => ?_)
    rotate_left
    · walk_at "sx"
      have hz : us.length = 0 := by
        cases us with
        | nil => rfl
        | cons _ _ => cases hem
      have hea : (walkP nl s a).length = a := by omega
      have : walksOf nm nl s = walkP nl s a := by
        unfold walksOf
        have := walkP_done (nl := nl) (s := s) (a := a) (by omega) (nm.length - a)
        rw [show a + (nm.length - a) = nm.length by omega] at this
        exact this
      refine q D G6 H6 ((nB.pure.trans n6).drop hD0) hD0 ?_
      rw [this]
      exact hD6
    have hlt : a < (walkP nl s a).length := by
      cases us with
      | nil => cases hne
      | cons _ _ => simp at hul; omega
    refine g_whN ?_
    walk_at "sx"
    refine g_lstLs (K := K) (L := []) n6.gh .nil (Nat.zero_le _) fun fu H7 n7 hfu hLfu => ?_
    walk_at "sx"
    have hD7 := hD6.go n7 (by simp)
    have hL7 := hL6.go n7 (by simp)
    have fuD : fu ≠ D := fun z => hD6.live (z ▸ hfu)
    have fuf : fu ≠ f := fun z => hL6.live (z ▸ hfu)
    have fD : f ≠ D := fun z => by
      obtain ⟨kvs, h1, _⟩ := hD6
      rw [z, h1] at hus
      cases hus
    generalize hb : (walkP nl s a).length = b at hlt tl hul
    refine g_walkLs hL7 fun S => ?_
    refine g_forS (K := K) (M := [D, fu]) (S [D, fu] (by simp [fD, fuf.symm])) n7.gh (fun j σ G' H' => ∃ y6 y7 y8 y9 y10 y11, σ = [some (.str s), some (.ref q0), some (.ref r0), some (.ref D), some (.ref f), some (.ref fu), y6, y7, y8, y9, y10, y11] ∧ DctAt K D G' H' (tabM (walkP nl s (a + j))) ∧ LstAt K fu G' H' ((nmsD (walkP nl s (a + j))).drop b)) ⟨_, _, _, _, _, _, rfl, hD7, ?_⟩ ?_ ?_
    · rw [Nat.add_zero, List.drop_eq_nil_of_le (by unfold nmsD; rw [List.length_map]; omega)]
      exact hLfu
    · rintro j d v σ' G8 H8 G9 H9 hj n8 ⟨z6, z7, z8, z9, z10, z11, rfl, hD8, hL8⟩ n9 dv
      obtain ⟨e0, he0, rfl⟩ : ∃ e0 : Str × (Way × Plc), (walkP nl s a)[a + j]? = some e0 ∧ d = .str e0.1 := by
        unfold nmsD at hj
        rw [List.getElem?_drop, List.getElem?_map] at hj
        obtain ⟨e0, h1, h2⟩ := Option.map_eq_some_iff.mp hj
        exact ⟨e0, h1, h2.symm⟩
      obtain ⟨nx, wx, px⟩ := e0
      cases dp_str dv
      have hget := walkP_get (k := j) he0
      have hD9 := hD8.go n9 (by simp)
      have hL9 := hL8.go n9 (by simp)
      have n79 : Nx [D, fu] G6 H7 G9 H9 := n8.trans n9.pure
      have h6q := (hq4.go n5 (by simp)).go n6 (by simp [Dq.symm])
      have h6r := (hr4.go n5 (by simp)).go n6 (by simp [Dr.symm])
      have hq0fu : q0 ≠ fu := fun z => h6q.live (z ▸ hfu)
      have hr0fu : r0 ≠ fu := fun z => h6r.live (z ▸ hfu)
      have hq9 : DctAt K q0 G9 H9 (lkM nl) := (h6q.go n7 (by simp)).go n79 (by simp [Dq.symm, hq0fu])
      have hr9 : DctAt K r0 G9 H9 (stepsM nm nl) := (h6r.go n7 (by simp)).go n79 (by simp [Dr.symm, hr0fu])
      have hxnm : nx ∈ nm := (tok a).sub nx (List.mem_map_of_mem (List.mem_of_getElem? he0))
      walk_at "sx"
      refine g_dcGet hD9 (k := Sum.inr nx) rfl (gt_tab (tok (a + j)) hget) fun v1 dv1 => ?_
      refine g_un2 n9.gh dv1 fun v2 v3 dw dp => ?_
      walk_at "sx"
      refine g_dcGet hr9 (k := Sum.inr nx) rfl (gt_steps hnd hxnm) fun v4 dv4 => ?_
      refine g_walkL n9.gh dv4 fun b4 hb4 S2 => ?_
      have hwl : wx.length ≤ (walkP nl s (a + j)).length := (tok (a + j)).way _ (List.mem_of_getElem? hget)
      refine g_forS (K := K) (M := [D, fu]) (S2 [D, fu]) n9.gh (fun k σ G' H' => ∃ y9 y10 y11, σ = [some (.str s), some (.ref q0), some (.ref r0), some (.ref D), some (.ref f), some (.ref fu), some (.str nx), some v2, some v3, y9, y10, y11] ∧ DctAt K D G' H' (tabM (((stepsOf nl nx).take k).foldl (visit nl wx px) (walkP nl s (a + j)))) ∧ LstAt K fu G' H' ((nmsD (((stepsOf nl nx).take k).foldl (visit nl wx px) (walkP nl s (a + j)))).drop b)) ⟨_, _, _, rfl, hD9, hL9⟩ ?_ ?_
      · rintro k d w σ' G10 H10 G11 H11 hk n10 ⟨w9, w10, w11, rfl, hD10, hL10⟩ n11 dw2
        rw [List.getElem?_map] at hk
        obtain ⟨⟨i1, f1, o1⟩, hst, rfl⟩ := Option.map_eq_some_iff.mp hk
        have hsm := List.mem_of_getElem? hst
        obtain ⟨ho1, _⟩ := steps_in hok hsm
        obtain ⟨lq, hlq, hl1, hl2⟩ := steps_mem hsm
        simp only at hl1
        obtain ⟨sa, sb, da, db, dc, hld, _⟩ := hok.2 lq hlq
        have hlk : gtM nl i1 = some (.tuple [.str sa, .str sb, .int da, .int db, .int dc]) := by
          rw [← hl1, ← hld]
          exact gt_mem hnn hlq
        have hlat : lkAt nl i1 = .tuple [.str sa, .str sb, .int da, .int db, .int dc] := by unfold lkAt; rw [hlk]; rfl
        have tk : (stepsOf nl nx).take (k + 1) = (stepsOf nl nx).take k ++ [(i1, f1, o1)] := by rw [List.take_add_one, hst]; rfl
        have hD11 := hD10.go n11 (by simp)
        have hL11 := hL10.go n11 (by simp)
        have n911 : Nx [D, fu] G9 H9 G11 H11 := n10.trans n11.pure
        have hq11 := hq9.go n911 (by simp [Dq.symm, hq0fu])
        have tokk : TabOk nm (((stepsOf nl nx).take k).foldl (visit nl wx px) (walkP nl s (a + j))) := (tok (a + j)).fold (fun x hx => (steps_in hok (List.mem_of_mem_take hx)).1) hwl
        have tokn : TabOk nm (((stepsOf nl nx).take (k + 1)).foldl (visit nl wx px) (walkP nl s (a + j))) := (tok (a + j)).fold (fun x hx => (steps_in hok (List.mem_of_mem_take hx)).1) hwl
        have pre : ∃ more, ((stepsOf nl nx).take k).foldl (visit nl wx px) (walkP nl s (a + j)) = walkP nl s (a + j) ++ more := fold_pre
        rw [tk, List.foldl_append, List.foldl_cons, List.foldl_nil] at tokn ⊢
        generalize ((stepsOf nl nx).take k).foldl (visit nl wx px) (walkP nl s (a + j)) = tab at hD11 hL11 tokk tokn pre hD10 hL10 ⊢
        refine g_un3 n11.gh dw2 fun x1 x2 x3 e1 e2 e3 => ?_
        cases dp_int e1
        cases dp_bl e2
        cases dp_str e3
        walk_at "sx"
        refine g_dcNi hD11 (k := Sum.inr o1) rfl ?_
        rw [tab_keys]
        walk_at "sx"
        refine g_ndec (fun hno => ?_) (fun hyes => ?_) <;> walk_at "sx"
        rotate_left
        · refine ⟨G11, n911, _, _, _, rfl, ?_, ?_⟩
          · unfold visit
            rw [if_pos hyes]
            exact hD11
          · unfold visit
            rw [if_pos hyes]
            exact hL11
        have dway : Dp K G11 v2 (.tuple (wx.map waD)) := dp_mono n911.gg dw
        have dplc : Dp K G11 v3 (plD px) := dp_mono n911.gg dp
        refine g_tupD (K := K) (ds := [.int (i1 : Int), .bool f1]) n11.gh (.cons (.int _) (.cons (.bl _) .nil)) (by show 2 ≤ sizeLine; decide) fun t3 G12 H12 n12 d12 => ?_
        walk_at "sx"
        refine g_tupD (K := K) (ds := [waD (i1, f1)]) n12.gh (.cons d12 .nil) (by show 1 ≤ sizeLine; decide) fun t4 G13 H13 n13' d13 => ?_
        walk_at "sx"
        have n1113 := n12.trans n13'
        have twl := (tok (a + j)).len
        refine g_catA n13'.gh (dp_mono n1113.gg dway) d13 (by rw [List.length_map]; exact szle (by simp; omega)) fun t5 G14 H14 n14 d14 => ?_
        walk_at "sx"
        have n1114 := n1113.trans n14
        refine g_dcGet (hq11.go n1114 (by simp)) (k := Sum.inl (i1 : Int)) rfl (by rw [gt_lkM]; exact hlk) fun v5 d5 => ?_
        walk_at "sx"
        refine ⟨G14, v3, v5, px, sa, sb, da, db, dc, f1, rfl, n14.gh, dp_mono n1114.gg dplc, d5, fun v6 G15 H15 n15 d6 => ?_⟩
        walk_at "sx"
        refine g_tupD (K := K) n15.gh (.cons (dp_mono n15.gg d14) (.cons d6 .nil)) (by show 2 ≤ sizeLine; decide) fun t6 G16 H16 n16 d16 => ?_
        walk_at "sx"
        have n1116 := (n1114.trans n15).trans n16
        have hl16 := tokk.len
        refine g_dcPut n16.gh (hD11.go n1116 (by simp)) (k := Sum.inr o1) rfl d16 (by unfold tabM; rw [List.length_map]; omega) fun H17 n17 hD17 => ?_
        walk_at "sx"
        have hL17 := (hL11.go n1116 (by simp)).go n17 (by simp [fuD])
        refine g_tyLs hL17 ?_
        walk_at "sx"
        refine g_appLs n17.gh hL17 (.str _) (by unfold nmsD; rw [List.length_drop, List.length_map]; omega) fun H18 n18 hL18 => ?_
        have ev : visit nl wx px tab (i1, f1, o1) = tab ++ [(o1, (wx ++ [(i1, f1)], behind px (lkAt nl i1) f1))] := if_neg hno
        have nn : Nx [D, fu] G9 H9 G16 H18 := ((n911.trans n1116.pure).trans (n17.mono fun w hw => by simp at hw; simp [hw])).trans (n18.mono fun w hw => by simp at hw; simp [hw])
        rw [ev]
        refine ⟨G16, nn, _, _, _, rfl, ?_, ?_⟩
        · rw [ptM_new (fun hm => by
            have := tab_keys (tab := tab) (s := o1)
            rw [decide_eq_false hno] at this
            cases hgt : gtM (tabM tab) (Sum.inr o1 : Key) with
            | none => exact gtM_none.mp hgt hm
            | some _ => rw [hgt] at this; cases this)] at hD17
          have e2 : tabM (tab ++ [(o1, (wx ++ [(i1, f1)], behind px (lkAt nl i1) f1))]) = tabM tab ++ [(Sum.inr o1, .tuple [.tuple (wx.map waD ++ [waD (i1, f1)]), plD (behind px (.tuple [.str sa, .str sb, .int da, .int db, .int dc]) f1)])] := by simp [tabM, enD, wayD, hlat]
          rw [e2]
          exact hD17.go n18 (by simp [fuD.symm])
        · have hbl : b ≤ (nmsD tab).length := by
            obtain ⟨more, hm⟩ := pre
            obtain ⟨m2, h2⟩ := walkP_pre (nl := nl) (s := s) (a := a) j
            unfold nmsD
            rw [List.length_map, hm, h2, List.length_append, List.length_append]
            omega
          have e1 : nmsD (tab ++ [(o1, (wx ++ [(i1, f1)], behind px (lkAt nl i1) f1))]) = nmsD tab ++ [.str o1] := by simp [nmsD]
          rw [e1, List.drop_append_of_le_length hbl]
          exact hL18
      · rintro σ' G10 H10 n10 ⟨w9, w10, w11, rfl, hD10, hL10⟩
        rw [List.length_map, List.take_length] at hD10 hL10
        have ep : walkP nl s (a + (j + 1)) = (stepsOf nl nx).foldl (visit nl wx px) (walkP nl s (a + j)) := by
          show proc nl (walkP nl s (a + j)) (a + j) = _
          unfold proc
          rw [hget]
        rw [← ep] at hD10 hL10
        exact ⟨G10, n79.trans n10, _, _, _, _, _, _, rfl, hD10, hL10⟩
    · rintro σ' G8 H8 n8 ⟨z6, z7, z8, z9, z10, z11, rfl, hD8, hL8⟩
      have el : a + ((nmsD (walkP nl s a)).drop a).length = b := by
        unfold nmsD
        rw [List.length_drop, List.length_map]
        omega
      rw [el] at hD8 hL8
      walk_at "sx"
      have tlb := (tok b).len
      have hbl : b ≤ (walkP nl s b).length := by
        obtain ⟨m2, h2⟩ := walkP_pre (nl := nl) (s := s) (a := a) (b - a)
        rw [show a + (b - a) = b by omega] at h2
        rw [h2, List.length_append]
        omega
      refine ⟨nm.length - b, by omega, G8, fu, b, _, _, _, _, _, _, _, rfl, ?_, hD8, hL8, rfl, hbl⟩
      have nn : Nx [D, fu] G3 H5 G8 H8 := (n6.mono fun w hw => by simp at hw; simp [hw]).trans (n7.pure.trans n8)
      exact nn.sub fun x hx => by
        simp only [List.mem_cons, List.not_mem_nil, or_false] at hx
        rcases hx with h | h
        · exact .inl (by simp [h])
        · exact .inr (h ▸ n6.fresh hfu)
inductive Pth (nl : List (Nat × PyData)) : Nat → Str → Str → Prop
  | zero (u : Str) : Pth nl 0 u u
  | succ {k : Nat} {u v : Str} {x : Stp} (h : Pth nl k u v) (hx : x ∈ stepsOf nl v) : Pth nl (k + 1) u x.2.2
def Rch (nl : List (Nat × PyData)) (u v : Str) : Prop := ∃ k, Pth nl k u v
section
variable {nm : List Str} {nl : List (Nat × PyData)} {tab : Tab} {s u v : Str}
/-- a link's two steps -/
theorem step_fwd {q : Nat × PyData} (h : q ∈ nl) : (q.1, true, lnB q.2) ∈ stepsOf nl (lnA q.2) := List.mem_flatMap.mpr ⟨q, h, by unfold stepsL; rw [if_pos rfl]; simp⟩
theorem step_bwd {q : Nat × PyData} (h : q ∈ nl) : (q.1, false, lnA q.2) ∈ stepsOf nl (lnB q.2) := List.mem_flatMap.mpr ⟨q, h, by unfold stepsL; rw [if_pos (rfl : lnB q.2 = lnB q.2)]; simp⟩
theorem step_back {x : Stp} (h : x ∈ stepsOf nl u) : ∃ y ∈ stepsOf nl x.2.2, y.2.2 = u := by
  obtain ⟨q, hq, _, ⟨h1, _, h2⟩ | ⟨h1, _, h2⟩⟩ := steps_mem h
  · exact ⟨_, h2 ▸ step_bwd hq, h1⟩
  · exact ⟨_, h2 ▸ step_fwd hq, h1⟩
theorem Pth.trans {k : Nat} (h : Pth nl k u v) : ∀ {m : Nat} {w : Str}, Pth nl m v w → Pth nl (k + m) u w
  | _, _, .zero _ => h
  | _, _, .succ h2 hx => .succ (h.trans h2) hx
theorem Pth.one {x : Stp} (h : x ∈ stepsOf nl u) : Pth nl 1 u x.2.2 := .succ (.zero u) h
theorem Pth.symm : ∀ {k : Nat} {u v : Str}, Pth nl k u v → Pth nl k v u
  | _, _, _, .zero u => .zero u
  | _, _, _, @Pth.succ _ k u v x h hx => by
    obtain ⟨y, hy, e⟩ := step_back hx
    have := (e ▸ Pth.one hy).trans h.symm
    rwa [Nat.add_comm] at this
theorem Rch.refl (u : Str) : Rch nl u u := ⟨0, .zero u⟩
theorem Rch.symm (h : Rch nl u v) : Rch nl v u := let ⟨k, h⟩ := h; ⟨k, h.symm⟩
theorem Rch.trans {w : Str} (h : Rch nl u v) (h2 : Rch nl v w) : Rch nl u w := let ⟨k, h⟩ := h; let ⟨m, h2⟩ := h2; ⟨k + m, h.trans h2⟩
theorem Rch.mem (ok : nlOk nm nl) (h : Rch nl u v) (hu : u ∈ nm) : v ∈ nm := by
  obtain ⟨k, h⟩ := h
  cases h with
  | zero => exact hu
  | succ _ hx => exact (steps_in ok hx).1
/-- the walks are paths -/
theorem visit_pth {w : Way} {p : Plc} {x : Stp} (ht : ∀ e ∈ tab, Pth nl e.2.1.length s e.1) (hw : Pth nl w.length s u) (hx : x ∈ stepsOf nl u) : ∀ e ∈ visit nl w p tab x, Pth nl e.2.1.length s e.1 := by
  unfold visit
  split
  · exact ht
  · intro e he
    rcases List.mem_append.mp he with he | he
    · exact ht e he
    · simp only [List.mem_cons, List.not_mem_nil, or_false] at he
      subst he
      show Pth nl (w ++ [(x.1, x.2.1)]).length s x.2.2
      rw [List.length_append]
      exact .succ hw hx
theorem fold_pth {w : Way} {p : Plc} : ∀ {sts : List Stp} {tab : Tab}, (∀ e ∈ tab, Pth nl e.2.1.length s e.1) → Pth nl w.length s u → (∀ x ∈ sts, x ∈ stepsOf nl u) → ∀ e ∈ sts.foldl (visit nl w p) tab, Pth nl e.2.1.length s e.1
  | [], tab, ht, _, _ => ht
  | x :: r, tab, ht, hw, h => by
    rw [List.foldl_cons]
    exact fold_pth (visit_pth ht hw (h x (by simp))) hw fun y hy => h y (by simp [hy])
theorem walkP_pth : ∀ i, ∀ e ∈ walkP nl s i, Pth nl e.2.1.length s e.1
  | 0 => by
    intro e he
    simp only [walkP, List.mem_cons, List.not_mem_nil, or_false] at he
    subst he
    exact .zero s
  | i + 1 => by
    have ih := walkP_pth i
    show ∀ e ∈ proc nl (walkP nl s i) i, _
    unfold proc
    split
    · exact ih
    · rename_i e0 he0
      exact fold_pth ih (ih e0 (List.mem_of_getElem? he0)) fun _ h => h
theorem visit_has {w : Way} {p : Plc} {x : Stp} : x.2.2 ∈ (visit nl w p tab x).map (·.1) := by
  unfold visit
  split
  · assumption
  · simp
theorem fold_has {w : Way} {p : Plc} : ∀ {sts : List Stp} {tab : Tab}, ∀ x ∈ sts, x.2.2 ∈ (sts.foldl (visit nl w p) tab).map (·.1)
  | y :: r, tab, x, hx => by
    rw [List.foldl_cons]
    rcases List.mem_cons.mp hx with rfl | hx
    · obtain ⟨m, hm⟩ := fold_pre (nl := nl) (w := w) (p := p) (sts := r) (tab := visit nl w p tab x)
      rw [hm, List.map_append]
      exact List.mem_append_left _ visit_has
    · exact fold_has x hx
def keysOf (nm : List Str) (nl : List (Nat × PyData)) (s : Str) : List Str := (walksOf nm nl s).map (·.1)
theorem keys_start (hs : s ∈ nm) : s ∈ keysOf nm nl s := by
  obtain ⟨m, hm⟩ := walkP_pre (nl := nl) (s := s) (a := 0) nm.length
  rw [Nat.zero_add] at hm
  unfold keysOf walksOf
  rw [hm, List.map_append]
  exact List.mem_append_left _ (by simp [walkP])
theorem keys_closed (ok : nlOk nm nl) (hs : s ∈ nm) (h : u ∈ keysOf nm nl s) {x : Stp} (hx : x ∈ stepsOf nl u) : x.2.2 ∈ keysOf nm nl s := by
  unfold keysOf walksOf at h ⊢
  obtain ⟨e, he, rfl⟩ := List.mem_map.mp h
  obtain ⟨j, hj, rfl⟩ := List.getElem_of_mem he
  have hjn : j < nm.length := by
    have := (walkP_ok ok hs nm.length).len
    omega
  -- the entry stands at index j of the walk at its own turn
  have hlen : j < (walkP nl s j).length := by
    refine Classical.byContradiction fun z => ?_
    have hd := walkP_done (nl := nl) (s := s) (a := j) (by omega) (nm.length - j)
    rw [show j + (nm.length - j) = nm.length by omega] at hd
    rw [hd] at hj
    omega
  have e1 : (walkP nl s j)[j]? = some (walkP nl s j)[j] := by simp [hlen]
  have e2 := walkP_get (k := nm.length - j) e1
  rw [show j + (nm.length - j) = nm.length by omega, List.getElem?_eq_getElem hj] at e2
  have e3 := Option.some.inj e2
  have hp : walkP nl s (j + 1) = (stepsOf nl (walkP nl s j)[j].1).foldl (visit nl (walkP nl s j)[j].2.1 (walkP nl s j)[j].2.2) (walkP nl s j) := by
    show proc nl (walkP nl s j) j = _
    unfold proc
    rw [e1]
  rw [e3] at hx
  have h1 := fold_has (nl := nl) (w := (walkP nl s j)[j].2.1) (p := (walkP nl s j)[j].2.2) (tab := walkP nl s j) x hx
  rw [← hp] at h1
  obtain ⟨m, hm⟩ := walkP_pre (nl := nl) (s := s) (a := j + 1) (nm.length - (j + 1))
  rw [show j + 1 + (nm.length - (j + 1)) = nm.length by omega] at hm
  rw [hm, List.map_append]
  exact List.mem_append_left _ h1
theorem keys_rch (ok : nlOk nm nl) (hs : s ∈ nm) : v ∈ keysOf nm nl s ↔ Rch nl s v := by
  constructor
  · intro h
    obtain ⟨e, he, rfl⟩ := List.mem_map.mp h
    exact ⟨_, walkP_pth _ e he⟩
  · rintro ⟨k, h⟩
    induction h with
    | zero => exact keys_start hs
    | succ _ hx ih => exact keys_closed ok hs (ih hs) hx
/-- any two that are joined are joined by a path of at most as many steps as there are names -/
theorem short_pth (ok : nlOk nm nl) (hs : s ∈ nm) (h : Rch nl s v) : ∃ k, k ≤ nm.length ∧ Pth nl k s v := by
  obtain ⟨e, he, rfl⟩ := List.mem_map.mp ((keys_rch ok hs).mpr h)
  have t := walkP_ok ok hs nm.length
  exact ⟨_, Nat.le_trans (t.way e he) t.len, walkP_pth _ e he⟩
end
/-! the groups, in their order -/
def grp (nm : List Str) (nl : List (Nat × PyData)) (s : Str) : List Str := nm.filter fun o => decide (o ∈ keysOf nm nl s)
def groupsFrom (nm : List Str) (nl : List (Nat × PyData)) : List Str → List Str → List (List Str)
  | [], _ => []
  | n :: r, pl => if n ∈ pl then groupsFrom nm nl r pl else grp nm nl n :: groupsFrom nm nl r (pl ++ keysOf nm nl n)
def groupsOf (nm : List Str) (nl : List (Nat × PyData)) : List (List Str) := groupsFrom nm nl nm []
def gsD (gs : List (List Str)) : List PyData := gs.map fun g => .list (g.map .str)
def sp__law_reading (K : PySem.W.Frag) : Sp := fun vs H Q _ => ∃ G a, vs = [.ref a] ∧ Y.Ex G H ∧ PoolAt K a G H ∧ ∀ v d G' H', isRd d = true → Dp K G' v d → Nx [a] G H G' H' → PoolAt K a G' H' → Q v H'
theorem ok__law_reading (T : Tx fa fn bx K mg) : FnOk P w K mg base CX0 3 (He.ga K "_law_reading") (fdOf K (He.ga K "_law_reading")) ["pool"] (sp__law_reading K) := by
  refine FunD.ok (F__law_reading T) sc__law_reading (fun vs H Q E h => ?_) (fun cdv A outer s H vs Q E hr h => ?_)
  · obtain ⟨_, _, rfl, _⟩ := h
    rfl
  · obtain ⟨G, a, rfl, e, hp, q⟩ := h
    refine ⟨_, PSs.nox ((pss_one (ps_ret (pe_ix (Y.ix_listK (K := K) rfl) (pe_lst (pa_cons pe_non (pa_cons pe_int (pa_cons pe_int (pa_cons pe_int (pa_cons pe_int (pa_cons pe_int (pa_cons (Y.pe_callC (ok__law_take T) (cal__law_take T) (hr.mono (by decide)) (by rfl) pass0 (pa_cons (pv 0) (pa_cons pe_int pa_nil))) (pa_cons pe_int pa_nil))))))))) (Y.pe_callC (ok__law_take T) (cal__law_take T) (hr.mono (by decide)) (by rfl) pass0 (pa_cons (pv 0) (pa_cons pe_int pa_nil))) (fun _ _ => rfl))))), ?_⟩
    walk_at "sx"
    refine ⟨G, a, 1000, rfl, e, hp, by decide, by decide, fun i H1 i0 i1 n1 hp1 => ?_⟩
    walk_at "sx"
    refine g_lstD (K := K) (ds := [.none, .int 0, .int 999, .int 7, .int 8, .int 9, .int i, .int 10]) n1.gh (by walk_at "da") (by show 8 ≤ sizeLine; decide) fun p G2 H2 n2 dp => ?_
    walk_at "sx"
    refine ⟨G2, a, 8, rfl, n2.gh, hp1.go n2 (by simp), by decide, by decide, fun j H3 j0 j1 n3 hp3 => ?_⟩
    walk_at "sx"
    refine g_ixLn n3.gh dp j0 (by simpa using j1) fun v d hm _ dv => ?_
    refine q v d G2 H3 ?_ dv ((n1.trans n2.pure).trans n3) hp3
    simp only [List.mem_cons, List.not_mem_nil, or_false] at hm
    rcases hm with h | h | h | h | h | h | h | h <;> subst h <;> simp only [isRd] <;> first | rfl | decide | exact decide_eq_true ⟨i0, by omega⟩
theorem rowsOk_of {rs : List PyData} {w : Nat} (h1 : 1 ≤ rs.length) (h2 : rs.length ≤ 12) (h3 : 1 ≤ w) (h4 : w ≤ 12) (h : ∀ d ∈ rs, ∃ cs, d = .tuple cs ∧ cs.length = w ∧ cs.all isRd = true) : rowsOk (.tuple rs) = true := by
  simp only [rowsOk]
  rw [decide_eq_true ⟨h1, h2⟩, Bool.true_and, Bool.and_eq_true]
  refine ⟨List.all_eq_true.mpr fun d hd => ?_, ?_⟩
  · obtain ⟨cs, rfl, hl, ha⟩ := h d hd
    simp only [rowOk]
    rw [ha, decide_eq_true (by omega)]
    rfl
  · cases rs with
    | nil => rfl
    | cons r rs =>
      simp only [sameLen]
      refine List.all_eq_true.mpr fun d hd => ?_
      obtain ⟨cs, rfl, hl, _⟩ := h d hd
      obtain ⟨c0, rfl, hl0, _⟩ := h r (by simp)
      simp only [dlen, hl, hl0, decide_true]
theorem fit_rd {d : PyData} (h : isRd d = true) : fit d = true := by cases d <;> first | rfl | cases h
theorem rows_inv {rs : List PyData} (h : rowsOk (.tuple rs) = true) : 1 ≤ rs.length ∧ rs.length ≤ 12 ∧ (∀ d ∈ rs, rowOk d = true) ∧ sameLen rs = true := by
  simp only [rowsOk, Bool.and_eq_true, decide_eq_true_eq] at h
  exact ⟨h.1.1, h.1.2, List.all_eq_true.mp h.2.1, h.2.2⟩
theorem fit_row {d : PyData} (h : rowOk d = true) : fit d = true := by
  obtain ⟨cs, rfl, _, h2, h3⟩ := rowOk_tup h
  exact fit_tuple (by omega) fun d hd => fit_rd (List.all_eq_true.mp h3 d hd)
def sp__law_rows (K : PySem.W.Frag) : Sp := fun vs H Q _ => ∃ G a m, vs = [.ref a, .int m] ∧ Y.Ex G H ∧ PoolAt K a G H ∧ 1 ≤ m ∧ m ≤ 12 ∧ ∀ v rs G' H', rowsOk (.tuple rs) = true → (rs.length : Int) ≤ m → (∀ d ∈ rs, (dlen d : Int) ≤ m) → Dp K G' v (.tuple rs) → Nx [a] G H G' H' → PoolAt K a G' H' → Q v H'
theorem ok__law_rows (T : Tx fa fn bx K mg) : FnOk P w K mg base CX0 4 (He.ga K "_law_rows") (fdOf K (He.ga K "_law_rows")) ["pool", "most"] (sp__law_rows K) := by
  refine FunD.ok (F__law_rows T) sc__law_rows (fun vs H Q E h => ?_) (fun cdv A outer s H vs Q E hr h => ?_)
  · obtain ⟨_, _, _, rfl, _⟩ := h
    rfl
  · obtain ⟨G, a, m, rfl, e, hp, hm1, hm2, q⟩ := h
    refine ⟨_, PSs.nox ((pss_cons (ps_set (i := 2) sc__law_rows.nd rfl (Or.inr rfl) (pe_op op_add pe_int (Y.pe_callC (ok__law_take T) (cal__law_take T) (hr.mono (by decide)) (by rfl) pass0 (pa_cons (pv 0) (pa_cons (pv 1) pa_nil)))))
      (pss_cons (ps_set (i := 3) sc__law_rows.nd rfl (Or.inl rfl) (pe_op op_add pe_int (Y.pe_callC (ok__law_take T) (cal__law_take T) (hr.mono (by decide)) (by rfl) pass0 (pa_cons (pv 0) (pa_cons (pv 1) pa_nil)))))
      (pss_one (ps_ret (pe_callTy (Y.call_tupleK (K := K) rfl) (by rfl) (T.free 4) (by decide +kernel) (pa_cons (pe_lc (own := [("y", 4)]) (tt := tYes) rfl sc__law_rows.nd (pi_range1 (by rfl) (T.free 35) (pa_cons (pv 3) pa_nil)) (blkOk_by (own := [("y", 4)]) (by kernel_rfl)) (fun _ _ _ _ _ => (pg_name (i := 4) sc__law_rows.nd rfl (Or.inl rfl))) (fun _ _ _ _ _ => pts_nil) (fun _ _ _ _ _ => (pe_callTy (Y.call_tupleK (K := K) rfl) (by rfl) (T.free 4) (by decide +kernel) (pa_cons (pe_lc (own := [("x", 5)]) (tt := tYes) rfl sc__law_rows.nd (pi_range1 (by rfl) (T.free 35) (pa_cons (pv 2) pa_nil)) (blkOk_by (own := [("x", 5)]) (by kernel_rfl)) (fun _ _ _ _ _ => (pg_name (i := 5) sc__law_rows.nd rfl (Or.inl rfl))) (fun _ _ _ _ _ => pts_nil) (fun _ _ _ _ _ => (Y.pe_callC (ok__law_reading T) (cal__law_reading T) (hr.mono (by decide)) (by rfl) pass0 (pa_cons (pv 0) pa_nil)))) pa_nil)))) pa_nil))))))), ?_⟩
    walk_at "sx"
    refine ⟨G, a, m, rfl, e, hp, by omega, by omega, fun w H1 w0 w1 n1 hp1 => ?_⟩
    walk_at "sx"
    refine ⟨G, a, m, rfl, n1.gh, hp1, by omega, by omega, fun t H2 t0 t1 n2 hp2 => ?_⟩
    walk_at "sx"
    refine g_walkR (by omega) (by omega) ?_
    intro A hA
    have lr : ∀ n : Nat, (rng 0 n).length = n := fun n => by simp [rng]
    refine g_lcPool (src_rng 0 _) n2.gh hA hp2 (by rw [lr]; exact szl (by omega)) (fun i acc => acc.length = i ∧ ∀ d ∈ acc, ∃ cs, d = .tuple cs ∧ cs.length = (1 + w).toNat ∧ cs.all isRd = true) ⟨rfl, by simp⟩ (fun i d v acc G3 H3 hi dv n3 hp3 _ hj QE QN k1 k2 => ?_) (fun G3 H3 ys acc hj n3 hp3 g h da => ?_)
    · walk_at "sx"
      refine g_walkR (by omega) (by omega) ?_
      intro B hB
      refine g_lcPool (src_rng 0 _) n3.gh hB hp3 (by rw [lr]; exact szl (by omega)) (fun i acc => acc.length = i ∧ acc.all isRd = true) ⟨rfl, rfl⟩ (fun i2 d2 v2 acc2 G4 H4 hi2 dv2 n4 hp4 _ hj2 QE2 QN2 k3 k4 => ?_) (fun G4 H4 ys2 acc2 hj2 n4 hp4 g2 h2 da2 => ?_)
      · walk_at "sx"
        refine ⟨G4, a, rfl, n4.gh, hp4, fun u du G5 H5 hu hdu n5 hp5 => k3 u H5 |> fun k => ?_⟩
        refine k3 u G5 H5 du n5 hp5 hdu ⟨by rw [List.length_append, hj2.1]; rfl, by rw [List.all_append, hj2.2]; simp [hu]⟩
      · walk_at "sx"
        refine g_tupOfM n4.gh h2 da2 fun p G5 H5 n5 dp => ?_
        refine k1 _ G5 H5 _ (n4.trans n5.pure) (hp4.go n5 (by simp)) dp ⟨by rw [List.length_append, hj.1]; rfl, fun d hd => ?_⟩
        rcases List.mem_append.mp hd with hd | hd
        · exact hj.2 d hd
        · simp only [List.mem_cons, List.not_mem_nil, or_false] at hd
          exact ⟨acc2, hd, by rw [hj2.1, lr], hj2.2⟩
    · walk_at "sx"
      refine g_tupOfM n3.gh h da fun p G4 H4 n4 dp => ?_
      rw [lr] at hj
      refine q _ acc G4 H4 (rowsOk_of (by rw [hj.1]; omega) (by rw [hj.1]; omega) (by omega) (by omega) hj.2) (by rw [hj.1]; omega) (fun d hd => ?_) dp (((n1.trans n2).trans n3).trans n4.pure) (hp3.go n4 (by simp))
      obtain ⟨cs, rfl, hl, _⟩ := hj.2 d hd
      simp only [dlen]
      omega
def viewsOf (ns : List Str) (rs : List PyData) : List PyData := List.zipWith (fun n r => PyData.tuple [.str n, r]) ns rs
theorem viewsOf_len {ns : List Str} {rs : List PyData} (h : rs.length = ns.length) : (viewsOf ns rs).length = ns.length := by
  unfold viewsOf
  rw [List.length_zipWith, h, Nat.min_self]
theorem viewsOf_nm : ∀ {ns : List Str} {rs : List PyData}, rs.length = ns.length → (viewsOf ns rs).map nmOf = ns
  | [], _, _ => rfl
  | n :: ns, [], h => by simp at h
  | n :: ns, r :: rs, h => by
    show nmOf (.tuple [.str n, r]) :: (viewsOf ns rs).map nmOf = _
    rw [viewsOf_nm (by simpa using h)]
    rfl
theorem viewsOf_get {ns : List Str} {rs : List PyData} {i : Nat} {n : Str} {r : PyData} (h1 : ns[i]? = some n) (h2 : rs[i]? = some r) : (viewsOf ns rs)[i]? = some (.tuple [.str n, r]) := by
  unfold viewsOf
  rw [List.getElem?_zipWith, h1, h2]
theorem look_mem' {s : Str} {ws : List PyData} : (look s ws).isSome = decide (s ∈ ws.map nmOf) := by
  unfold look
  rw [Bool.eq_iff_iff, List.find?_isSome, decide_eq_true_eq, List.mem_map]
  constructor
  · rintro ⟨x, hx, h⟩
    exact ⟨x, hx, of_decide_eq_true h⟩
  · rintro ⟨x, hx, h⟩
    exact ⟨x, hx, decide_eq_true h⟩
theorem addV_ok {ws : List PyData} {n : Str} {r : PyData} (h1 : nameOk n = true) (h2 : rowsOk r = true) (h3 : n ∉ ws.map nmOf) (h4 : ws.length < 30) : addV ws (.tuple [.str n, r]) = none := by
  unfold addV
  have e1 : viewOk (.tuple [.str n, r]) = true := by
    simp only [viewOk, isName]
    rw [h1, h2]
    rfl
  have e2 : (look (nmOf (.tuple [.str n, r])) ws).isSome = false := by rw [look_mem']; exact decide_eq_false h3
  rw [if_neg (by rw [e1]; simp), if_neg (by rw [e2]; simp), if_neg (by omega)]
theorem linkOk_of {s t : Str} {x y z : Int} (h1 : nameOk s = true) (h2 : nameOk t = true) (h3 : s ≠ t) (hx : -20 ≤ x ∧ x ≤ 20) (hy : -20 ≤ y ∧ y ≤ 20) (hz : -20 ≤ z ∧ z ≤ 20) : linkOk (.tuple [.str s, .str t, .int x, .int y, .int z]) = true := by
  have e : PyData.eqv (.str s) (.str t) = false := by
    cases e : PyData.eqv (.str s) (.str t) with
    | false => rfl
    | true => exact absurd (by simpa [PyData.eqv] using e) h3
  simp only [linkOk, isName, within]
  rw [h1, h2, e, decide_eq_true (by omega), decide_eq_true (by omega), decide_eq_true (by omega)]
  rfl
theorem addL_ok {ns : List Str} {ws ls : List PyData} {d : PyData} (hn : ∀ s ∈ ns, nameOk s = true) (h : LkOf ns d) (hw : ∀ s ∈ ns, (lnA d = s ∨ lnB d = s) → s ∈ ws.map nmOf) (hl : ls.length < 60) : addL ws ls d = none := by
  obtain ⟨s, t, x, y, z, rfl, hs, ht, hne, hx, hy, hz⟩ := h
  unfold addL
  have e2 : (look s ws).isSome = true := by rw [look_mem']; exact decide_eq_true (hw s hs (.inl rfl))
  have e3 : (look t ws).isSome = true := by rw [look_mem']; exact decide_eq_true (hw t ht (.inr rfl))
  rw [if_neg (by rw [linkOk_of (hn s hs) (hn t ht) hne hx hy hz]; simp), if_neg (by show ¬ (look s ws).isSome = false; rw [e2]; simp), if_neg (by show ¬ (look t ws).isSome = false; rw [e3]; simp), if_neg (by omega)]
theorem fit_lk {ns : List Str} {d : PyData} (hn : ∀ s ∈ ns, nameOk s = true) (h : LkOf ns d) : fit d = true := by
  obtain ⟨s, t, x, y, z, rfl, hs, ht, _⟩ := h
  refine fit_tuple (by show 5 ≤ 100000; decide) fun w hw => ?_
  simp only [List.mem_cons, List.not_mem_nil, or_false] at hw
  rcases hw with rfl | rfl | rfl | rfl | rfl
  · exact fit_name (hn s hs)
  · exact fit_name (hn t ht)
  · rfl
  · rfl
  · rfl
def sp__law_album (K : PySem.W.Frag) : Sp := fun vs H Q _ => ∃ G p ns b rs r ls, vs = [.ref p, .ref b, .ref r] ∧ Y.Ex G H ∧ LstAt K p G H (ns.map .str) ∧ LstAt K b G H rs ∧ LstAt K r G H ls ∧ rs.length = ns.length ∧ ns.Nodup ∧ ns.length ≤ 10 ∧ (∀ s ∈ ns, nameOk s = true) ∧
  (∀ x ∈ rs, rowsOk x = true ∧ fit x = true) ∧ ls.length ≤ 20 ∧ (∀ d ∈ ls, LkOf ns d) ∧ ∀ a d l G' H', Nx [] G H G' H' → H a = none → H d = none → H l = none → AlbAt K a d l G' H' (viewsOf ns rs) ls → Q (.ref a) H'
theorem lk_form {d : PyData} (h : linkOk d = true) : ∃ s t x y z, d = .tuple [.str s, .str t, .int x, .int y, .int z] ∧ nameOk s = true ∧ nameOk t = true ∧ s ≠ t ∧ (-99 ≤ x ∧ x ≤ 99) ∧ (-99 ≤ y ∧ y ≤ 99) ∧ -999 ≤ z ∧ z ≤ 999 := by
  obtain ⟨s, t, x, y, z, rfl, hs, ht⟩ := link_inv h
  simp only [linkOk, Bool.and_eq_true] at h
  have wi : ∀ {d : PyData} {lo hi : Int}, within d lo hi = true → ∃ i, d = .int i ∧ lo ≤ i ∧ i ≤ hi := fun {d lo hi} h => by
    cases d with
    | int i => exact ⟨i, rfl, of_decide_eq_true h⟩
    | _ => cases h
  obtain ⟨x, rfl, hx⟩ := wi h.1.1.2
  obtain ⟨y, rfl, hy⟩ := wi h.1.2
  obtain ⟨z, rfl, hz⟩ := wi h.2
  refine ⟨s, t, x, y, z, rfl, hs, ht, fun e => ?_, hx, hy, hz⟩
  subst e
  have e : PyData.eqv (.str s) (.str s) = true := SeqAt.eqv_refl _ (shaped_lay (shaped_fit (fit_name hs) (by simp [PyData.depth])))
  have := h.1.1.1.2
  rw [e] at this
  cases this
theorem nlOk_of {nm : List Str} {ls : List PyData} (hl : ls.length ≤ 60) (h : ∀ v ∈ ls, linkOk v = true) : nlOk nm (lkB nm ls) ∧ nlNd (lkB nm ls) := by
  refine ⟨⟨Nat.le_trans (lkB_len nm ls) (by omega), fun p hp => ?_⟩, ?_⟩
  · obtain ⟨h1, h2, h3, _⟩ := lkB_mem hp
    obtain ⟨s, t, x, y, z, e, _, _, hne, _⟩ := lk_form (h _ h1)
    rw [e] at h2 h3
    exact ⟨s, t, x, y, z, e, h2, h3, hne⟩
  · unfold nlNd lkB
    exact (num_nodup 0 ls).sublist ((List.filter_sublist).map _)
def sp_groups (K : PySem.W.Frag) : Sp := fun vs H Q _ => ∃ G a d l ws ls, vs = [.ref a] ∧ Y.Ex G H ∧ AlbAt K a d l G H ws ls ∧ ∀ o G' H', Nx [] G H G' H' → H o = none → LstAt K o G' H' (gsD (groupsOf (ws.map nmOf) (lkB (ws.map nmOf) ls))) → Q (.ref o) H'
theorem ok_groups (T : Tx fa fn bx K mg) : FnOk P w K mg base CX0 3 (He.ga K "groups") (fdOf K (He.ga K "groups")) ["album"] (sp_groups K) := by
  refine FunD.ok (F_groups T) sc_groups (fun vs H Q E h => ?_) (fun cdv A outer s H vs Q E hr h => ?_)
  · obtain ⟨_, _, _, _, _, _, rfl, _⟩ := h
    rfl
  · obtain ⟨G, a, d, l, ws, ls, rfl, e, hA, q⟩ := h
    refine ⟨_, PSs.nox ((pss_cons (ps_set (i := 1) sc_groups.nd rfl (Or.inl rfl) (Y.pe_meth0C (pv 0) (T.cls 20) (T.meth 23) (ok_Album_names T) (hr.mono (by decide)) (cal_Album_names T) pass0))
      (pss_cons (ps_set (i := 2) sc_groups.nd rfl (Or.inl rfl) (Y.pe_callC (ok__links_between T) (cal__links_between T) (hr.mono (by decide)) (by rfl) pass0 (pa_cons (pv 0) (pa_cons (pv 1) pa_nil))))
      (pss_cons (ps_set (i := 3) sc_groups.nd rfl (Or.inl rfl) (Y.pe_callC (ok__steps_at T) (cal__steps_at T) (hr.mono (by decide)) (by rfl) pass0 (pa_cons (pv 1) (pa_cons (pv 2) pa_nil))))
      (pss_cons (ps_set (i := 4) sc_groups.nd rfl (Or.inl rfl) (pe_lst pa_nil))
      (pss_cons (ps_set (i := 5) sc_groups.nd rfl (Or.inl rfl) pe_dnewK)
      (pss_cons (ps_for PassesOwn.never rfl (Y.pi_listK (K := K) rfl (pv 1)) (pg_name (i := 6) sc_groups.nd rfl (Or.inl rfl))
      (pss_one (ps_if (pt_cmp (pc_dnotin (hu_of hr) (pv 6) (pv 5)))
      (pss_cons (ps_set (i := 7) sc_groups.nd rfl (Or.inr rfl) (Y.pe_callC (ok__walks_from T) (cal__walks_from T) (hr.mono (by decide)) (by rfl) pass0 (pa_cons (pv 6) (pa_cons (pv 2) (pa_cons (pv 3) pa_nil)))))
      (pss_cons (ps_expr (Y.pe_bmK (K := K) rfl PySem.F.plainAttrs_dict PySem.F.slot_dict_update PySem.F.type_dict_update Y.mt_update (pv 5) (pa_cons (pv 7) pa_nil)))
      (pss_one (ps_expr (Y.pe_bmK (K := K) rfl PySem.F.plainAttrs_list PySem.F.slot_list_append PySem.F.type_list_append mt_append (pv 4) (pa_cons (pe_lc (own := [("other", 8)]) rfl sc_groups.nd (Y.pi_listK (K := K) rfl (pv 1)) (blkOk_by (own := [("other", 8)]) (by kernel_rfl)) (fun _ _ _ _ _ => (pg_name (i := 8) sc_groups.nd rfl (Or.inl rfl))) (fun _ _ _ _ _ => (pts_one (pt_cmp (pc_din (hu_of hr) (pv 8) (pv 7))))) (fun _ _ _ _ _ => (pv 8))) pa_nil))))))
      pss_nil)))
      (pss_one (ps_ret (pv 4)))))))))), ?_⟩
    obtain ⟨_, _, _, ok, ⟨dx, h1⟩, _⟩ := id hA
    walk_at "sx"
    refine g_mth h1 rfl ?_
    walk_at "sx"
    refine ⟨G, a, d, l, ws, ls, rfl, e, hA, fun p H1 n1 hp hL => ?_⟩
    walk_at "sx"
    have hnd := ok.nd
    have hvl := ok.vl
    have ev : namesOf ws = (ws.map nmOf).map .str := by unfold namesOf; rw [List.map_map]; rfl
    rw [ev] at hL
    obtain ⟨nok, nnd⟩ := nlOk_of (nm := ws.map nmOf) ok.ll fun v hv => (ok.lo v hv).1
    have hlen : (ws.map nmOf).length ≤ 30 := by rw [List.length_map]; exact hvl
    refine ⟨G, a, d, l, ws, ls, p, ws.map nmOf, rfl, n1.gh, hA.go n1 (by simp) (by simp) (by simp), hL, fun lk G2 H2 n2 hlk hDl => ?_⟩
    generalize hnm : ws.map nmOf = nm at *
    generalize lkB nm ls = nl at *
    walk_at "sx"
    have hL2 := hL.go n2 (by simp)
    refine ⟨G2, p, nm, lk, nl, rfl, n2.gh, hL2, hDl, hnd, by omega, nok, fun st G3 H3 n3 hst hDs => ?_⟩
    walk_at "sx"
    refine g_lstLs (K := K) (L := []) n3.gh .nil (Nat.zero_le _) fun fo H4 n4 hfo hLf => ?_
    walk_at "sx"
    refine g_keNew n4.gh fun pd H5 n5 hpd hPd => ?_
    walk_at "sx"
    have n35 := n4.trans n5
    have hL5 := ((hL2.go n3 (by simp)).go n35 (by simp))
    have hDl5 := ((hDl.go n3 (by simp)).go n35 (by simp))
    have hDs5 := hDs.go n35 (by simp)
    have hLf5 := hLf.go n5 (by simp)
    have fop : fo ≠ p := fun z => (hL2.go n3 (by simp)).live (z ▸ hfo)
    have folk : fo ≠ lk := fun z => (hDl.go n3 (by simp)).live (z ▸ hfo)
    have fost : fo ≠ st := fun z => hDs.live (z ▸ hfo)
    have pdp : pd ≠ p := fun z => ((hL2.go n3 (by simp)).go n4 (by simp)).live (z ▸ hpd)
    have pdlk : pd ≠ lk := fun z => ((hDl.go n3 (by simp)).go n4 (by simp)).live (z ▸ hpd)
    have pdst : pd ≠ st := fun z => (hDs.go n4 (by simp)).live (z ▸ hpd)
    have pdfo : pd ≠ fo := fun z => hLf.live (z ▸ hpd)
    have n15 : Nx [] G H1 G3 H5 := (n2.trans n3).trans n35
    refine g_walkLs hL5 fun S => ?_
    refine g_forS (K := K) (M := [fo, pd]) (S [fo, pd] (by simp [fop.symm, pdp.symm])) n5.gh (fun i σ G' H' => ∃ y6 y7 gs pl n, σ = [some (.ref a), some (.ref p), some (.ref lk), some (.ref st), some (.ref fo), some (.ref pd), y6, y7, none] ∧ LstAt K fo G' H' (gsD gs) ∧ KeysAt pd G' H' n (fun k => ∃ x, k = Sum.inr x ∧ x ∈ pl) ∧ n ≤ 30 * i ∧ gs.length ≤ i ∧ groupsOf nm nl = gs ++ groupsFrom nm nl (nm.drop i) pl) ⟨_, _, [], [], 0, rfl, hLf5, by
      obtain ⟨kvs, h1, h2, h3, h4⟩ := hPd
      exact ⟨kvs, h1, h2, h3, fun k => (h4 k).trans ⟨fun z => z.elim, fun ⟨_, _, z⟩ => by cases z⟩⟩, Nat.zero_le _, Nat.zero_le _, rfl⟩ ?_ ?_
    · rintro i w v σ' G6 H6 G7 H7 hi n6 ⟨y6, y7, gs, pl, n, rfl, hf6, hk6, hn6, hg6, heq⟩ n7 dv
      rw [List.getElem?_map] at hi
      obtain ⟨x, hx, rfl⟩ := Option.map_eq_some_iff.mp hi
      cases dp_str dv
      have hxi : i < nm.length := (List.getElem?_eq_some_iff.mp hx).1
      have hxnm := List.mem_of_getElem? hx
      have hdr : nm.drop i = x :: nm.drop (i + 1) := by
        rw [List.drop_eq_getElem_cons hxi]
        rw [(List.getElem?_eq_some_iff.mp hx).2]
      rw [hdr] at heq
      have n67 : Nx [fo, pd] G3 H5 G7 H7 := n6.trans n7.pure
      have hk7 := hk6.go n7 (by simp)
      have hf7 := hf6.go n7 (by simp)
      have hL7 := hL5.go n67 (by simp [fop.symm, pdp.symm])
      have hDl7 := hDl5.go n67 (by simp [folk.symm, pdlk.symm])
      have hDs7 := hDs5.go n67 (by simp [fost.symm, pdst.symm])
      walk_at "sx"
      refine g_keNi (b := decide (x ∈ pl)) hk7 (k := Sum.inr x) rfl (by rw [decide_eq_true_eq]; exact ⟨fun z => ⟨x, rfl, z⟩, fun ⟨y, e, z⟩ => by cases e; exact z⟩) ?_
      walk_at "sx"
      refine g_ndec (fun hno => ?_) (fun hyes => ?_) <;> walk_at "sx"
      rotate_left
      · refine ⟨G7, n67, _, _, gs, pl, n, rfl, hf7, hk7, by omega, by omega, ?_⟩
        rw [heq]
        show gs ++ (if x ∈ pl then _ else _) = _
        rw [if_pos hyes]
      refine ⟨G7, lk, st, nm, nl, x, rfl, n7.gh, hDl7, hDs7, hnd, by omega, nok, nnd, hxnm, fun wk G8 H8 n8 hwk hDw => ?_⟩
      walk_at "sx"
      have tl : (walksOf nm nl x).length ≤ 30 := Nat.le_trans (walkP_ok nok hxnm nm.length).len hlen
      have hk8 := hk7.go n8 (by simp)
      have pdwk : pd ≠ wk := fun z => hk7.live (z ▸ hwk)
      have fowk : fo ≠ wk := fun z => hf7.live (z ▸ hwk)
      refine g_tyKe hk8 ?_
      walk_at "sx"
      have kk := hDw.keys
      refine g_upd n8.gh hk8 kk pdwk (by unfold tabM; rw [List.length_map]; omega) fun H9 n9 hk9 => ?_
      walk_at "sx"
      have hDw9 := hDw.go n9 (by simp [pdwk.symm])
      have hf9 := (hf7.go n8 (by simp)).go n9 (by simp [pdfo.symm])
      have hL9 := (hL7.go n8 (by simp)).go n9 (by simp [pdp.symm])
      refine g_tyLs hf9 ?_
      walk_at "sx"
      refine g_walkLs hL9 fun S2 => ?_
      intro A hA
      refine g_lcS (K := K) (M := []) (S2 [] (by simp)) n9.gh hA (by simp) (by rw [List.length_map]; exact szl (by omega)) (fun j acc => acc = ((nm.take j).filter fun o => decide (o ∈ keysOf nm nl x)).map .str) rfl (fun j d2 w2 acc G10 H10 hj dw2 n10 _ hjj QE QN k1 k2 => ?_) (fun G10 H10 ys acc hjj n10 g10 h10 da => ?_)
      · rw [List.getElem?_map] at hj
        obtain ⟨z, hz, rfl⟩ := Option.map_eq_some_iff.mp hj
        cases dp_str dw2
        have tk : nm.take (j + 1) = nm.take j ++ [z] := by rw [List.take_add_one, hz]; rfl
        walk_at "sx"
        refine g_dcIn (hDw9.go n10 (by simp)) (k := Sum.inr z) rfl ?_
        rw [tab_keys]
        walk_at "sx"
        refine g_dec (fun hin => ?_) (fun hout => ?_) <;> walk_at "sx"
        · refine k1 _ G10 H10 _ (Nx.refl n10.gh) (.str z) ?_
          rw [hjj, tk, List.filter_append, List.filter_cons_of_pos (by exact decide_eq_true hin)]
          simp
        · refine k2 G10 H10 (Nx.refl n10.gh) ?_
          rw [hjj, tk, List.filter_append, List.filter_cons_of_neg (by rw [decide_eq_true_eq]; exact hout)]
          simp
      · rw [List.length_map, List.take_length] at hjj
        have hLA : LstAt K A G10 H10 acc := ⟨ys, h10, g10, da⟩
        obtain ⟨G11, n11, e11, d11⟩ := hLA.know n10 hA
        have hf11 : LstAt K fo G11 H10 (gsD gs) := hf9.go n11 (by simp)
        walk_at "sx"
        refine g_appLs n11.gh hf11 d11 (by unfold gsD; rw [List.length_map]; omega) fun H12 n12 hf12 => ?_
        have nn : Nx [fo, pd] G7 H7 G11 H12 := ((n8.pure.trans (n9.mono fun w hw => by simp at hw; simp [hw])).trans n11.pure).trans (n12.mono fun w hw => by simp at hw; simp [hw])
        refine ⟨G11, n67.trans nn, _, _, gs ++ [grp nm nl x], pl ++ keysOf nm nl x, n + (tabM (walksOf nm nl x)).length, rfl, ?_, ?_, by unfold tabM; rw [List.length_map]; omega, by simp; omega, ?_⟩
        · have h9 : acc = (grp nm nl x).map .str := hjj
          have e9 : gsD (gs ++ [grp nm nl x]) = gsD gs ++ [.list acc] := by rw [h9]; simp [gsD]
          rw [e9]
          exact hf12
        · have hk12 := (hk9.go n11 (by simp)).go n12 (by simp [pdfo])
          obtain ⟨kvs, h1, h2, h3, h4⟩ := hk12
          refine ⟨kvs, h1, h2, h3, fun k => (h4 k).trans ⟨fun z => ?_, fun z => ?_⟩⟩
          · rcases z with ⟨y, e, z⟩ | z
            · exact ⟨y, e, List.mem_append_left _ z⟩
            · unfold tabM at z
              rw [List.map_map] at z
              obtain ⟨y, hy, e⟩ := List.mem_map.mp z
              exact ⟨y.1, e.symm, List.mem_append_right _ (List.mem_map_of_mem hy)⟩
          · obtain ⟨y, e, z⟩ := z
            rcases List.mem_append.mp z with z | z
            · exact .inl ⟨y, e, z⟩
            · refine .inr ?_
              unfold tabM
              rw [List.map_map]
              obtain ⟨y0, hy0, e0⟩ := List.mem_map.mp z
              exact List.mem_map.mpr ⟨y0, hy0, by rw [e, ← e0]; rfl⟩
        · rw [heq, List.append_assoc]
          show gs ++ (if x ∈ pl then _ else _) = _
          rw [if_neg hno]
          rfl
    · rintro σ' G6 H6 n6 ⟨y6, y7, gs, pl, n, rfl, hf6, hk6, hn6, hg6, heq⟩
      rw [List.length_map, List.drop_length] at heq
      have heq : groupsOf nm nl = gs := by rw [heq]; simp [groupsFrom]
      walk_at "sx"
      have hfoH : H fo = none := (n1.trans (n2.trans n3)).fresh hfo
      have hpdH : H pd = none := ((n1.trans (n2.trans n3)).trans n4).fresh hpd
      refine q fo G6 H6 ?_ hfoH (by rw [heq]; exact hf6)
      exact ((n1.trans n15).pure.trans n6).sub fun x hx => by
        simp only [List.mem_cons, List.not_mem_nil, or_false] at hx
        rcases hx with h | h
        · exact .inr (h ▸ hfoH)
        · exact .inr (h ▸ hpdH)
theorem g_same' {α : Type} {x : α} {A B : Prop} {d : Decidable (x = x)} {i : Decidable ((!decide (x = x)) = true)} (h : B) : @ite Prop ((!decide (x = x)) = true) i A B := g_ndec (fun z => absurd rfl z) fun _ => h
theorem depth_rd' {d : PyData} (h : isRd d = true) : d.depth ≤ 0 := by cases d <;> first | (simp [PyData.depth]; done) | cases h
theorem depth_view {d : PyData} (h : viewOk d = true) : d.depth ≤ 3 := by
  obtain ⟨s, r, rfl, hs, hr⟩ := view_inv h
  cases r with
  | tuple rs =>
    refine depth_tup fun d hd => ?_
    simp only [List.mem_cons, List.not_mem_nil, or_false] at hd
    rcases hd with hd | hd <;> subst hd
    · simp [PyData.depth]
    · refine depth_tup fun d hd => ?_
      obtain ⟨cs, rfl, _, _, h3⟩ := rowOk_tup ((rows_inv hr).2.2.1 d hd)
      exact depth_tup fun d hd => depth_rd' (List.all_eq_true.mp h3 d hd)
  | _ => cases hr
theorem depth_within {d : PyData} {lo hi : Int} (h : within d lo hi = true) : d.depth = 0 := by cases d <;> first | (simp [PyData.depth]; done) | cases h
theorem depth_link {d : PyData} (h : linkOk d = true) : d.depth ≤ 1 := by
  obtain ⟨a, b, x, y, z, rfl, _, _⟩ := link_inv h
  simp only [linkOk, Bool.and_eq_true] at h
  refine depth_tup (n := 0) fun d hd => ?_
  simp only [List.mem_cons, List.not_mem_nil, or_false] at hd
  rcases hd with hd | hd | hd | hd | hd <;> subst hd
  · simp [PyData.depth]
  · simp [PyData.depth]
  · rw [depth_within h.1.1.2]; exact Nat.le_refl 0
  · rw [depth_within h.1.2]; exact Nat.le_refl 0
  · rw [depth_within h.2]; exact Nat.le_refl 0
theorem shaped_views {ws ls : List PyData} (ok : AOk ws ls) : SeqAt.shaped (.list ws) = true :=
  shaped_fit (fit_list (by have := ok.vl; omega) fun d hd => (ok.vo d hd).2) (Nat.le_trans (depth_lst (n := 3) fun d hd => depth_view (ok.vo d hd).1) (by decide))
theorem shaped_links {ws ls : List PyData} (ok : AOk ws ls) : SeqAt.shaped (.list ls) = true :=
  shaped_fit (fit_list (by have := ok.ll; omega) fun d hd => (ok.lo d hd).2) (Nat.le_trans (depth_lst (n := 1) fun d hd => depth_link (ok.lo d hd).1) (by decide))
theorem name_fit {v : PyData} (h : viewOk v = true) : nameOk (nmOf v) = true := by
  obtain ⟨s, r, rfl, hs, _⟩ := view_inv h
  exact hs
theorem shaped_names {ws ls : List PyData} (ok : AOk ws ls) : SeqAt.shaped (.list (namesOf ws)) = true := by
  have hm : ∀ d ∈ namesOf ws, ∃ v ∈ ws, d = .str (nmOf v) := fun d hd => by
    obtain ⟨v, hv, rfl⟩ := List.mem_map.mp hd
    exact ⟨v, hv, rfl⟩
  refine shaped_fit (fit_list (by have := ok.vl; simp [namesOf]; omega) fun d hd => ?_) (Nat.le_trans (depth_lst (n := 0) fun d hd => ?_) (by decide))
  · obtain ⟨v, hv, rfl⟩ := hm d hd
    exact fit_name (name_fit (ok.vo v hv).1)
  · obtain ⟨v, hv, rfl⟩ := hm d hd
    simp [PyData.depth]
/-! closed ways and rings -/
def backW (w : Way) : Way := w.reverse.map fun x => (x.1, !x.2)
def wyAt (tab : Tab) (n : Str) : Way × Plc := (gtM tab n).getD ([], (0, 0, 0))
def ringAt (tab : Tab) (q : Nat × PyData) : Option Way := if behind (wyAt tab (lnA q.2)).2 q.2 true ≠ (wyAt tab (lnB q.2)).2 then some ((wyAt tab (lnA q.2)).1 ++ [(q.1, true)] ++ backW (wyAt tab (lnB q.2)).1) else none
def ringsFrom (nm : List Str) (nl : List (Nat × PyData)) (s : Str) : List Way := nl.filterMap (ringAt (walksOf nm nl s))
def ringsAll (nm : List Str) (nl : List (Nat × PyData)) : List Way := nm.flatMap (ringsFrom nm nl)
theorem gtM_tab {n : Str} : ∀ {tab : Tab}, gtM (tabM tab) (Sum.inr n : Key) = (gtM tab n).map enD
  | [] => rfl
  | x :: tab => by
    show gtM (((Sum.inr x.1 : Key), enD x.2) :: tabM tab) _ = _
    rw [gtM_cons, gtM_cons, gtM_tab]
    by_cases h : x.1 = n
    · rw [if_pos (congrArg _ h), if_pos h]; rfl
    · rw [if_neg (fun z => h (Sum.inr.inj z)), if_neg h]
theorem wy_get {n : Str} {tab : Tab} (h : n ∈ tab.map (·.1)) : gtM tab n = some (wyAt tab n) ∧ ∃ e ∈ tab, e = (n, wyAt tab n) := by
  obtain ⟨e, he⟩ : ∃ e, gtM tab n = some e := by
    cases hg : gtM tab n with
    | some e => exact ⟨e, rfl⟩
    | none => exact absurd h (gtM_none.mp hg)
  have e2 : wyAt tab n = e := by unfold wyAt; rw [he]; rfl
  refine ⟨by rw [e2]; exact he, ?_⟩
  unfold gtM at he
  obtain ⟨x, hx, rfl⟩ := Option.map_eq_some_iff.mp he
  have h1 := List.find?_some hx
  rw [decide_eq_true_eq] at h1
  exact ⟨x, List.mem_of_find?_eq_some hx, by rw [e2, ← h1]⟩
theorem backW_len (w : Way) : (backW w).length = w.length := by unfold backW; simp
theorem way_len {nm : List Str} {nl : List (Nat × PyData)} {s n : Str} (ok : nlOk nm nl) (hs : s ∈ nm) (h : n ∈ keysOf nm nl s) : (wyAt (walksOf nm nl s) n).1.length ≤ nm.length := by
  obtain ⟨_, e, he, rfl⟩ := wy_get h
  have t := walkP_ok ok hs nm.length
  exact Nat.le_trans (t.way _ he) t.len
theorem ring_len {nm : List Str} {nl : List (Nat × PyData)} {s : Str} (ok : nlOk nm nl) (hs : s ∈ nm) (h : ∀ q ∈ nl, lnA q.2 ∈ keysOf nm nl s ∧ lnB q.2 ∈ keysOf nm nl s) : ∀ w ∈ ringsFrom nm nl s, w.length ≤ 2 * nm.length + 1 := by
  intro w hw
  obtain ⟨q, hq, e⟩ := List.mem_filterMap.mp hw
  unfold ringAt at e
  split at e
  · cases e
    have h1 := way_len ok hs (h q hq).1
    have h2 := way_len ok hs (h q hq).2
    simp [backW_len]
    omega
  · cases e
theorem eqv_pl {p q : Plc} : PyData.eqv (plD p) (plD q) = decide (p = q) := by
  obtain ⟨a, b, c⟩ := p
  obtain ⟨x, y, z⟩ := q
  unfold plD
  rw [Bool.eq_iff_iff]
  simp [PyData.eqv, PyData.eqvAll, Prod.mk.injEq]
theorem shaped_pl {p : Plc} : SeqAt.shaped (plD p) = true := by
  refine shaped_fit (fit_tuple (by show 3 ≤ 100000; decide) fun d hd => ?_) ?_
  · simp only [List.mem_cons, List.not_mem_nil, or_false] at hd
    rcases hd with rfl | rfl | rfl <;> rfl
  · exact Nat.le_trans (depth_tup (n := 0) fun d hd => by
      simp only [List.mem_cons, List.not_mem_nil, or_false] at hd
      rcases hd with rfl | rfl | rfl <;> simp [PyData.depth]) (by decide)
/-! the first of the shortest -/
def better (b : Option Way) (w : Way) : Option Way := match b with
  | none => some w
  | some x => if w.length < x.length then some w else some x
def firstMin (l : List Way) : Option Way := l.foldl better none
def IsMin (l : List Way) (i : Nat) (b : Way) : Prop := l[i]? = some b ∧ ∀ j w, l[j]? = some w → b.length ≤ w.length ∧ (j < i → b.length < w.length)
theorem IsMin.uniq {l : List Way} {i j : Nat} {b c : Way} (h1 : IsMin l i b) (h2 : IsMin l j c) : b = c := by
  have a1 := h1.2 j c h2.1
  have a2 := h2.2 i b h1.1
  have : i = j := by
    rcases Nat.lt_trichotomy i j with h | h | h
    · have := a2.2 h; omega
    · exact h
    · have := a1.2 h; omega
  subst this
  exact Option.some.inj (h1.1.symm.trans h2.1)
theorem firstMin_snoc {l : List Way} {w : Way} : firstMin (l ++ [w]) = better (firstMin l) w := by unfold firstMin; rw [List.foldl_append]; rfl
theorem firstMin_is : ∀ (n : Nat) (l : List Way), l.length = n → (l = [] ∧ firstMin l = none) ∨ ∃ i b, firstMin l = some b ∧ IsMin l i b
  | 0, l, h => .inl ⟨List.length_eq_zero_iff.mp h, by rw [List.length_eq_zero_iff.mp h]; rfl⟩
  | n + 1, l, h => by
    obtain ⟨m, w, rfl⟩ : ∃ m w, l = m ++ [w] := by
      cases hl : l.reverse with
      | nil => rw [List.reverse_eq_nil_iff.mp hl] at h; cases h
      | cons w r => exact ⟨r.reverse, w, by have := congrArg List.reverse hl; simpa using this⟩
    rw [firstMin_snoc]
    have hm : m.length = n := by simpa using h
    have g1 : (m ++ [w])[m.length]? = some w := by simp
    have split : ∀ j x, (m ++ [w])[j]? = some x → (m[j]? = some x ∧ j < m.length) ∨ (j = m.length ∧ x = w) := fun j x hx => by
      by_cases hj : j < m.length
      · rw [List.getElem?_append_left hj] at hx; exact .inl ⟨hx, hj⟩
      · have hjl := (List.getElem?_eq_some_iff.mp hx).1
        have : j = m.length := by simp at hjl; omega
        subst this
        rw [g1] at hx
        exact .inr ⟨rfl, (Option.some.inj hx).symm⟩
    rcases firstMin_is n m hm with ⟨e, e2⟩ | ⟨i, b, e, h1, h2⟩
    · refine .inr ⟨0, w, by rw [e2]; rfl, by rw [e]; rfl, fun j x hx => ?_⟩
      rcases split j x hx with ⟨a, _⟩ | ⟨a, rfl⟩
      · rw [e] at a; simp at a
      · exact ⟨Nat.le_refl _, fun z => by omega⟩
    · rw [e]
      have il := (List.getElem?_eq_some_iff.mp h1).1
      unfold better
      by_cases hw : w.length < b.length
      · simp only [if_pos hw]
        refine .inr ⟨m.length, w, rfl, g1, fun j x hx => ?_⟩
        rcases split j x hx with ⟨a, aj⟩ | ⟨rfl, rfl⟩
        · have := (h2 j x a).1
          exact ⟨by omega, fun _ => by omega⟩
        · exact ⟨Nat.le_refl _, fun z => by omega⟩
      · simp only [if_neg hw]
        refine .inr ⟨i, b, rfl, by rw [List.getElem?_append_left il]; exact h1, fun j x hx => ?_⟩
        rcases split j x hx with ⟨a, _⟩ | ⟨rfl, rfl⟩
        · exact h2 j x a
        · exact ⟨by omega, fun z => by omega⟩
theorem firstMin_of {l : List Way} {i : Nat} {b : Way} (h : IsMin l i b) : firstMin l = some b := by
  rcases firstMin_is l.length l rfl with ⟨e, _⟩ | ⟨j, c, e, hc⟩
  · have := h.1
    rw [e] at this
    simp at this
  · rw [e, hc.uniq h]
/-! answers of a laying -/
inductive Ans where
  | ring (w : Way)
  | laid (md : List (Str × (Int × Plc)))
def plcD (e : Int × Plc) : PyData := .tuple [.int e.1, .int e.2.1, .int e.2.2.1, .int e.2.2.2]
def layM (md : List (Str × (Int × Plc))) : List (Key × PyData) := md.map fun e => ((Sum.inr e.1 : Key), plcD e.2)
def AnsAt (K : PySem.W.Frag) (v : V) (G H : Hp) (a : Ans) : Prop := ∃ t x, v = .ref t ∧ match a with
  | .ring w => SqT K G t [.str "ring", x] ∧ Dp K G x (wayD w)
  | .laid md => ∃ d, x = .ref d ∧ SqT K G t [.str "laid", .ref d] ∧ DctAt K d G H (layM md)
/-- the answer for the names nm (the group's, in order), the links nl between them and the number of the first view -/
def ansOf (nm : List Str) (nl : List (Nat × PyData)) (num : Int) : Ans := match firstMin (ringsAll nm nl) with
  | some w => .ring w
  | none => .laid (nm.map fun n => (n, (num, (wyAt (walksOf nm nl (nm.headD "")) n).2)))
def KvAt (K : PySem.W.Frag) (kvs : List (Key × V)) (G : Hp) (md : List (Key × PyData)) : Prop := kvs.map (·.1) = md.map (·.1) ∧ DpAll K G (kvs.map (·.2)) (md.map (·.2))
theorem KvAt.nil {K : PySem.W.Frag} {G : Hp} : KvAt K [] G [] := ⟨rfl, .nil⟩
theorem KvAt.ex {K : PySem.W.Frag} {G G' : Hp} {kvs : List (Key × V)} {md : List (Key × PyData)} (h : KvAt K kvs G md) (e : Y.Ex G G') : KvAt K kvs G' md := ⟨h.1, dpAll_mono e h.2⟩
/-! several answers joined -/
def ringsIn (as : List Ans) : List Way := as.filterMap fun a => match a with
  | .ring w => some w
  | .laid _ => none
def laidIn (as : List Ans) : List (Key × PyData) := as.foldl (fun acc a => match a with
  | .ring _ => acc
  | .laid md => mergeM acc (layM md)) []
def joinAns (nm : List Str) (as : List Ans) (pl : Str → Int × Plc) : Ans := match firstMin (ringsIn as) with
  | some w => .ring w
  | none => .laid (nm.map fun n => (n, pl n))
def AnsLs (K : PySem.W.Frag) (b : Addr) (G H : Hp) (as : List Ans) : Prop := ∃ vs, H b = some (.lst vs) ∧ G b = none ∧ vs.length = as.length ∧ ∀ (i : Nat) (v : V) (a : Ans), vs[i]? = some v → as[i]? = some a → AnsAt K v G H a
theorem AnsAt.go {K : PySem.W.Frag} {v : V} {G H G' H' : Hp} {M : List Addr} {a : Ans} (r : AnsAt K v G H a) (n : Nx M G H G' H') (hM : ∀ b md, b ∈ M → ¬ DctAt K b G H md) : AnsAt K v G' H' a := by
  obtain ⟨t, x, rfl, h⟩ := r
  refine ⟨t, x, rfl, ?_⟩
  cases a with
  | ring w => exact ⟨n.gg.seqT h.1, dp_mono n.gg h.2⟩
  | laid md =>
    obtain ⟨d, e, h1, h2⟩ := h
    exact ⟨d, e, n.gg.seqT h1, h2.go n fun z => hM d _ z h2⟩
theorem AnsAt.upd {K : PySem.W.Frag} {v : V} {G H : Hp} {A : Addr} {o : HO} {a : Ans} (r : AnsAt K v G H a) (h : H A = none ∨ ∃ ys, H A = some (.lst ys)) : AnsAt K v G (upd H A o) a := by
  obtain ⟨t, x, rfl, z⟩ := r
  refine ⟨t, x, rfl, ?_⟩
  cases a with
  | ring w => exact z
  | laid md =>
    obtain ⟨d, e, h1, h2⟩ := z
    refine ⟨d, e, h1, h2.upd fun hd => ?_⟩
    obtain ⟨kvs, hk, _⟩ := h2
    rw [hd, hk] at h
    rcases h with h | ⟨ys, h⟩ <;> cases h
def sp_joined (K : PySem.W.Frag) : Sp := fun vs H Q _ => ∃ G p b, ∃ nm : List Str, ∃ as pl, vs = [.ref p, .ref b] ∧ Y.Ex G H ∧ LstAt K p G H (nm.map .str) ∧ AnsLs K b G H as ∧ nm.Nodup ∧ nm.length ≤ 100 ∧ as.length ≤ 100 ∧ (∀ md, Ans.laid md ∈ as → md.length ≤ 100) ∧
  (ringsIn as = [] → ∀ n ∈ nm, gtM (laidIn as) (Sum.inr n : Key) = some (plcD (pl n))) ∧ ∀ v G' H', Nx [] G H G' H' → AnsAt K v G' H' (joinAns nm as pl) → Q v H'
theorem ok_joined (T : Tx fa fn bx K mg) : FnOk P w K mg base CX0 1 (He.ga K "joined") (fdOf K (He.ga K "joined")) ["names", "answers"] (sp_joined K) := by
  refine FunD.ok (F_joined T) sc_joined (fun vs H Q E h => ?_) (fun cdv A outer s H vs Q E hr h => ?_)
  · obtain ⟨_, _, _, _, _, _, rfl, _⟩ := h
    rfl
  · obtain ⟨G, p, b, nm, as, pl, rfl, e, hL, hB, hnd, hnl, hal, hml, hpl, q⟩ := h
    refine ⟨_, PSs.nox ((pss_cons (ps_setLc (i := 2) (own := [("kind", 6), ("told", 7)]) rfl sc_joined.nd rfl rfl (sw_true rfl rfl rfl (by decide +kernel)) (Y.pi_listK (K := K) rfl (pv 1)) (blkOk_by (own := [("kind", 6), ("told", 7)]) (by kernel_rfl)) (fun _ _ _ _ _ => (Y.pg_tupK (K := K) (n := 2) rfl rfl (pgs_cons (pg_name (i := 6) sc_joined.nd rfl (Or.inl rfl)) (pgs_cons (pg_name (i := 7) sc_joined.nd rfl (Or.inl rfl)) pgs_nil)))) (fun _ _ _ _ _ => (pts_one (pt_cmpR op_eq (pv 6) pe_str (nomark _)))) (fun _ _ _ _ _ => (pv 7)))
      (pss_cons (ps_if (Y.pt_truthK (K := K) rfl (pv 2) (by intro _; rfl))
      (pss_one (ps_ret (pe_tup (pa_cons pe_str (pa_cons (Y.pe_minLenK (K := K) rfl rfl (by rfl) (T.free 33) (by rfl) (T.free 3) (pa_cons (pv 2) pa_nil)) pa_nil)))))
      pss_nil)
      (pss_cons (ps_set (i := 3) sc_joined.nd rfl (Or.inr rfl) pe_dnewK)
      (pss_cons (ps_for PassesOwn.never rfl (Y.pi_listK (K := K) rfl (pv 1)) (Y.pg_tupK (K := K) (n := 2) rfl rfl (pgs_cons (pg_name (i := 4) sc_joined.nd rfl (Or.inl rfl)) (pgs_cons (pg_name (i := 5) sc_joined.nd rfl (Or.inl rfl)) pgs_nil)))
      (pss_one (ps_expr (Y.pe_bmK (K := K) rfl PySem.F.plainAttrs_dict PySem.F.slot_dict_update PySem.F.type_dict_update Y.mt_update (pv 3) (pa_cons (pv 5) pa_nil)))))
      (pss_one (ps_ret (pe_tup (pa_cons pe_str (pa_cons (pe_dc (own := [("name", 8)]) (tt := tYes) rfl sc_joined.nd (Y.pi_listK (K := K) rfl (pv 0)) (blkOk_by (own := [("name", 8)]) (by kernel_rfl)) (fun _ _ _ _ _ => (pg_name (i := 8) sc_joined.nd rfl (Or.inl rfl))) (fun _ _ _ _ _ => pts_nil) (fun _ _ _ _ _ => (pv 8)) (fun _ _ _ _ _ => (pe_dget (hu_of hr) (pv 3) (pv 8) (fun _ _ => rfl)))) pa_nil)))))))))), ?_⟩
    walk_at "sx"
    obtain ⟨vs, hb, gb, hvl, hvs⟩ := id hB
    refine g_walkV hb ?_
    intro A hA
    have Ab : A ≠ b := fun z => by rw [z, hb] at hA; cases hA
    refine g_lcP (M := []) (src_raw hb (by simp)) e hA (by simp) (szl (by omega)) (fun i acc G' _ => DpAll K G' acc ((ringsIn (as.take i)).map wayD)) (fun _ _ _ _ _ _ h => h) (fun _ _ _ _ _ _ n h => dpAll_mono n.gg h) .nil (fun i v acc G1 H1 hi hv n1 _ hj QE QN k1 k2 => ?_) (fun G1 H1 ys hj n1 g1 h1 hyl => ?_)
    · obtain ⟨a0, ha0⟩ : ∃ a, as[i]? = some a := ⟨as[i]'(by omega), by simp [show i < as.length by omega]⟩
      have hat := (hvs i v a0 hv ha0).go n1 (by simp)
      have tk : as.take (i + 1) = as.take i ++ [a0] := by rw [List.take_add_one, ha0]; rfl
      obtain ⟨t, x, rfl, h⟩ := hat
      cases a0 with
      | ring w =>
        refine g_un2R n1.gh h.1 ⟨wipe2, ?_⟩
        walk_at "sx"
        refine g_dec (fun _ => ?_) (fun z => absurd rfl z)
        walk_at "sx"
        refine k1 _ G1 H1 (Nx.refl n1.gh) ?_
        have : (ringsIn (as.take (i + 1))).map wayD = (ringsIn (as.take i)).map wayD ++ [wayD w] := by
          unfold ringsIn
          rw [tk, List.filterMap_append, List.map_append]
          rfl
        rw [this]
        exact dpAll_snoc hj h.2
      | laid md =>
        obtain ⟨d, ex, hT, _⟩ := h
        subst ex
        refine g_un2R n1.gh hT ⟨wipe2, ?_⟩
        walk_at "sx"
        refine g_dec (fun z => absurd z (by decide)) (fun _ => ?_)
        refine k2 G1 H1 (Nx.refl n1.gh) ?_
        have : ringsIn (as.take (i + 1)) = ringsIn (as.take i) := by
          unfold ringsIn
          rw [tk, List.filterMap_append]
          simp
        rw [this]
        exact hj
    rw [hvl, List.take_length] at hj
    walk_at "sx"
    refine g_truL (.of h1) ?_
    refine g_nbool (fun hnn => ?_) (fun hem => ?_)
    · walk_at "sx"
      refine g_minLen ?_
      walk_at "sx"
      have hpos : 0 < ys.length := by
        cases ys with
        | nil => cases hnn
        | cons _ _ => simp
      refine g_minLs (ns := (ringsIn as).map fun w => w.map waD) h1 n1.gh hj (by rw [List.map_map]; rfl) (by rw [← dpAll_len hj]; exact hpos) fun i x u hx hu dx hb => ?_
      rw [List.getElem?_map] at hu
      obtain ⟨w, hw, rfl⟩ := Option.map_eq_some_iff.mp hu
      have hmin : firstMin (ringsIn as) = some w := firstMin_of (i := i) ⟨hw, fun j y hy => by
        have := hb j (y.map waD) (by rw [List.getElem?_map, hy]; rfl)
        simpa using this⟩
      walk_at "sx"
      refine g_tupRaw (K := K) n1.gh (by show 2 ≤ sizeLine; decide) fun t G7 H7 n7 ht hT => ?_
      have ea : joinAns nm as pl = .ring w := by unfold joinAns; rw [hmin]
      refine q _ G7 H7 (n1.trans n7) ?_
      rw [ea]
      exact ⟨t, x, rfl, hT, dp_mono n7.gg dx⟩
    walk_at "sx"
    have hR0 : ringsIn as = [] := by
      have h0 : ys.length = 0 := by
        cases ys with
        | nil => rfl
        | cons _ _ => cases hem
      have := dpAll_len hj
      rw [List.length_map, h0] at this
      exact List.length_eq_zero_iff.mp this.symm
    refine g_newD (K := K) n1.gh fun D H2 n2 hD0 hD => ?_
    walk_at "sx"
    have hb1 : H1 b = some (.lst vs) := n1.fr b _ (by simp) hb
    have hb2 : H2 b = some (.lst vs) := n2.fr b _ (by simp) hb1
    have bD : b ≠ D := fun z => by rw [← z, hb1] at hD0; cases hD0
    refine g_walkV hb2 ?_
    refine g_forV hb2 (M := [D]) (by simp [bD]) n2.gh (fun i σ G' H' => ∃ y4 y5, σ = [some (.ref p), some (.ref b), some (.ref A), some (.ref D), y4, y5, none, none, none] ∧ DctAt K D G' H' (laidIn (as.take i)) ∧ (laidIn (as.take i)).length ≤ 100 * i) ⟨_, _, rfl, hD, Nat.le_refl _⟩ ?_ ?_
    · rintro i v σ' G3 H3 hv n3 ⟨y4, y5, rfl, hD3, hl3⟩
      have hi : i < vs.length := (List.getElem?_eq_some_iff.mp hv).1
      obtain ⟨a0, ha0⟩ : ∃ a, as[i]? = some a := ⟨as[i]'(by omega), by simp [show i < as.length by omega]⟩
      have tk : as.take (i + 1) = as.take i ++ [a0] := by rw [List.take_add_one, ha0]; rfl
      have n13 : Nx [D] G1 H1 G3 H3 := n2.pure.trans n3
      have hat := (hvs i v a0 hv ha0).go n1 (by simp)
      obtain ⟨t, x, rfl, h⟩ := hat
      cases a0 with
      | ring w =>
        have : w ∈ ringsIn as := List.mem_filterMap.mpr ⟨_, List.mem_of_getElem? ha0, rfl⟩
        rw [hR0] at this
        cases this
      | laid md =>
        obtain ⟨d, ex, hT, hd⟩ := h
        subst ex
        have Dd : D ≠ d := fun z => hd.live (z ▸ hD0)
        have hd := hd.go n13 (by simp [Dd.symm])
        refine g_un2R n3.gh (n13.gg.seqT hT) ?_
        walk_at "sx"
        have hml2 := hml md (List.mem_of_getElem? ha0)
        have hll : (layM md).length ≤ 100 := by unfold layM; rw [List.length_map]; exact hml2
        obtain ⟨kvs, hkv, _⟩ := id hD3
        refine ⟨.inr (.inr (.inl ⟨rfl, .inl ⟨kvs, hkv⟩⟩)), ?_⟩
        walk_at "sx"
        have e9 : laidIn (as.take (i + 1)) = mergeM (laidIn (as.take i)) (layM md) := by
          unfold laidIn
          rw [tk, List.foldl_append]
          rfl
        refine g_updD n3.gh hD3 hd Dd (by omega) fun H4 n4 hD4 => ⟨G3, n3.trans n4, _, _, rfl, by rw [e9]; exact hD4, ?_⟩
        rw [e9]
        have := mergeM_len (md := laidIn (as.take i)) (more := layM md)
        omega
    · rintro σ' G3 H3 n3 ⟨y4, y5, rfl, hD3, hl3⟩
      rw [hvl, List.take_length] at hD3
      walk_at "sx"
      have n13 : Nx [] G H G3 H3 := ((n1.pure (M := [D])).trans (n2.pure.trans n3)).drop (n1.fresh hD0)
      have hL3 := hL.go n13 (by simp)
      refine g_walkLs hL3 fun S => ?_
      intro C hC
      let f : Str → Str × (Int × Plc) := fun n => (n, pl n)
      refine g_dcC (K := K) (M := []) (S [] (by simp)) n3.gh hC (by simp) (by rw [List.length_map]; omega) (fun i kvs G' _ => KvAt K kvs G' (layM ((nm.take i).map f))) (fun _ _ _ _ _ h => h) (fun _ _ _ _ _ _ n h => h.ex n.gg) .nil (fun i d2 w2 kvs G9 H9 hi dw n9 hDl hj QE QN k1 k2 => ?_) fun G9 H9 kvs hj n9 g9 h9 hkl => ?_
      · rw [List.getElem?_map] at hi
        obtain ⟨z, hz, rfl⟩ := Option.map_eq_some_iff.mp hi
        cases dp_str dw
        have hzm := List.mem_of_getElem? hz
        walk_at "sx"
        refine g_dcGet (hD3.go n9 (by simp)) (k := Sum.inr z) rfl (hpl hR0 z hzm) fun v3 d3 => ?_
        refine k1 _ _ (Sum.inr z) G9 H9 rfl (Nx.refl n9.gh) ?_
        obtain ⟨p1, p2⟩ := pt_rel (Sum.inr z) d3 hj.1 hj.2
        have hz2 : (Sum.inr z : Key) ∉ (layM ((nm.take i).map f)).map (·.1) := fun hm => by
          unfold layM at hm
          rw [List.map_map, List.map_map] at hm
          obtain ⟨y, hy, ey⟩ := List.mem_map.mp hm
          have ey : y = z := Sum.inr.inj ey
          subst ey
          obtain ⟨jj, hjj, hj2⟩ := List.mem_take_iff_getElem.mp hy
          obtain ⟨hi2, e2⟩ := List.getElem?_eq_some_iff.mp hz
          have := (List.getElem_inj hnd).mp (hj2.trans e2.symm)
          omega
        rw [ptM_new hz2] at p1 p2
        have el : layM ((nm.take (i + 1)).map f) = layM ((nm.take i).map f) ++ [(Sum.inr z, plcD (pl z))] := by
          rw [List.take_add_one, hz]
          unfold layM
          rw [List.map_append, List.map_append]
          rfl
        rw [el]
        exact ⟨p1, p2⟩
      walk_at "sx"
      rw [List.length_map, List.take_length] at hj
      have hDD : DctAt K C G9 H9 (layM (nm.map f)) := ⟨kvs, h9, g9, hj.1, hj.2⟩
      refine g_tupRaw (K := K) n9.gh (by show 2 ≤ sizeLine; decide) fun t G10 H10 n10 ht hT => ?_
      have ea : joinAns nm as pl = .laid (nm.map f) := by
        unfold joinAns
        rw [hR0]
        rfl
      refine q _ G10 H10 (n13.trans (n9.trans n10)) ?_
      rw [ea]
      exact ⟨t, _, rfl, C, rfl, hT, hDD.go n10 (by simp)⟩
def placeOf (s : Str) (ws : List PyData) : Nat := ws.findIdx fun v => decide (nmOf v = s)
def sp_Album_index (K : PySem.W.Frag) : Sp := fun vs H Q E => ∃ G a d l ws ls s, vs = [.ref a, .str s] ∧ Y.Ex G H ∧ AlbAt K a d l G H ws ls ∧ (look s ws = none → RaE K G H E (.unk s)) ∧ ((look s ws).isSome = true → ∀ G' H', Nx [] G H G' H' → Q (.int (placeOf s ws : Int)) H')
theorem dpAll_strs_inv {K : PySem.W.Frag} {G : Hp} : ∀ {vs : List V} {ws : List PyData}, DpAll K G vs (namesOf ws) → vs = (ws.map nmOf).map V.str
  | _, [], h => by cases h; rfl
  | _, w :: ws, h => by
    cases h with
    | cons a t =>
      cases a
      rw [dpAll_strs_inv t]
      rfl
theorem look_place {s : Str} {ws : List PyData} (h : (look s ws).isSome = true) : (ws.map nmOf)[placeOf s ws]? = some s ∧ ∀ m, m < placeOf s ws → (ws.map nmOf)[m]? ≠ some s := by
  unfold look at h
  rw [List.find?_isSome] at h
  have hl : placeOf s ws < ws.length := List.findIdx_lt_length.mpr h
  refine ⟨?_, fun m hm z => ?_⟩
  · have := List.findIdx_getElem (w := hl)
    rw [List.getElem?_map, List.getElem?_eq_getElem hl]
    exact congrArg some (of_decide_eq_true this)
  · have hml : m < ws.length := by omega
    have := List.not_of_lt_findIdx hm
    rw [List.getElem?_map, List.getElem?_eq_getElem hml] at z
    exact of_decide_eq_false this (Option.some.inj z)
theorem ok_Album_index (T : Tx fa fn bx K mg) : FnOk P w K mg base (L2.CX P w) 4 (He.ma K (He.ga K "Album") "index") (fdOf K (He.ma K (He.ga K "Album") "index")) ["self", "name"] (sp_Album_index K) := by
  refine FunD.ok (F_Album_index T) sc_Album_index (fun vs H Q E h => ?_) (fun cdv A outer s H vs Q E hr h => ?_)
  · obtain ⟨_, _, _, _, _, _, _, rfl, _⟩ := h
    rfl
  · obtain ⟨G, a, d, l, ws, ls, s, rfl, e, hA, qe, q⟩ := h
    refine ⟨_, ((pss_cons (ps_expr (Y.pe_methC (pv 0) (T.cls 20) (T.meth 21) (ok_Album__check_known T) (hr.mono (by decide)) (cal_Album__check_known T) (passL (takesL_of (takes_of rfl rfl rfl rfl))) (pa_cons (pv 1) pa_nil)))
      (pss_one (ps_ret (Y.pe_bmK (K := K) rfl PySem.F.plainAttrs_list PySem.F.slot_list_index PySem.F.type_list_index mt_index (Y.pe_meth0C (pv 0) (T.cls 20) (T.meth 23) (ok_Album_names T) (hr.mono (by decide)) (cal_Album_names T) pass0) (pa_cons (pv 1) pa_nil)))))), ?_⟩
    obtain ⟨g1, g2, g3, ok, ⟨dx, h1⟩, ⟨kvs, h2, hk, dk⟩, xs, h3, dl⟩ := id hA
    walk_at "sx"
    refine g_mth h1 rfl ?_
    walk_at "sx"
    refine ⟨G, a, d, l, ws, ls, s, rfl, e, hA, fun hl => ?_, fun hl => qe hl⟩
    walk_at "sx"
    refine g_mth h1 rfl ?_
    walk_at "sx"
    refine ⟨G, a, d, l, ws, ls, rfl, e, hA, fun p H1 n hp hL => ?_⟩
    obtain ⟨vs, hvs, gp, dvs⟩ := hL
    rw [dpAll_strs_inv dvs] at hvs
    refine g_tyL hvs ?_
    walk_at "sx"
    obtain ⟨z1, z2⟩ := look_place hl
    refine g_index hvs z1 z2 ?_
    exact q hl G H1 n
def sp__backwards (K : PySem.W.Frag) : Sp := fun vs H Q _ => ∃ G v w, vs = [v] ∧ Y.Ex G H ∧ Dp K G v (wayD w) ∧ w.length ≤ 1000 ∧ ∀ u G' H', Nx [] G H G' H' → Dp K G' u (wayD (backW w)) → Q u H'
theorem ok__backwards (T : Tx fa fn bx K mg) : FnOk P w K mg base CX0 1 (He.ga K "_backwards") (fdOf K (He.ga K "_backwards")) ["way"] (sp__backwards K) := by
  refine FunD.ok (F__backwards T) sc__backwards (fun vs H Q E h => ?_) (fun cdv A outer s H vs Q E hr h => ?_)
  · obtain ⟨_, _, _, rfl, _⟩ := h
    rfl
  · obtain ⟨G, v, w, rfl, e, dv, hw, q⟩ := h
    refine ⟨_, PSs.nox ((pss_one (ps_ret (pe_callTy (Y.call_tupleK (K := K) rfl) (by rfl) (T.free 4) (by decide +kernel) (pa_cons (pe_lc (own := [("number", 1), ("forward", 2)]) (tt := tYes) rfl sc__backwards.nd (Y.pi_revAK (K := K) rfl (by rfl) (T.free 32) (pv 0)) (blkOk_by (own := [("number", 1), ("forward", 2)]) (by kernel_rfl)) (fun _ _ _ _ _ => (Y.pg_tupK (K := K) (n := 2) rfl rfl (pgs_cons (pg_name (i := 1) sc__backwards.nd rfl (Or.inl rfl)) (pgs_cons (pg_name (i := 2) sc__backwards.nd rfl (Or.inl rfl)) pgs_nil)))) (fun _ _ _ _ _ => pts_nil) (fun _ _ _ _ _ => (pe_tup (pa_cons (pv 1) (pa_cons (pe_not (pv 2)) pa_nil))))) pa_nil))))), ?_⟩
    walk_at "sx"
    refine g_iRevA ?_
    walk_at "sx"
    refine g_revT e dv fun a xs S => ?_
    intro A hA
    refine g_lcPS (K := K) (M := []) (es := fun i => (((w.reverse).take i).map fun x => (x.1, !x.2)).map waD) (S []) e hA (by simp) (by rw [List.length_reverse, List.length_map]; exact szl (by omega)) (by simp) (fun i d v1 acc G' H' hi d1 n1 _ QE QN k1 k2 => ?_) fun G' H' n1 hL => ?_
    · rw [← List.map_reverse, List.getElem?_map] at hi
      obtain ⟨x, hx, rfl⟩ := Option.map_eq_some_iff.mp hi
      refine g_un2 n1.gh d1 fun u1 u2 e1 e2 => ?_
      cases dp_int e1
      cases dp_bl e2
      refine ⟨wipe2, ?_⟩
      walk_at "sx"
      refine g_tupD (K := K) (ds := [.int (x.1 : Int), .bool (!x.2)]) n1.gh (.cons (.int _) (.cons (.bl _) .nil)) (by show 2 ≤ sizeLine; decide) fun t G2 H2 n2 d2 => ?_
      refine k1 _ G2 H2 _ n2 d2 ?_
      show List.map waD _ = List.map waD _ ++ _
      rw [List.take_add_one, hx, List.map_append, List.map_append]
      rfl
    walk_at "sx"
    rw [List.length_reverse, List.length_map, ← List.length_reverse, List.take_length] at hL
    obtain ⟨ys, hA2, gA2, da⟩ := hL
    exact g_tupOfM n1.gh hA2 da fun p G2 H2 n2 d2 => q _ _ _ (n1.trans n2) d2
def sp__rings_from (K : PySem.W.Frag) : Sp := fun vs H Q _ => ∃ G q r nm nl s, vs = [.str s, .ref q, .ref r] ∧ Y.Ex G H ∧ DctAt K q G H (lkM nl) ∧ DctAt K r G H (stepsM nm nl) ∧ nm.Nodup ∧ nm.length ≤ 100 ∧ nl.length ≤ 1000 ∧ nlOk nm nl ∧ nlNd nl ∧ s ∈ nm ∧
  (∀ q ∈ nl, lnA q.2 ∈ keysOf nm nl s ∧ lnB q.2 ∈ keysOf nm nl s) ∧ ∀ o G' H', Nx [] G H G' H' → H o = none → LstAt K o G' H' ((ringsFrom nm nl s).map wayD) → Q (.ref o) H'
theorem ok__rings_from (T : Tx fa fn bx K mg) : FnOk P w K mg base CX0 3 (He.ga K "_rings_from") (fdOf K (He.ga K "_rings_from")) ["start", "links", "steps"] (sp__rings_from K) := by
  refine FunD.ok (F__rings_from T) sc__rings_from (fun vs H Q E h => ?_) (fun cdv A outer s H vs Q E hr h => ?_)
  · obtain ⟨_, _, _, _, _, _, rfl, _⟩ := h
    rfl
  · obtain ⟨G, q0, r0, nm, nl, s, rfl, e, hq, hrr, hnd, hnl, hll, hok, hnn, hs, hks, q⟩ := h
    refine ⟨_, PSs.nox ((pss_cons (ps_set (i := 3) sc__rings_from.nd rfl (Or.inl rfl) (Y.pe_callC (ok__walks_from T) (cal__walks_from T) (hr.mono (by decide)) (by rfl) pass0 (pa_cons (pv 0) (pa_cons (pv 1) (pa_cons (pv 2) pa_nil)))))
      (pss_cons (ps_set (i := 4) sc__rings_from.nd rfl (Or.inl rfl) (pe_lst pa_nil))
      (pss_cons (ps_lock (ps_for PassesOwn.never rfl (pi_items (pv 1)) (Y.pg_tupK (K := K) (n := 2) rfl rfl (pgs_cons (pg_name (i := 5) sc__rings_from.nd rfl (Or.inl rfl)) (pgs_cons (pg_name (i := 6) sc__rings_from.nd rfl (Or.inl rfl)) pgs_nil)))
      (pss_cons (ps_asg (pe_dget (hu_of hr) (pv 3) (pe_ix (Y.ix_tupK (K := K) rfl) (pv 6) pe_int (fun _ _ => rfl)) (fun _ _ => rfl)) (Y.pg_tupK (K := K) (n := 2) rfl rfl (pgs_cons (pg_name (i := 7) sc__rings_from.nd rfl (Or.inl rfl)) (pgs_cons (pg_name (i := 8) sc__rings_from.nd rfl (Or.inl rfl)) pgs_nil))))
      (pss_cons (ps_asg (pe_dget (hu_of hr) (pv 3) (pe_ix (Y.ix_tupK (K := K) rfl) (pv 6) pe_int (fun _ _ => rfl)) (fun _ _ => rfl)) (Y.pg_tupK (K := K) (n := 2) rfl rfl (pgs_cons (pg_name (i := 9) sc__rings_from.nd rfl (Or.inl rfl)) (pgs_cons (pg_name (i := 10) sc__rings_from.nd rfl (Or.inl rfl)) pgs_nil))))
      (pss_one (ps_if (pt_cmpR (Y.op_neDK (K := K) rfl hr.units) (Y.pe_callC (ok__place_behind T) (cal__place_behind T) (hr.mono (by decide)) (by rfl) pass0 (pa_cons (pv 8) (pa_cons (pv 6) (pa_cons pe_bl pa_nil)))) (pv 10) (nomark _))
      (pss_one (ps_expr (Y.pe_bmK (K := K) rfl PySem.F.plainAttrs_list PySem.F.slot_list_append PySem.F.type_list_append mt_append (pv 4) (pa_cons (pe_op (Y.op_catAK (K := K) rfl) (pe_op (Y.op_catAK (K := K) rfl) (pv 7) (pe_tup (pa_cons (pe_tup (pa_cons (pv 5) (pa_cons pe_bl pa_nil))) pa_nil))) (Y.pe_callC (ok__backwards T) (cal__backwards T) (hr.mono (by decide)) (by rfl) pass0 (pa_cons (pv 9) pa_nil))) pa_nil))))
      pss_nil))))))
      (pss_one (ps_ret (pv 4))))))), ?_⟩
    walk_at "sx"
    refine ⟨G, q0, r0, nm, nl, s, rfl, e, hq, hrr, hnd, by omega, hok, hnn, hs, fun wk G1 H1 n1 hwk hDw => ?_⟩
    walk_at "sx"
    refine g_lstLs (K := K) (L := []) n1.gh .nil (Nat.zero_le _) fun rg H2 n2 hrg hLr => ?_
    walk_at "sx"
    have hq2 := (hq.go n1 (by simp)).go n2 (by simp)
    have hDw2 := hDw.go n2 (by simp)
    have n12 := n1.trans n2
    have rgq : rg ≠ q0 := fun z => (hq.go n1 (by simp)).live (z ▸ hrg)
    have rgw : rg ≠ wk := fun z => hDw.live (z ▸ hrg)
    have wkq : wk ≠ q0 := fun z => hq.live (z ▸ hwk)
    have rlen := ring_len hok hs hks
    have key : ∀ x ∈ nl, ∀ n, n = lnA x.2 ∨ n = lnB x.2 → gtM (tabM (walksOf nm nl s)) (Sum.inr n : Key) = some (enD (wyAt (walksOf nm nl s) n)) := fun x hx n hn => by
      rw [gtM_tab, (wy_get (by
        rcases hn with rfl | rfl
        · exact (hks x hx).1
        · exact (hks x hx).2)).1]
      rfl
    have wl : ∀ x ∈ nl, ∀ n, n = lnA x.2 ∨ n = lnB x.2 → (wyAt (walksOf nm nl s) n).1.length ≤ nm.length := fun x hx n hn => way_len hok hs (by
        rcases hn with rfl | rfl
        · exact (hks x hx).1
        · exact (hks x hx).2)
    have erg : ringsFrom nm nl s = nl.filterMap (ringAt (walksOf nm nl s)) := rfl
    generalize walksOf nm nl s = tab at *
    refine g_forItems (K := K) (M := [rg]) hq2 n2.gh (by simp [rgq.symm]) rfl (fun i σ G' H' => ∃ y5 y6 y7 y8 y9 y10, σ = [some (.str s), some (.ref q0), some (.ref r0), some (.ref wk), some (.ref rg), y5, y6, y7, y8, y9, y10] ∧ DctAt K wk G' H' (tabM tab) ∧ LstAt K rg G' H' (((nl.take i).filterMap (ringAt tab)).map wayD)) (fun od u => ⟨_, _, _, _, _, _, rfl, hDw2.go (Nx.set (M := [q0]) n2.gh (by obtain ⟨_, _, g, _⟩ := hq2; exact g) (by simp)) (by simp [wkq]), by
      have := hLr.go (Nx.set (M := [q0]) (o := .frz od u) n2.gh (by obtain ⟨_, _, g, _⟩ := hq2; exact g) (by simp)) (by simp [rgq])
      simpa using this⟩) ?_ ?_
    · rintro i k x v σ' G3 H3 H0 G4 H4 hi n3 ⟨y5, y6, y7, y8, y9, y10, rfl, hDw3, hL3⟩ n4 dv R hR D' e1 e2
      unfold lkM at hi
      rw [List.getElem?_map] at hi
      obtain ⟨⟨nb, x0⟩, hx0, he⟩ := Option.map_eq_some_iff.mp hi
      simp only [Prod.mk.injEq] at he
      obtain ⟨rfl, rfl⟩ := he
      have hmem := List.mem_of_getElem? hx0
      obtain ⟨s1, s2, dx, dy, dz, e5, hs1, hs2, hst⟩ := hok.2 _ hmem
      simp only at e5
      subst e5
      have k1 := key _ hmem s1 (.inl rfl)
      have k2 := key _ hmem s2 (.inr rfl)
      have l1 := wl _ hmem s1 (.inl rfl)
      have l2 := wl _ hmem s2 (.inr rfl)
      have hDw4 := hDw3.go n4 (by simp)
      have hL4 := hL3.go n4 (by simp)
      refine g_un2 n4.gh dv fun v1 v2 d1 d2 => ?_
      cases dp_int d1
      walk_at "sx"
      refine g_ixT (k := 0) n4.gh d2 rfl rfl fun w1 e1' => ?_
      cases dp_str e1'
      refine g_dcGet hDw4 (k := Sum.inr s1) rfl k1 fun w2 e2' => ?_
      refine g_un2 n4.gh e2' fun w3 w4 e3 e4 => ?_
      walk_at "sx"
      refine g_ixT (k := 1) n4.gh d2 rfl rfl fun w5 e5 => ?_
      cases dp_str e5
      refine g_dcGet hDw4 (k := Sum.inr s2) rfl k2 fun w6 e6 => ?_
      refine g_un2 n4.gh e6 fun w7 w8 e7 e8 => ?_
      walk_at "sx"
      refine ⟨G4, w4, v2, (wyAt tab s1).2, s1, s2, dx, dy, dz, true, rfl, n4.gh, e4, d2, fun v6 G5 H5 n5 d6 => ?_⟩
      walk_at "sx"
      refine g_neD n5.gh d6 (dp_mono n5.gg e8) shaped_pl shaped_pl ?_
      rw [eqv_pl]
      have hL5 := hL4.go n5 (by simp)
      have hDw5 := hDw4.go n5 (by simp)
      have n35 := n3.trans (n4.trans n5).pure
      have tk : (nl.take (i + 1)).filterMap (ringAt tab) = (nl.take i).filterMap (ringAt tab) ++ (ringAt tab (nb, .tuple [.str s1, .str s2, .int dx, .int dy, .int dz])).toList := by
        rw [List.take_add_one, hx0, List.filterMap_append]
        congr 1
      have fl : ((nl.take i).filterMap (ringAt tab)).length ≤ 1000 := by
        have := List.length_filterMap_le (ringAt tab) (nl.take i)
        rw [List.length_take] at this
        omega
      walk_at "sx"
      refine g_ndec (fun hno => ?_) (fun hyes => ?_) <;> walk_at "sx"
      rotate_left
      · rw [e1] at *
        refine hR _ G5 _ n35 ⟨_, _, _, _, _, _, rfl, hDw5, ?_⟩
        have : ringAt tab (nb, .tuple [.str s1, .str s2, .int dx, .int dy, .int dz]) = none := if_neg (fun z => z hyes)
        rw [tk, this]
        simpa using hL5
      refine g_tyLs hL5 ?_
      walk_at "sx"
      refine g_tupD (K := K) (ds := [.int (nb : Int), .bool true]) n5.gh (.cons (.int _) (.cons (.bl _) .nil)) (by show 2 ≤ sizeLine; decide) fun t3 G6 H6 n6 d7 => ?_
      walk_at "sx"
      refine g_tupD (K := K) (ds := [waD (nb, true)]) n6.gh (.cons d7 .nil) (by show 1 ≤ sizeLine; decide) fun t4 G7 H7 n7 d8 => ?_
      walk_at "sx"
      have n57 := n5.trans (n6.trans n7)
      refine g_catA (ds := (wyAt tab s1).1.map waD) n7.gh (dp_mono n57.gg e3) d8 (by rw [List.length_map]; exact szle (by simp; omega)) fun t5 G8 H8 n8 d9 => ?_
      walk_at "sx"
      have n58 := n57.trans n8
      refine ⟨G8, w7, (wyAt tab s2).1, rfl, n8.gh, dp_mono n58.gg e7, by omega, fun v9 G9 H9 n9 d10 => ?_⟩
      walk_at "sx"
      refine g_catA (es := (backW (wyAt tab s2).1).map waD) n9.gh (dp_mono n9.gg d9) d10 (by rw [List.length_append, List.length_map, List.length_map, backW_len]; exact szle (by simp; omega)) fun t6 G10 H10 n10 d11 => ?_
      walk_at "sx"
      have n510 : Nx [] G5 H5 G10 H10 := (n6.trans n7).trans ((n8.trans n9).trans n10)
      refine g_appLs n10.gh (hL5.go n510 (by simp)) d11 (by rw [List.length_map]; omega) fun H11 n11 hL11 => ?_
      walk_at "sx"
      rw [e1] at *
      refine hR _ G10 _ ((n35.trans n510.pure).trans n11) ⟨_, _, _, _, _, _, rfl, (hDw5.go n510 (by simp)).go n11 (by simp [rgw.symm]), ?_⟩
      have : ringAt tab (nb, .tuple [.str s1, .str s2, .int dx, .int dy, .int dz]) = some ((wyAt tab s1).1 ++ [(nb, true)] ++ backW (wyAt tab s2).1) := if_pos hno
      rw [tk, this, List.map_append]
      have e12 : List.map wayD (some ((wyAt tab s1).1 ++ [(nb, true)] ++ backW (wyAt tab s2).1)).toList = [.tuple ((wyAt tab s1).1.map waD ++ [waD (nb, true)] ++ (backW (wyAt tab s2).1).map waD)] := by simp [wayD]
      rw [e12]
      exact hL11
    · rintro σ' G3 H3 od u n3 g3 hD3 ⟨y5, y6, y7, y8, y9, y10, rfl, hDw3, hL3⟩
      unfold lkM at hL3
      rw [List.length_map, List.take_length, ← erg] at hL3
      walk_at "sx"
      exact q rg G3 _ (((n12.pure (M := [rg])).trans n3).drop (n1.fresh hrg)) (n1.fresh hrg) (hL3.upd rgq.symm)
def sp_lay_group (K : PySem.W.Frag) : Sp := fun vs H Q _ => ∃ G a d l ws ls p, ∃ ns nm : List Str, vs = [.ref a, p] ∧ Y.Ex G H ∧ AlbAt K a d l G H ws ls ∧ Dp K G p (.list (ns.map .str)) ∧ nm = (ws.map nmOf).filter (fun n => decide (n ∈ ns)) ∧ nm ≠ [] ∧
  (∀ u ∈ nm, ∀ v ∈ nm, Rch (lkB nm ls) u v) ∧ ∀ v G' H', Nx [] G H G' H' → AnsAt K v G' H' (ansOf nm (lkB nm ls) (placeOf (nm.headD "") ws : Int)) → Q v H'
theorem ok_lay_group (T : Tx fa fn bx K mg) : FnOk P w K mg base CX0 5 (He.ga K "lay_group") (fdOf K (He.ga K "lay_group")) ["album", "names"] (sp_lay_group K) := by
  refine FunD.ok (F_lay_group T) sc_lay_group (fun vs H Q E h => ?_) (fun cdv A outer s H vs Q E hr h => ?_)
  · obtain ⟨_, _, _, _, _, _, _, _, _, rfl, _⟩ := h
    rfl
  · obtain ⟨G, a, d, l, ws, ls, p, ns, nm, rfl, e, hA, hL, hnm, hne, hcon, q⟩ := h
    refine ⟨_, PSs.nox ((pss_cons (ps_setLc (i := 2) (own := [("name", 6)]) rfl sc_lay_group.nd rfl rfl (sw_true rfl rfl rfl (by decide +kernel)) (Y.pi_listK (K := K) rfl (Y.pe_meth0C (pv 0) (T.cls 20) (T.meth 23) (ok_Album_names T) (hr.mono (by decide)) (cal_Album_names T) pass0)) (blkOk_by (own := [("name", 6)]) (by kernel_rfl)) (fun _ _ _ _ _ => (pg_name (i := 6) sc_lay_group.nd rfl (Or.inl rfl))) (fun _ _ _ _ _ => (pts_one (pt_cmpR (Y.op_inK (K := K) rfl) (pv 6) (pv 1) (by rfl)))) (fun _ _ _ _ _ => (pv 6)))
      (pss_cons (ps_set (i := 3) sc_lay_group.nd rfl (Or.inl rfl) (Y.pe_callC (ok__links_between T) (cal__links_between T) (hr.mono (by decide)) (by rfl) pass0 (pa_cons (pv 0) (pa_cons (pv 2) pa_nil))))
      (pss_cons (ps_set (i := 4) sc_lay_group.nd rfl (Or.inl rfl) (Y.pe_callC (ok__steps_at T) (cal__steps_at T) (hr.mono (by decide)) (by rfl) pass0 (pa_cons (pv 2) (pa_cons (pv 3) pa_nil))))
      (pss_cons (ps_set (i := 5) sc_lay_group.nd rfl (Or.inl rfl) (pe_lst pa_nil))
      (pss_cons (ps_for PassesOwn.never rfl (Y.pi_listK (K := K) rfl (pv 2)) (pg_name (i := 6) sc_lay_group.nd rfl (Or.inl rfl))
      (pss_one (ps_expr (Y.pe_bmK (K := K) rfl PySem.F.plainAttrs_list PySem.F.slot_list_extend PySem.F.type_list_extend mt_extend (pv 5) (pa_cons (Y.pe_callC (ok__rings_from T) (cal__rings_from T) (hr.mono (by decide)) (by rfl) pass0 (pa_cons (pv 6) (pa_cons (pv 3) (pa_cons (pv 4) pa_nil)))) pa_nil)))))
      (pss_cons (ps_if (Y.pt_truthK (K := K) rfl (pv 5) (by intro _; rfl))
      (pss_one (ps_ret (pe_tup (pa_cons pe_str (pa_cons (Y.pe_minLenK (K := K) rfl rfl (by rfl) (T.free 33) (by rfl) (T.free 3) (pa_cons (pv 5) pa_nil)) pa_nil)))))
      pss_nil)
      (pss_cons (ps_set (i := 7) sc_lay_group.nd rfl (Or.inl rfl) (pe_ix (Y.ix_listK (K := K) rfl) (pv 2) pe_int (fun _ _ => rfl)))
      (pss_cons (ps_set (i := 8) sc_lay_group.nd rfl (Or.inr rfl) (Y.pe_methCS (pv 0) (T.cls 20) (T.meth 34) (ok_Album_index T) (hr.mono (by decide)) (cal_Album_index T) (fun σ => passAt takes0 σ) (pa_cons (pv 7) pa_nil)))
      (pss_cons (ps_set (i := 9) sc_lay_group.nd rfl (Or.inr rfl) (Y.pe_callC (ok__walks_from T) (cal__walks_from T) (hr.mono (by decide)) (by rfl) pass0 (pa_cons (pv 7) (pa_cons (pv 3) (pa_cons (pv 4) pa_nil)))))
      (pss_one (ps_ret (pe_tup (pa_cons pe_str (pa_cons (pe_dc (own := [("name", 6)]) (tt := tYes) rfl sc_lay_group.nd (Y.pi_listK (K := K) rfl (pv 2)) (blkOk_by (own := [("name", 6)]) (by kernel_rfl)) (fun _ _ _ _ _ => (pg_name (i := 6) sc_lay_group.nd rfl (Or.inl rfl))) (fun _ _ _ _ _ => pts_nil) (fun _ _ _ _ _ => (pv 6)) (fun _ _ _ _ _ => (pe_op (Y.op_catAK (K := K) rfl) (pe_tup (pa_cons (pv 8) pa_nil)) (pe_ix (Y.ix_tupK (K := K) rfl) (pe_dget (hu_of hr) (pv 9) (pv 6) (fun _ _ => rfl)) pe_int (fun _ _ => rfl))))) pa_nil))))))))))))))), ?_⟩
    walk_at "sx"
    obtain ⟨_, _, _, _, ⟨dx1, h1⟩, _⟩ := id hA
    refine g_mth h1 rfl ?_
    walk_at "sx"
    refine ⟨G, a, d, l, ws, ls, rfl, e, hA, fun p1 H1 n1 hp1 hL1 => ?_⟩
    have ok := hA.2.2.2.1
    have hnd := ok.nd
    have hvl := ok.vl
    have ev : namesOf ws = (ws.map nmOf).map .str := by unfold namesOf; rw [List.map_map]; rfl
    rw [ev] at hL1
    obtain ⟨nok, nnd⟩ := nlOk_of (nm := nm) ok.ll fun v hv => (ok.lo v hv).1
    have hlen : nm.length ≤ 30 := by
      rw [hnm]
      have := List.length_filter_le (fun n => decide (n ∈ ns)) (ws.map nmOf)
      rw [List.length_map] at this
      omega
    have hnd2 : nm.Nodup := by rw [hnm]; exact hnd.filter _
    have hsub : ∀ x ∈ nm, x ∈ ws.map nmOf := fun x hx => by rw [hnm] at hx; exact (List.mem_filter.mp hx).1
    have nll : (lkB nm ls).length ≤ 60 := Nat.le_trans (lkB_len nm ls) ok.ll
    refine g_walkLs hL1 fun S => ?_
    intro B hB
    refine g_lcS (K := K) (M := []) (S [] (by simp)) n1.gh hB (by simp) (by rw [List.length_map]; exact szl (by rw [List.length_map]; omega)) (fun j acc => acc = (((ws.map nmOf).take j).filter fun n => decide (n ∈ ns)).map .str) rfl (fun j d2 w2 acc G2 H2 hj dw2 n2 _ hjj QE QN k1 k2 => ?_) (fun G2 H2 ys acc hjj n2 g2 h2 da => ?_)
    · rw [List.getElem?_map] at hj
      obtain ⟨z, hz, rfl⟩ := Option.map_eq_some_iff.mp hj
      cases dp_str dw2
      have tk : (ws.map nmOf).take (j + 1) = (ws.map nmOf).take j ++ [z] := by rw [List.take_add_one, hz]; rfl
      walk_at "sx"
      refine g_inSd n2.gh (dp_mono (n1.trans n2).gg hL) ?_
      walk_at "sx"
      refine g_dec (fun hin => ?_) (fun hout => ?_) <;> walk_at "sx"
      · refine k1 _ G2 H2 _ (Nx.refl n2.gh) (.str z) ?_
        rw [hjj, tk, List.filter_append, List.filter_cons_of_pos (by exact decide_eq_true hin)]
        simp
      · refine k2 G2 H2 (Nx.refl n2.gh) ?_
        rw [hjj, tk, List.filter_append, List.filter_cons_of_neg (by rw [decide_eq_true_eq]; exact hout)]
        simp
    rw [List.length_map, List.take_length, ← hnm] at hjj
    subst hjj
    have hO2 : LstAt K B G2 H2 (nm.map .str) := ⟨ys, h2, g2, da⟩
    have n02 := n1.trans n2
    have hA2 := hA.go n02 (by simp) (by simp) (by simp)
    clear hL1 S
    walk_at "sx"
    refine ⟨G2, a, d, l, ws, ls, B, nm, rfl, n2.gh, hA2, hO2, fun lk G3 H3 n3 hlk hDl => ?_⟩
    generalize hnl : lkB nm ls = nl at *
    walk_at "sx"
    have hO3 := hO2.go n3 (by simp)
    refine ⟨G3, B, nm, lk, nl, rfl, n3.gh, hO3, hDl, hnd2, by omega, nok, fun st G4 H4 n4 hst hDs => ?_⟩
    walk_at "sx"
    refine g_lstLs (K := K) (L := []) n4.gh .nil (Nat.zero_le _) fun rg H5 n5 hrg hLr => ?_
    walk_at "sx"
    have hO5 := (hO3.go n4 (by simp)).go n5 (by simp)
    have hDl5 := (hDl.go n4 (by simp)).go n5 (by simp)
    have hDs5 := hDs.go n5 (by simp)
    have hA5 := ((hA2.go n3 (by simp) (by simp) (by simp)).go n4 (by simp) (by simp) (by simp)).go n5 (by simp) (by simp) (by simp)
    have rgB : rg ≠ B := fun z => (hO3.go n4 (by simp)).live (z ▸ hrg)
    have rgl : rg ≠ lk := fun z => (hDl.go n4 (by simp)).live (z ▸ hrg)
    have rgs : rg ≠ st := fun z => hDs.live (z ▸ hrg)
    have n25 := (n3.trans n4).trans n5
    have lv := ((hA2.go n3 (by simp) (by simp) (by simp)).go n4 (by simp) (by simp) (by simp)).live
    have rga : a ≠ rg ∧ d ≠ rg ∧ l ≠ rg := ⟨fun z => lv.1 (z ▸ hrg), fun z => lv.2.1 (z ▸ hrg), fun z => lv.2.2.1 (z ▸ hrg)⟩
    have hks : ∀ s ∈ nm, ∀ q ∈ nl, lnA q.2 ∈ keysOf nm nl s ∧ lnB q.2 ∈ keysOf nm nl s := fun s hs x hx => by
      obtain ⟨s1, s2, dx, dy, dz, e5, hs1, hs2, _⟩ := nok.2 _ hx
      rw [e5]
      exact ⟨(keys_rch nok hs).mpr (hcon s hs s1 hs1), (keys_rch nok hs).mpr (hcon s hs s2 hs2)⟩
    have rl : ∀ k, ((nm.take k).flatMap (ringsFrom nm nl)).length ≤ 60 * k := fun k => by
      have key : ∀ l : List Str, (l.flatMap (ringsFrom nm nl)).length ≤ 60 * l.length := fun l => by
        induction l with
        | nil => simp
        | cons x r ih =>
          rw [List.flatMap_cons, List.length_append, List.length_cons]
          have := List.length_filterMap_le (ringAt (walksOf nm nl x)) nl
          have h2 : (ringsFrom nm nl x).length ≤ nl.length := this
          omega
      have := key (nm.take k)
      rw [List.length_take] at this
      omega
    refine g_walkLs hO5 fun S => ?_
    refine g_forS (K := K) (M := [rg]) (S [rg] (by simp [rgB.symm])) n5.gh (fun i σ G' H' => ∃ y6, σ = [some (.ref a), some p, some (.ref B), some (.ref lk), some (.ref st), some (.ref rg), y6, none, none, none] ∧ LstAt K rg G' H' (((nm.take i).flatMap (ringsFrom nm nl)).map wayD)) ⟨_, rfl, by simpa using hLr⟩ ?_ ?_
    · rintro i w v σ' G6 H6 G7 H7 hi n6 ⟨y6, rfl, hr6⟩ n7 dv
      rw [List.getElem?_map] at hi
      obtain ⟨x, hx, rfl⟩ := Option.map_eq_some_iff.mp hi
      cases dp_str dv
      have hxn := List.mem_of_getElem? hx
      have hil : i < nm.length := (List.getElem?_eq_some_iff.mp hx).1
      have n67 := n6.trans n7.pure
      have hr7 := hr6.go n7 (by simp)
      walk_at "sx"
      refine g_tyLs hr7 ?_
      walk_at "sx"
      refine ⟨G7, lk, st, nm, nl, x, rfl, n7.gh, hDl5.go n67 (by simp [rgl.symm]), hDs5.go n67 (by simp [rgs.symm]), hnd2, by omega, by omega, nok, nnd, hxn, hks x hxn, fun o G8 H8 n8 ho hLo => ?_⟩
      walk_at "sx"
      have l1 := rl i
      have l2 := List.length_filterMap_le (ringAt (walksOf nm nl x)) nl
      have l3 : (ringsFrom nm nl x).length ≤ nl.length := l2
      refine g_extLs n8.gh (hr7.go n8 (by simp)) hLo (by rw [List.length_map, List.length_map]; omega) fun H9 n9 hr9 => ?_
      refine ⟨G8, (n67.trans n8.pure).trans n9, _, rfl, ?_⟩
      rw [List.take_add_one, hx, List.flatMap_append, List.map_append]
      simpa using hr9
    rintro σ' G6 H6 n6 ⟨y6, rfl, hr6⟩
    rw [List.length_map, List.take_length] at hr6
    walk_at "sx"
    obtain ⟨vs, hvs, gvs, dvs⟩ := id hr6
    have n06 : Nx [] G H G6 H6 := (((n02.trans n25).pure (M := [rg])).trans n6).drop ((n02.trans (n3.trans n4)).fresh hrg)
    have hlR : vs.length = (ringsAll nm nl).length := by rw [dpAll_len dvs, List.length_map]; rfl
    refine g_truL (.of hvs) ?_
    refine g_nbool (fun hnn => ?_) (fun hem => ?_)
    · walk_at "sx"
      refine g_minLen ?_
      walk_at "sx"
      have hpos : 0 < vs.length := by
        cases vs with
        | nil => cases hnn
        | cons _ _ => simp
      refine g_minLs (ns := (ringsAll nm nl).map fun w => w.map waD) hvs n6.gh dvs (by rw [List.map_map]; rfl) (by rw [← dpAll_len dvs]; exact hpos) fun i x u hx hu dx hb => ?_
      rw [List.getElem?_map] at hu
      obtain ⟨w, hw, rfl⟩ := Option.map_eq_some_iff.mp hu
      have hmin : firstMin (ringsAll nm nl) = some w := firstMin_of (i := i) ⟨hw, fun j y hy => by
        have := hb j (y.map waD) (by rw [List.getElem?_map, hy]; rfl)
        simpa using this⟩
      walk_at "sx"
      refine g_tupRaw (K := K) n6.gh (by show 2 ≤ sizeLine; decide) fun t G7 H7 n7 ht hT => ?_
      have ea : ansOf nm nl (placeOf (nm.headD "") ws : Int) = .ring w := by unfold ansOf; rw [hmin]
      refine q _ G7 H7 (n06.trans n7) ?_
      rw [ea]
      exact ⟨t, x, rfl, hT, dp_mono n7.gg dx⟩
    · walk_at "sx"
      have hR0 : ringsAll nm nl = [] := by
        have : vs.length = 0 := by
          cases vs with
          | nil => rfl
          | cons _ _ => cases hem
        exact List.length_eq_zero_iff.mp (hlR ▸ this)
      obtain ⟨x, r, hxr⟩ : ∃ x r, nm = x :: r := by
        cases nm with
        | nil => exact absurd rfl hne
        | cons x r => exact ⟨x, r, rfl⟩
      have hx0 : nm[0]? = some x := by rw [hxr]; rfl
      have hxm : x ∈ nm := List.mem_of_getElem? hx0
      have hO6 := hO5.go n6 (by simp [rgB.symm])
      have hDl6 := hDl5.go n6 (by simp [rgl.symm])
      have hDs6 := hDs5.go n6 (by simp [rgs.symm])
      have hA6 := hA5.go n6 (by simp [rga.1]) (by simp [rga.2.1]) (by simp [rga.2.2])
      refine g_ixLs (k := 0) (d := .str x) hO6 (by rw [List.getElem?_map, hx0]; rfl) rfl fun v1 d1 => ?_
      cases dp_str d1
      walk_at "sx"
      obtain ⟨_, _, _, _, ⟨dx2, h2'⟩, _⟩ := id hA6
      refine g_mth h2' rfl ?_
      walk_at "sx"
      refine ⟨G6, a, d, l, ws, ls, x, rfl, n6.gh, hA6, fun hno => ?_, fun _ G7 H7 n7 => ?_⟩
      · have := hsub x hxm
        have h4 := look_mem' (s := x) (ws := ws)
        rw [hno, decide_eq_true this] at h4
        cases h4
      walk_at "sx"
      refine ⟨G7, lk, st, nm, nl, x, rfl, n7.gh, hDl6.go n7 (by simp), hDs6.go n7 (by simp), hnd2, by omega, nok, nnd, hxm, fun wk G8 H8 n8 hwk hDw => ?_⟩
      walk_at "sx"
      have hO8 := (hO6.go n7 (by simp)).go n8 (by simp)
      refine g_walkLs hO8 fun S => ?_
      intro D hD0
      have Dwk : D ≠ wk := fun z => hDw.live (z ▸ hD0)
      have kx : ∀ z ∈ nm, gtM (tabM (walksOf nm nl x)) (Sum.inr z : Key) = some (enD (wyAt (walksOf nm nl x) z)) := fun z hz => by
        rw [gtM_tab, (wy_get ((keys_rch nok hxm).mpr (hcon x hxm z hz))).1]
        rfl
      let f : Str → Str × (Int × Plc) := fun n => (n, ((placeOf x ws : Int), (wyAt (walksOf nm nl x) n).2))
      refine g_dcC (K := K) (M := []) (S [] (by simp)) n8.gh hD0 (by simp) (by rw [List.length_map]; omega) (fun i kvs G' _ => KvAt K kvs G' (layM ((nm.take i).map f))) (fun _ _ _ _ _ h => h) (fun _ _ _ _ _ _ n h => h.ex n.gg) .nil (fun i d2 w2 kvs G9 H9 hi dw n9 hDl hj QE QN k1 k2 => ?_) fun G9 H9 kvs hj n9 g9 h9 hkl => ?_
      · rw [List.getElem?_map] at hi
        obtain ⟨z, hz, rfl⟩ := Option.map_eq_some_iff.mp hi
        cases dp_str dw
        have hzm := List.mem_of_getElem? hz
        walk_at "sx"
        refine g_tupD (K := K) (ds := [.int (placeOf x ws : Int)]) n9.gh (.cons (.int _) .nil) (by show 1 ≤ sizeLine; decide) fun t1 G10 H10 n10 d10 => ?_
        walk_at "sx"
        refine g_dcGet ((hDw.go n9 (by simp)).go n10 (by simp)) (k := Sum.inr z) rfl (kx z hzm) fun v3 d3 => ?_
        walk_at "sx"
        refine g_ixT (k := 1) n10.gh d3 rfl rfl fun v4 d4 => ?_
        refine g_catA n10.gh d10 d4 (by show 4 ≤ sizeLine; decide) fun t2 G11 H11 n11 d11 => ?_
        refine k1 _ _ (Sum.inr z) G11 H11 rfl (n10.trans n11) ?_
        obtain ⟨p1, p2⟩ := pt_rel (Sum.inr z) d11 hj.1 (dpAll_mono (n10.trans n11).gg hj.2)
        have hz2 : (Sum.inr z : Key) ∉ (layM ((nm.take i).map f)).map (·.1) := fun hm => by
          unfold layM at hm
          rw [List.map_map, List.map_map] at hm
          obtain ⟨y, hy, ey⟩ := List.mem_map.mp hm
          have ey : y = z := Sum.inr.inj ey
          subst ey
          obtain ⟨jj, hjj, hj2⟩ := List.mem_take_iff_getElem.mp hy
          obtain ⟨hi2, e2⟩ := List.getElem?_eq_some_iff.mp hz
          have := (List.getElem_inj hnd2).mp (hj2.trans e2.symm)
          omega
        rw [ptM_new hz2] at p1 p2
        have el : layM ((nm.take (i + 1)).map f) = layM ((nm.take i).map f) ++ [(Sum.inr z, plcD ((placeOf x ws : Int), (wyAt (walksOf nm nl x) z).2))] := by
          rw [List.take_add_one, hz]
          unfold layM
          rw [List.map_append, List.map_append]
          rfl
        rw [el]
        exact ⟨p1, p2⟩
      walk_at "sx"
      rw [List.length_map, List.take_length] at hj
      have hDD : DctAt K D G9 H9 (layM (nm.map fun n => (n, ((placeOf x ws : Int), (wyAt (walksOf nm nl x) n).2)))) := ⟨kvs, h9, g9, hj.1, hj.2⟩
      refine g_tupRaw (K := K) n9.gh (by show 2 ≤ sizeLine; decide) fun t G10 H10 n10 ht hT => ?_
      have ea : ansOf nm nl (placeOf (nm.headD "") ws : Int) = .laid (nm.map fun n => (n, ((placeOf x ws : Int), (wyAt (walksOf nm nl x) n).2))) := by
        have e0 : nm.headD "" = x := by rw [hxr]; rfl
        unfold ansOf
        rw [hR0, e0]
        rfl
      refine q _ G10 H10 ((n06.trans (n7.trans n8)).trans (n9.trans n10)) ?_
      rw [ea]
      exact ⟨t, _, rfl, D, rfl, hT, hDD.go n10 (by simp)⟩
section
variable {nm : List Str} {ls : List PyData} {nl : List (Nat × PyData)} {s n u v : Str}
theorem grp_mem (ok : nlOk nm nl) (hs : s ∈ nm) : n ∈ grp nm nl s ↔ n ∈ nm ∧ Rch nl s n := by
  unfold grp
  rw [List.mem_filter, decide_eq_true_eq]
  constructor
  · exact fun h => ⟨h.1, (keys_rch ok hs).mp h.2⟩
  · exact fun h => ⟨h.1, (keys_rch ok hs).mpr h.2⟩
theorem grp_own (ok : nlOk nm nl) (hs : s ∈ nm) : s ∈ grp nm nl s := (grp_mem ok hs).mpr ⟨hs, .refl s⟩
theorem grp_same (ok : nlOk nm nl) (hs : s ∈ nm) (h : n ∈ grp nm nl s) : grp nm nl n = grp nm nl s := by
  obtain ⟨hn, hr⟩ := (grp_mem ok hs).mp h
  unfold grp
  refine List.filter_congr fun x hx => ?_
  rw [decide_eq_decide, keys_rch ok hn, keys_rch ok hs]
  exact ⟨fun z => hr.trans z, fun z => hr.symm.trans z⟩
theorem grp_filter : nm.filter (fun x => decide (x ∈ grp nm nl s)) = grp nm nl s := by
  unfold grp
  refine List.filter_congr fun x hx => ?_
  rw [decide_eq_decide, List.mem_filter, decide_eq_true_eq]
  exact ⟨fun z => z.2, fun z => ⟨hx, z⟩⟩
theorem groups_from (ok : nlOk nm nl) : ∀ {r pl : List Str}, (∀ x ∈ r, x ∈ nm) → ∀ g ∈ groupsFrom nm nl r pl, ∃ s ∈ nm, g = grp nm nl s
  | [], _, _, _, h => by cases h
  | x :: r, pl, hr, g, h => by
    unfold groupsFrom at h
    split at h
    · exact groups_from ok (fun y hy => hr y (by simp [hy])) g h
    · rcases List.mem_cons.mp h with rfl | h
      · exact ⟨x, hr x (by simp), rfl⟩
      · exact groups_from ok (fun y hy => hr y (by simp [hy])) g h
theorem groups_cover (ok : nlOk nm nl) : ∀ {r pl : List Str}, (∀ x ∈ r, x ∈ nm) → ∀ x ∈ r, x ∈ pl ∨ ∃ g ∈ groupsFrom nm nl r pl, x ∈ g
  | y :: r, pl, hr, x, hx => by
    have hr' : ∀ z ∈ r, z ∈ nm := fun z hz => hr z (by simp [hz])
    unfold groupsFrom
    by_cases hy : y ∈ pl
    · rw [if_pos hy]
      rcases List.mem_cons.mp hx with rfl | hx
      · exact .inl hy
      · exact groups_cover ok hr' x hx
    · rw [if_neg hy]
      rcases List.mem_cons.mp hx with rfl | hx
      · exact .inr ⟨_, by simp, grp_own ok (hr x (by simp))⟩
      · rcases groups_cover ok (pl := pl ++ keysOf nm nl y) hr' x hx with h | ⟨g, h1, h2⟩
        · rcases List.mem_append.mp h with h | h
          · exact .inl h
          · exact .inr ⟨grp nm nl y, by simp, List.mem_filter.mpr ⟨hr' x hx, decide_eq_true h⟩⟩
        · exact .inr ⟨g, by simp [h1], h2⟩
theorem groups_len : ∀ {r pl : List Str}, (groupsFrom nm nl r pl).length ≤ r.length
  | [], _ => Nat.le_refl _
  | x :: r, pl => by
    unfold groupsFrom
    split
    · exact Nat.le_trans groups_len (by simp)
    · rw [List.length_cons, List.length_cons]
      exact Nat.succ_le_succ groups_len
theorem lkB_sub {g : List Str} (hg : ∀ x ∈ g, x ∈ nm) {q : Nat × PyData} (h : q ∈ lkB nm ls) (h1 : lnA q.2 ∈ g) (h2 : lnB q.2 ∈ g) : q ∈ lkB g ls := by
  unfold lkB at h ⊢
  exact List.mem_filter.mpr ⟨(List.mem_filter.mp h).1, by simp [h1, h2]⟩
/-- within its group a path needs no other links -/
theorem grp_pth (ok : nlOk nm (lkB nm ls)) (hs : s ∈ nm) {k : Nat} (hu : u ∈ grp nm (lkB nm ls) s) (h : Pth (lkB nm ls) k u v) : v ∈ grp nm (lkB nm ls) s ∧ Pth (lkB (grp nm (lkB nm ls) s) ls) k u v := by
  have hg : ∀ x ∈ grp nm (lkB nm ls) s, x ∈ nm := fun x hx => (List.mem_filter.mp hx).1
  induction h with
  | zero => exact ⟨hu, .zero _⟩
  | @succ k u w x h hx ih =>
    obtain ⟨hw, p⟩ := ih hu
    obtain ⟨hwn, hwr⟩ := (grp_mem ok hs).mp hw
    have hin := (steps_in ok hx).1
    have hx2 : x.2.2 ∈ grp nm (lkB nm ls) s := (grp_mem ok hs).mpr ⟨hin, hwr.trans ⟨1, Pth.one hx⟩⟩
    obtain ⟨q, hq, e1, hc⟩ := steps_mem hx
    refine ⟨hx2, ?_⟩
    rcases hc with ⟨h1, h2, h3⟩ | ⟨h1, h2, h3⟩
    · have hq2 := lkB_sub hg hq (h1 ▸ hw) (h3 ▸ hx2)
      have := Pth.succ p (h1 ▸ step_fwd hq2)
      simpa [h3] using this
    · have hq2 := lkB_sub hg hq (h3 ▸ hx2) (h1 ▸ hw)
      have := Pth.succ p (h1 ▸ step_bwd hq2)
      simpa [h3] using this
theorem grp_con (ok : nlOk nm (lkB nm ls)) (hs : s ∈ nm) : ∀ u ∈ grp nm (lkB nm ls) s, ∀ v ∈ grp nm (lkB nm ls) s, Rch (lkB (grp nm (lkB nm ls) s) ls) u v := fun u hu v hv => by
  obtain ⟨_, h1⟩ := (grp_mem ok hs).mp hu
  obtain ⟨_, h2⟩ := (grp_mem ok hs).mp hv
  obtain ⟨k, p⟩ := h1.symm.trans h2
  exact ⟨k, (grp_pth ok hs hu p).2⟩
end
/-- the answer of a group, of an album -/
def grpAns (ws ls : List PyData) (g : List Str) : Ans := ansOf g (lkB g ls) (placeOf (g.headD "") ws : Int)
def plOf (ws ls : List PyData) (n : Str) : Int × Plc :=
  let g := grp (ws.map nmOf) (lkB (ws.map nmOf) ls) n
  ((placeOf (g.headD "") ws : Int), (wyAt (walksOf g (lkB g ls) (g.headD "")) n).2)
def layAns (ws ls : List PyData) : Ans := joinAns (ws.map nmOf) ((groupsOf (ws.map nmOf) (lkB (ws.map nmOf) ls)).map (grpAns ws ls)) (plOf ws ls)
theorem laid_snoc {as : List Ans} {a : Ans} : laidIn (as ++ [a]) = match a with
  | .ring _ => laidIn as
  | .laid md => mergeM (laidIn as) (layM md) := by unfold laidIn; rw [List.foldl_append]; rfl
theorem laid_get {f : Str → Int × Plc} {n : Str} : ∀ (k : Nat) (as : List Ans), as.length = k → (∀ md, Ans.laid md ∈ as → ∀ e ∈ md, e.2 = f e.1) → (∀ x, gtM (laidIn as) (Sum.inr n : Key) = some x → x = plcD (f n)) ∧ ((∃ md, Ans.laid md ∈ as ∧ n ∈ md.map (·.1)) → (gtM (laidIn as) (Sum.inr n : Key)).isSome = true)
  | 0, as, h, _ => by
    rw [List.length_eq_zero_iff.mp h]
    exact ⟨fun x hx => (by cases hx), fun ⟨md, hm, _⟩ => (by cases hm)⟩
  | k + 1, as, h, hv => by
    obtain ⟨m, w, rfl⟩ : ∃ m w, as = m ++ [w] := by
      cases hl : as.reverse with
      | nil => rw [List.reverse_eq_nil_iff.mp hl] at h; cases h
      | cons w r => exact ⟨r.reverse, w, by have := congrArg List.reverse hl; simpa using this⟩
    obtain ⟨i1, i2⟩ := laid_get (f := f) (n := n) k m (by simpa using h) fun md hm => hv md (by simp [hm])
    rw [laid_snoc]
    cases w with
    | ring w =>
      refine ⟨i1, fun ⟨md, hm, hn⟩ => i2 ⟨md, ?_, hn⟩⟩
      rcases List.mem_append.mp hm with hm | hm
      · exact hm
      · simp at hm
    | laid md =>
      show (∀ x, gtM (mergeM (laidIn m) (layM md)) _ = some x → _) ∧ (_ → (gtM (mergeM (laidIn m) (layM md)) _).isSome = true)
      rw [gtM_merge]
      have hl : ∀ x, gtM (layM md).reverse (Sum.inr n : Key) = some x → x = plcD (f n) := fun x hx => by
        unfold gtM at hx
        obtain ⟨p, hp, rfl⟩ := Option.map_eq_some_iff.mp hx
        have h1 := List.find?_some hp
        have h2 := List.mem_reverse.mp (List.mem_of_find?_eq_some hp)
        rw [decide_eq_true_eq] at h1
        obtain ⟨e, he, rfl⟩ := List.mem_map.mp h2
        have : e.1 = n := Sum.inr.inj h1
        show plcD e.2 = _
        rw [hv md (by simp) e he, this]
      constructor
      · intro x hx
        cases hg : gtM (layM md).reverse (Sum.inr n : Key) with
        | some y => rw [hg] at hx; cases hx; exact hl _ hg
        | none => rw [hg] at hx; exact i1 x hx
      · rintro ⟨md2, hm, hn⟩
        rcases List.mem_append.mp hm with hm | hm
        · have := i2 ⟨md2, hm, hn⟩
          cases hg : gtM (layM md).reverse (Sum.inr n : Key) with
          | some y => rfl
          | none => exact this
        · simp only [List.mem_cons, Ans.laid.injEq, List.not_mem_nil, or_false] at hm
          subst hm
          cases hg : gtM (layM md2).reverse (Sum.inr n : Key) with
          | some y => rfl
          | none =>
            have hno := gtM_none.mp hg
            refine absurd ?_ hno
            obtain ⟨e, he, rfl⟩ := List.mem_map.mp hn
            exact List.mem_map.mpr ⟨((Sum.inr e.1 : Key), plcD e.2), List.mem_reverse.mpr (List.mem_map.mpr ⟨e, he, rfl⟩), rfl⟩
theorem ans_laid {nm : List Str} {nl : List (Nat × PyData)} {num : Int} {md : List (Str × (Int × Plc))} (h : ansOf nm nl num = .laid md) : md = nm.map fun n => (n, (num, (wyAt (walksOf nm nl (nm.headD "")) n).2)) := by
  unfold ansOf at h
  split at h
  · cases h
  · injection h with h; exact h.symm
theorem lay_laid {ws ls : List PyData} {md : List (Str × (Int × Plc))} (nok : nlOk (ws.map nmOf) (lkB (ws.map nmOf) ls)) (h : Ans.laid md ∈ (groupsOf (ws.map nmOf) (lkB (ws.map nmOf) ls)).map (grpAns ws ls)) : md.length ≤ ws.length ∧ ∀ e ∈ md, e.2 = plOf ws ls e.1 := by
  obtain ⟨g, hg, e⟩ := List.mem_map.mp h
  obtain ⟨s, hs, rfl⟩ := groups_from nok (fun _ h => h) g hg
  have := ans_laid e
  subst this
  refine ⟨?_, fun e he => ?_⟩
  · rw [List.length_map]
    refine Nat.le_trans (List.length_filter_le _ _) ?_
    rw [List.length_map]
    exact Nat.le_refl _
  · obtain ⟨x, hx, rfl⟩ := List.mem_map.mp he
    unfold plOf
    rw [grp_same nok hs hx]
theorem lay_places {ws ls : List PyData} (nok : nlOk (ws.map nmOf) (lkB (ws.map nmOf) ls)) (hr : ringsIn ((groupsOf (ws.map nmOf) (lkB (ws.map nmOf) ls)).map (grpAns ws ls)) = []) {n : Str} (hn : n ∈ ws.map nmOf) :
    gtM (laidIn ((groupsOf (ws.map nmOf) (lkB (ws.map nmOf) ls)).map (grpAns ws ls))) (Sum.inr n : Key) = some (plcD (plOf ws ls n)) := by
  obtain ⟨h1, h2⟩ := laid_get (f := plOf ws ls) (n := n) _ _ rfl fun md hm => (lay_laid nok hm).2
  have : (gtM (laidIn ((groupsOf (ws.map nmOf) (lkB (ws.map nmOf) ls)).map (grpAns ws ls))) (Sum.inr n : Key)).isSome = true := by
    refine h2 ?_
    rcases groups_cover nok (pl := []) (fun _ h => h) n hn with h | ⟨g, hg, hng⟩
    · cases h
    · have hm : grpAns ws ls g ∈ (groupsOf (ws.map nmOf) (lkB (ws.map nmOf) ls)).map (grpAns ws ls) := List.mem_map_of_mem hg
      cases ha : grpAns ws ls g with
      | ring w =>
        have : w ∈ ringsIn ((groupsOf (ws.map nmOf) (lkB (ws.map nmOf) ls)).map (grpAns ws ls)) := List.mem_filterMap.mpr ⟨_, hm, by rw [ha]⟩
        rw [hr] at this
        cases this
      | laid md =>
        refine ⟨md, ha ▸ hm, ?_⟩
        rw [ans_laid ha, List.map_map]
        exact List.mem_map.mpr ⟨n, hng, rfl⟩
  cases hg : gtM (laidIn ((groupsOf (ws.map nmOf) (lkB (ws.map nmOf) ls)).map (grpAns ws ls))) (Sum.inr n : Key) with
  | some x => rw [h1 x hg]
  | none => rw [hg] at this; cases this
def sp_lay (K : PySem.W.Frag) : Sp := fun vs H Q _ => ∃ G a d l ws ls, vs = [.ref a] ∧ Y.Ex G H ∧ AlbAt K a d l G H ws ls ∧ ∀ v G' H', Nx [] G H G' H' → AnsAt K v G' H' (layAns ws ls) → Q v H'
theorem ok_lay (T : Tx fa fn bx K mg) : FnOk P w K mg base CX0 6 (He.ga K "lay") (fdOf K (He.ga K "lay")) ["album"] (sp_lay K) := by
  refine FunD.ok (F_lay T) sc_lay (fun vs H Q E h => ?_) (fun cdv A outer s H vs Q E hr h => ?_)
  · obtain ⟨_, _, _, _, _, _, rfl, _⟩ := h
    rfl
  · obtain ⟨G, a, d, l, ws, ls, rfl, e, hA, q⟩ := h
    refine ⟨_, PSs.nox ((pss_one (ps_ret (Y.pe_callC (ok_joined T) (cal_joined T) (hr.mono (by decide)) (by rfl) pass0 (pa_cons (Y.pe_meth0C (pv 0) (T.cls 20) (T.meth 23) (ok_Album_names T) (hr.mono (by decide)) (cal_Album_names T) pass0) (pa_cons (pe_lc (own := [("names", 1)]) (tt := tYes) rfl sc_lay.nd (Y.pi_listK (K := K) rfl (Y.pe_callC (ok_groups T) (cal_groups T) (hr.mono (by decide)) (by rfl) pass0 (pa_cons (pv 0) pa_nil))) (blkOk_by (own := [("names", 1)]) (by kernel_rfl)) (fun _ _ _ _ _ => (pg_name (i := 1) sc_lay.nd rfl (Or.inl rfl))) (fun _ _ _ _ _ => pts_nil) (fun _ _ _ _ _ => (Y.pe_callC (ok_lay_group T) (cal_lay_group T) (hr.mono (by decide)) (by rfl) pass0 (pa_cons (pv 0) (pa_cons (pv 1) pa_nil))))) pa_nil)))))), ?_⟩
    walk_at "sx"
    obtain ⟨_, _, _, ok, ⟨dx, h1⟩, _⟩ := id hA
    refine g_mth h1 rfl ?_
    walk_at "sx"
    refine ⟨G, a, d, l, ws, ls, rfl, e, hA, fun p H1 n1 hp hL => ?_⟩
    walk_at "sx"
    have hA1 := hA.go n1 (by simp) (by simp) (by simp)
    refine ⟨G, a, d, l, ws, ls, rfl, n1.gh, hA1, fun o G2 H2 n2 ho hLo => ?_⟩
    have ev : namesOf ws = (ws.map nmOf).map .str := by unfold namesOf; rw [List.map_map]; rfl
    rw [ev] at hL
    have hL2 := hL.go n2 (by simp)
    have hA2 := hA1.go n2 (by simp) (by simp) (by simp)
    obtain ⟨nok, nnd⟩ := nlOk_of (nm := ws.map nmOf) ok.ll fun v hv => (ok.lo v hv).1
    have hnd := ok.nd
    have hvl := ok.vl
    have hgl : (groupsOf (ws.map nmOf) (lkB (ws.map nmOf) ls)).length ≤ 30 := Nat.le_trans groups_len (by rw [List.length_map]; exact hvl)
    have hgs : ∀ g ∈ groupsOf (ws.map nmOf) (lkB (ws.map nmOf) ls), ∃ s ∈ ws.map nmOf, g = grp (ws.map nmOf) (lkB (ws.map nmOf) ls) s := groups_from nok fun _ h => h
    generalize hgg : groupsOf (ws.map nmOf) (lkB (ws.map nmOf) ls) = gs at *
    refine g_walkLs hLo fun S => ?_
    intro B hB
    refine g_lcP (M := []) (Src.p (S [] (fun z => nomatch z))) n2.gh hB (by simp) (by unfold gsD; rw [List.length_map]; exact szl (by omega)) (fun i acc G' H' => acc.length = i ∧ ∀ j v x, acc[j]? = some v → (gs.map (grpAns ws ls))[j]? = some x → AnsAt K v G' H' x) (fun i acc G' H' o hO h => ⟨h.1, fun j v x h1 h2 => (h.2 j v x h1 h2).upd hO⟩) (fun _ _ _ _ _ _ n h => ⟨h.1, fun j v x h1 h2 => (h.2 j v x h1 h2).go n (fun _ _ z => by cases z)⟩) ⟨rfl, fun j v x (h1 : ([] : List V)[j]? = some v) _ => absurd (List.mem_of_getElem? h1) List.not_mem_nil⟩ (fun i v acc G3 H3 hi hv n3 _ hj QE QN k1 k2 => ?_) (fun G3 H3 ys hj n3 g3 h3 hyl => ?_)
    · obtain ⟨dd, hdd, dv⟩ := hv
      unfold gsD at hdd
      rw [List.getElem?_map] at hdd
      obtain ⟨g, hg, rfl⟩ := Option.map_eq_some_iff.mp hdd
      obtain ⟨s0, hs0, rfl⟩ := hgs g (List.mem_of_getElem? hg)
      refine ⟨by first | rfl | exact wipe1, ?_⟩
      walk_at "sx"
      refine ⟨G3, a, d, l, ws, ls, v, _, _, rfl, n3.gh, hA2.go n3 (by simp) (by simp) (by simp), dv, grp_filter.symm, List.ne_nil_of_mem (grp_own nok hs0), grp_con nok hs0, fun u G4 H4 n4 hu => ?_⟩
      refine k1 u G4 H4 n4 ⟨by simp [hj.1], fun j v' x h1 h2 => ?_⟩
      by_cases hji : j < acc.length
      · rw [List.getElem?_append_left hji] at h1
        exact (hj.2 j v' x h1 h2).go n4 (fun _ _ z => by cases z)
      · have hjl := (List.getElem?_eq_some_iff.mp h1).1
        have hje : j = acc.length := by simp at hjl; omega
        subst hje
        rw [List.getElem?_append_right (Nat.le_refl _), Nat.sub_self] at h1
        cases h1
        rw [hj.1, List.getElem?_map, hg] at h2
        cases h2
        exact hu
    walk_at "sx"
    have hys : ys.length = gs.length := by rw [hj.1]; unfold gsD; rw [List.length_map]
    refine ⟨G3, p, B, ws.map nmOf, gs.map (grpAns ws ls), plOf ws ls, rfl, n3.gh, hL2.go n3 (by simp), ⟨ys, h3, g3, by rw [hys, List.length_map], hj.2⟩, hnd, by rw [List.length_map]; omega, by rw [List.length_map]; omega, fun md hm => ?_, fun hr' n hn => ?_, fun v G4 H4 n4 hv => ?_⟩
    · rw [← hgg] at hm
      have := (lay_laid nok hm).1
      omega
    · rw [← hgg] at hr' ⊢
      exact lay_places nok hr' hn
    · refine q v G4 H4 ((n1.trans n2).trans (n3.trans n4)) ?_
      unfold layAns
      rw [hgg]
      exact hv
/-! ### grounds, costs, tallies -/
abbrev Rws := List (Str × Int)
abbrev Grd := List (Cell × Rws)
def rwD (r : Str × Int) : PyData := .tuple [.str r.1, .int r.2]
def rwsD (rs : Rws) : PyData := .tuple (rs.map rwD)
def grD (g : Grd) : Dt := g.map fun e => (e.1, rwsD e.2)
theorem grD_gt {c : Cell} : ∀ {g : Grd}, gtM (grD g) c = (gtM g c).map rwsD
  | [] => rfl
  | (k, rs) :: g => by
    have ih := grD_gt (c := c) (g := g)
    show gtM ((k, rwsD rs) :: grD g) c = _
    rw [gtM_cons, gtM_cons, ih]
    by_cases h : k = c
    · rw [if_pos h, if_pos h]; rfl
    · rw [if_neg h, if_neg h]
theorem grD_some {c : Cell} {g : Grd} {rs : Rws} (h : gtM g c = some rs) : gtM (grD g) c = some (rwsD rs) := by rw [grD_gt, h]; rfl
theorem grD_len {g : Grd} : (grD g).length = g.length := List.length_map ..
theorem grD_keys {g : Grd} : (grD g).map (·.1) = g.map (·.1) := by unfold grD; rw [List.map_map]; rfl
def costN (rs : Rws) (x : Int) : Nat := (rs.filter fun r => decide (r.2 ≠ x)).length
def cntN (rs : Rws) (x : Int) : Nat := (rs.filter fun r => decide (r.2 = x)).length
theorem cost_cnt {rs : Rws} {x : Int} : costN rs x + cntN rs x = rs.length := by
  unfold costN cntN
  induction rs with
  | nil => rfl
  | cons r rs ih =>
    by_cases h : r.2 = x
    · rw [List.filter_cons_of_neg (by simpa using h), List.filter_cons_of_pos (by simpa using h), List.length_cons, List.length_cons]; omega
    · rw [List.filter_cons_of_pos (by simpa using h), List.filter_cons_of_neg (by simpa using h), List.length_cons, List.length_cons]; omega
theorem cnt_snoc {rs : Rws} {r : Str × Int} {x : Int} : cntN (rs ++ [r]) x = cntN rs x + if r.2 = x then 1 else 0 := by
  unfold cntN
  rw [List.filter_append, List.length_append]
  by_cases h : r.2 = x
  · rw [if_pos h, List.filter_cons_of_pos (by simpa using h)]; rfl
  · rw [if_neg h, List.filter_cons_of_neg (by simpa using h)]; rfl
theorem cost_snoc {rs : Rws} {r : Str × Int} {x : Int} : rs.length + 1 = (rs ++ [r]).length := by simp
theorem cnt_le {rs : Rws} {x : Int} : cntN rs x ≤ rs.length := List.length_filter_le ..
theorem cnt_pos {rs : Rws} {x : Int} : 0 < cntN rs x ↔ ∃ r ∈ rs, r.2 = x := by
  unfold cntN
  rw [List.length_pos_iff_exists_mem]
  constructor
  · rintro ⟨r, hr⟩
    rw [List.mem_filter] at hr
    exact ⟨r, hr.1, by simpa using hr.2⟩
  · rintro ⟨r, hr, h⟩
    exact ⟨r, List.mem_filter.mpr ⟨hr, by simpa using h⟩⟩
/-- a tally of the rows: its keys are told, its values how often -/
structure Tal (rs : Rws) (m : List (Int × Int)) : Prop where
  nd : (m.map (·.1)).Nodup
  gt : ∀ x, gtM m x = if cntN rs x = 0 then none else some (cntN rs x : Int)
theorem nd_ptM {κ α : Type} [DecidableEq κ] {m : List (κ × α)} {k : κ} {a : α} (h : (m.map (·.1)).Nodup) : ((ptM m k a).map (·.1)).Nodup := by
  rw [keys_ptM]
  split
  · exact h
  · rename_i hk
    exact List.nodup_append.mpr ⟨h, by simp, fun a ha b hb => by
      rw [List.mem_singleton] at hb
      exact fun e => hk (hb ▸ e ▸ ha)⟩
theorem Tal.nil : Tal [] [] := ⟨by simp, fun x => rfl⟩
theorem Tal.snoc {rs : Rws} {m : List (Int × Int)} (h : Tal rs m) (r : Str × Int) : Tal (rs ++ [r]) (ptM m r.2 ((gtM m r.2).getD 0 + 1)) := by
  refine ⟨nd_ptM h.nd, fun x => ?_⟩
  rw [gtM_ptM, cnt_snoc]
  by_cases e : r.2 = x
  · subst e
    rw [if_pos rfl, if_pos rfl, if_neg (by omega), h.gt]
    congr 1
    by_cases z : cntN rs r.2 = 0
    · rw [if_pos z, z]; rfl
    · rw [if_neg z]; simp
  · rw [if_neg e, if_neg e, h.gt]
    rfl
theorem gtM_mem {κ α : Type} [DecidableEq κ] {m : List (κ × α)} {k : κ} {a : α} (h : gtM m k = some a) : (k, a) ∈ m := by
  unfold gtM at h
  obtain ⟨p, hp, rfl⟩ := Option.map_eq_some_iff.mp h
  have h1 := List.mem_of_find?_eq_some hp
  have h2 := List.find?_some hp
  simp at h2
  rw [← h2]
  exact h1
theorem mem_gtM {κ α : Type} [DecidableEq κ] : ∀ {m : List (κ × α)} {k : κ} {a : α}, (m.map (·.1)).Nodup → (k, a) ∈ m → gtM m k = some a
  | p :: m, k, a, hn, h => by
    rw [List.map_cons, List.nodup_cons] at hn
    rw [gtM_cons]
    rcases List.mem_cons.mp h with e | h
    · rw [← e, if_pos rfl]
    · rw [if_neg (fun z : p.1 = k => hn.1 (List.mem_map.mpr ⟨(k, a), h, z.symm⟩))]
      exact mem_gtM hn.2 h
theorem Tal.mem {rs : Rws} {m : List (Int × Int)} (h : Tal rs m) {k n : Int} : (k, n) ∈ m ↔ 0 < cntN rs k ∧ n = (cntN rs k : Int) := by
  constructor
  · intro hm
    have := mem_gtM h.nd hm
    rw [h.gt] at this
    by_cases z : cntN rs k = 0
    · rw [if_pos z] at this; cases this
    · rw [if_neg z] at this
      exact ⟨by omega, (Option.some.inj this).symm⟩
  · rintro ⟨h0, rfl⟩
    refine gtM_mem ?_
    rw [h.gt, if_neg (by omega)]
/-- the cheapest value, the least of these -/
def Best (rs : Rws) (b : Int) : Prop := 0 < cntN rs b ∧ ∀ x, 0 < cntN rs x → cntN rs x < cntN rs b ∨ cntN rs x = cntN rs b ∧ b ≤ x
def Unt (rs : Rws) (u : Int) : Prop := 0 ≤ u ∧ cntN rs u = 0 ∧ ∀ v, 0 ≤ v → v < u → 0 < cntN rs v
/-- the cheapest value of the others -/
def Other (rs : Rws) (o : Int) : Prop := ∃ u b, Unt rs u ∧ Best rs b ∧ o ≠ b ∧ (0 < cntN rs o ∨ o = u) ∧ ∀ x, x ≠ b → (0 < cntN rs x ∨ x = u) → cntN rs x < cntN rs o ∨ cntN rs x = cntN rs o ∧ o ≤ x
theorem Best.uniq {rs : Rws} {a b : Int} (h1 : Best rs a) (h2 : Best rs b) : a = b := by
  rcases h1.2 b h2.1 with h | h <;> rcases h2.2 a h1.1 with k | k <;> omega
theorem Unt.uniq {rs : Rws} {a b : Int} (h1 : Unt rs a) (h2 : Unt rs b) : a = b := by
  rcases Int.lt_trichotomy a b with h | h | h
  · have := h2.2.2 a h1.1 h
    have := h1.2.1
    omega
  · exact h
  · have := h1.2.2 b h2.1 h
    have := h2.2.1
    omega
theorem Other.uniq {rs : Rws} {a b : Int} (h1 : Other rs a) (h2 : Other rs b) : a = b := by
  obtain ⟨u, x, hu, hx, a1, a2, a3⟩ := h1
  obtain ⟨u', x', hu', hx', b1, b2, b3⟩ := h2
  have := hu.uniq hu'
  have := hx.uniq hx'
  subst u' x'
  rcases a3 b b1 b2 with h | h <;> rcases b3 a a1 a2 with k | k <;> omega
theorem lt2_neg {a b : Int × Int} : lt2 a b = false ↔ ¬(a.1 < b.1 ∨ a.1 = b.1 ∧ a.2 < b.2) := by
  rw [← lt2_iff]
  simp
theorem Tal.best {rs : Rws} {m : List (Int × Int)} (h : Tal rs m) {k n : Int} (hm : (k, n) ∈ m) (ho : ∀ e ∈ m, lt2 (-e.2, e.1) (-n, k) = false) : Best rs k := by
  obtain ⟨h1, rfl⟩ := h.mem.mp hm
  refine ⟨h1, fun x hx => ?_⟩
  have := lt2_neg.mp (ho (x, (cntN rs x : Int)) (h.mem.mpr ⟨hx, rfl⟩))
  simp only at this
  omega
theorem Tal.ne {rs : Rws} {m : List (Int × Int)} (h : Tal rs m) (hr : rs ≠ []) : m ≠ [] := by
  rintro rfl
  obtain ⟨r, hr⟩ := List.exists_mem_of_ne_nil _ hr
  have := h.gt r.2
  rw [if_neg (by have := cnt_pos.mpr ⟨r, hr, rfl⟩; omega)] at this
  cases this
theorem Tal.len {rs : Rws} {m : List (Int × Int)} (h : Tal rs m) : m.length ≤ rs.length := by
  have h1 : (m.map (·.1)).length ≤ (rs.map (·.2)).length := by
    refine List.Nodup.length_le_of_subset h.nd fun x hx => ?_
    obtain ⟨⟨k, n⟩, hm, rfl⟩ := List.mem_map.mp hx
    obtain ⟨r, hr, e⟩ := cnt_pos.mp (h.mem.mp hm).1
    exact List.mem_map.mpr ⟨r, hr, e⟩
  simpa using h1
/-- the tally without the best, with the least untold -/
structure Tal2 (rs : Rws) (u b : Int) (m : List (Int × Int)) : Prop where
  nd : (m.map (·.1)).Nodup
  gt : ∀ x, gtM m x = if x = b ∨ (cntN rs x = 0 ∧ x ≠ u) then none else some (cntN rs x : Int)
theorem Tal2.mem {rs : Rws} {u b : Int} {m : List (Int × Int)} (h : Tal2 rs u b m) {k n : Int} : (k, n) ∈ m ↔ k ≠ b ∧ (0 < cntN rs k ∨ k = u) ∧ n = (cntN rs k : Int) := by
  constructor
  · intro hm
    have := mem_gtM h.nd hm
    rw [h.gt] at this
    split at this
    · cases this
    · rename_i z
      exact ⟨fun e => z (.inl e), by
        by_cases e : k = u
        · exact .inr e
        · exact .inl (by
            have : cntN rs k ≠ 0 := fun e2 => z (.inr ⟨e2, e⟩)
            omega), (Option.some.inj this).symm⟩
  · rintro ⟨h0, h1, rfl⟩
    refine gtM_mem ?_
    rw [h.gt, if_neg (by omega)]
theorem Tal2.other {rs : Rws} {u b : Int} {m : List (Int × Int)} (h : Tal2 rs u b m) (hu : Unt rs u) (hb : Best rs b) {k n : Int} (hm : (k, n) ∈ m) (ho : ∀ e ∈ m, lt2 (-e.2, e.1) (-n, k) = false) : Other rs k := by
  obtain ⟨h0, h1, rfl⟩ := h.mem.mp hm
  refine ⟨u, b, hu, hb, h0, h1, fun x hx hx2 => ?_⟩
  have := lt2_neg.mp (ho (x, (cntN rs x : Int)) (h.mem.mpr ⟨hx, hx2, rfl⟩))
  simp only at this
  omega
theorem gtM_drop {κ α : Type} [DecidableEq κ] {k k' : κ} : ∀ {m : List (κ × α)}, gtM (m.filter fun p => decide (p.1 ≠ k)) k' = if k' = k then none else gtM m k'
  | [] => by simp [gtM]
  | p :: m => by
    have ih := gtM_drop (k := k) (k' := k') (m := m)
    by_cases h : p.1 = k
    · rw [List.filter_cons_of_neg (by simpa using h), ih, gtM_cons]
      by_cases e : k' = k
      · rw [if_pos e, if_pos e]
      · rw [if_neg e, if_neg e, if_neg (fun z : p.1 = k' => e (z.symm.trans h))]
    · rw [List.filter_cons_of_pos (by simpa using h), gtM_cons, gtM_cons, ih]
      by_cases e : p.1 = k'
      · rw [if_pos e, if_pos e, if_neg (fun z => h (e.trans z))]
      · rw [if_neg e, if_neg e]
theorem Tal.two {rs : Rws} {m : List (Int × Int)} (h : Tal rs m) {u b : Int} (hu : Unt rs u) (hb : Best rs b) : Tal2 rs u b ((ptM m u 0).filter fun p => decide (p.1 ≠ b)) := by
  have hub : u ≠ b := fun z => by have := hu.2.1; have := hb.1; rw [z] at *; omega
  refine ⟨?_, fun x => ?_⟩
  · exact List.Nodup.sublist (List.Sublist.map _ List.filter_sublist) (nd_ptM h.nd)
  · rw [gtM_drop, gtM_ptM, h.gt]
    by_cases e : x = b
    · rw [if_pos e, if_pos (.inl e)]
    · rw [if_neg e]
      by_cases e2 : u = x
      · subst e2
        rw [if_pos rfl, if_neg (by simp [hub]), hu.2.1]
        rfl
      · rw [if_neg e2]
        by_cases e3 : cntN rs x = 0
        · rw [if_pos e3, if_pos (.inr ⟨e3, fun z => e2 z.symm⟩)]
        · rw [if_neg e3, if_neg (by simp [e, e3])]
/-- the readings of a row, of rows -/
def rdsRow (y : Nat) : Nat → List PyData → List PyData
  | _, [] => []
  | x, d :: r => (if isNn d = true then [] else [.tuple [.int (x : Int), .int (y : Int), d]]) ++ rdsRow y (x + 1) r
def rds : Nat → List PyData → List PyData
  | _, [] => []
  | y, .tuple r :: rs => rdsRow y 0 r ++ rds (y + 1) rs
  | y, _ :: rs => rds (y + 1) rs
theorem rdsRow_snoc (y : Nat) : ∀ (x : Nat) (r : List PyData) (d : PyData), rdsRow y x (r ++ [d]) = rdsRow y x r ++ (if isNn d = true then [] else [.tuple [.int ((x + r.length : Nat) : Int), .int (y : Int), d]])
  | x, [], d => by simp [rdsRow]
  | x, a :: r, d => by
    show _ ++ rdsRow y (x + 1) (r ++ [d]) = (_ ++ rdsRow y (x + 1) r) ++ _
    rw [rdsRow_snoc y (x + 1) r d, List.append_assoc, show x + 1 + r.length = x + (a :: r).length by rw [List.length_cons]; omega]
theorem rds_snoc : ∀ (y : Nat) (rs : List PyData) (r : List PyData), rds y (rs ++ [.tuple r]) = rds y rs ++ rdsRow (y + rs.length) 0 r
  | y, [], r => by simp [rds]
  | y, a :: rs, r => by
    have ih := rds_snoc (y + 1) rs r
    have e1 : y + 1 + rs.length = y + (a :: rs).length := by rw [List.length_cons]; omega
    cases a with
    | tuple c =>
      show rdsRow y 0 c ++ rds (y + 1) (rs ++ [.tuple r]) = (rdsRow y 0 c ++ rds (y + 1) rs) ++ _
      rw [ih, List.append_assoc, e1]
    | _ =>
      show rds (y + 1) (rs ++ [.tuple r]) = rds (y + 1) rs ++ _
      rw [ih, e1]
theorem rdsRow_len (y : Nat) : ∀ (x : Nat) (r : List PyData), (rdsRow y x r).length ≤ r.length
  | _, [] => Nat.le_refl _
  | x, d :: r => by
    have := rdsRow_len y (x + 1) r
    show (_ ++ rdsRow y (x + 1) r).length ≤ r.length + 1
    rw [List.length_append]
    split <;> simp <;> omega
/-- rows of at most 100 by 100 readings -/
def smallRows (rs : List PyData) : Prop := rs.length ≤ 100 ∧ ∀ d ∈ rs, ∃ r, d = .tuple r ∧ r.length ≤ 100
theorem rds_len : ∀ (y : Nat) (rs : List PyData), (∀ d ∈ rs, ∃ r, d = PyData.tuple r ∧ r.length ≤ 100) → (rds y rs).length ≤ 100 * rs.length
  | _, [], _ => Nat.le_refl _
  | y, d :: rs, h => by
    obtain ⟨r, rfl, hr⟩ := h d (by simp)
    have h1 := rds_len (y + 1) rs fun d hd => h d (by simp [hd])
    have h2 := rdsRow_len y 0 r
    show (rdsRow y 0 r ++ rds (y + 1) rs).length ≤ 100 * (rs.length + 1)
    rw [List.length_append]
    omega
def sp_readings (K : PySem.W.Frag) : Sp := fun vs H Q _ => ∃ G v a rs, vs = [v] ∧ Y.Ex G H ∧ Dp K G v (.tuple [a, .tuple rs]) ∧ smallRows rs ∧
  ∀ p G' H', Nx [] G H G' H' → Dp K G' (.ref p) (.list (rds 0 rs)) → Q (.ref p) H'
theorem ok_readings (T : Tx fa fn bx K mg) : FnOk P w K mg base CX0 1 (He.ga K "readings") (fdOf K (He.ga K "readings")) ["view"] (sp_readings K) := by
  refine FunD.ok (F_readings T) sc_readings (fun vs H Q E h => ?_) (fun cdv A outer s H vs Q E hr h => ?_)
  · obtain ⟨_, _, _, _, rfl, _⟩ := h
    rfl
  · obtain ⟨G, v, a, rs, rfl, e, hd, ⟨hl, hr⟩, q⟩ := h
    refine ⟨_, PSs.nox ((pss_cons (ps_set (i := 1) sc_readings.nd rfl (Or.inl rfl) (pe_lst pa_nil))
      (pss_cons (ps_for PassesOwn.never rfl (Y.pi_enumTK (K := K) rfl (by rfl) (T.free 13) (pa_cons (pe_ix (Y.ix_tupK (K := K) rfl) (pv 0) pe_int (fun _ _ => rfl)) pa_nil)) (Y.pg_tupK (K := K) (n := 2) rfl rfl (pgs_cons (pg_name (i := 2) sc_readings.nd rfl (Or.inl rfl)) (pgs_cons (pg_name (i := 3) sc_readings.nd rfl (Or.inl rfl)) pgs_nil)))
      (pss_one (ps_for PassesOwn.never rfl (Y.pi_enumTK (K := K) rfl (by rfl) (T.free 13) (pa_cons (pv 3) pa_nil)) (Y.pg_tupK (K := K) (n := 2) rfl rfl (pgs_cons (pg_name (i := 4) sc_readings.nd rfl (Or.inl rfl)) (pgs_cons (pg_name (i := 5) sc_readings.nd rfl (Or.inl rfl)) pgs_nil)))
      (pss_one (ps_if (pt_cmp (pc_notN (pv 5)))
      (pss_one (ps_expr (Y.pe_bmK (K := K) rfl PySem.F.plainAttrs_list PySem.F.slot_list_append PySem.F.type_list_append mt_append (pv 1) (pa_cons (pe_tup (pa_cons (pv 4) (pa_cons (pv 2) (pa_cons (pv 5) pa_nil)))) pa_nil))))
      pss_nil)))))
      (pss_one (ps_ret (pv 1)))))), ?_⟩
    walk_at "sx"
    refine g_lstM (xs := []) e (Nat.zero_le _) fun p H1 n1 np hp gp => ?_
    walk_at "sx"
    refine g_ixT (k := 1) n1.gh hd rfl rfl fun u hu => ?_
    walk_at "sx"
    refine g_walkEt n1.gh hu fun b hb S => ?_
    refine g_forS (K := K) (M := [p]) (S [p]) n1.gh (fun i σ G' H' => G' p = none ∧ (∃ ys, H' p = some (.lst ys) ∧ DpAll K G' ys (rds 0 (rs.take i))) ∧ ∃ y1 y2 y3 y4, σ = [some v, some (.ref p), y1, y2, y3, y4]) ⟨gp, ⟨[], hp, by simpa [rds] using DpAll.nil⟩, _, _, _, _, rfl⟩ ?_ ?_
    · rintro i d w σ' G2 H2 G3 H3 hi n2 ⟨g2, ⟨ys, hys, da⟩, y1, y2, y3, y4, rfl⟩ n3 dw
      rw [prs_get] at hi
      obtain ⟨d0, hd0, rfl⟩ := Option.map_eq_some_iff.mp hi
      have hlt : i < rs.length := (List.getElem?_eq_some_iff.mp hd0).1
      obtain ⟨r, rfl, hr1⟩ := hr d0 (List.mem_of_getElem? hd0)
      refine g_un2 n3.gh dw fun w1 w2 h1 h2 => ?_
      cases dp_int h1
      have g3 : G3 p = none := n3.old p g2 ⟨_, hys, fun _ z => nomatch z⟩
      have hys3 : H3 p = some (.lst ys) := n3.fr p _ (by simp) hys
      have da3 := dpAll_mono n3.gg da
      have len1 : (rds 0 (rs.take i)).length ≤ 100 * i := by
        have := rds_len 0 (rs.take i) fun d hd => hr d (List.mem_of_mem_take hd)
        rw [List.length_take] at this
        exact Nat.le_trans this (Nat.mul_le_mul_left _ (Nat.min_le_left _ _))
      walk_at "sx"
      refine g_walkEt n3.gh h2 fun c hc S2 => ?_
      refine g_forS (K := K) (M := [p]) (S2 [p]) n3.gh (fun j σ G' H' => G' p = none ∧ (∃ ys, H' p = some (.lst ys) ∧ DpAll K G' ys (rds 0 (rs.take i) ++ rdsRow i 0 (r.take j))) ∧ ∃ y3 y4, σ = [some v, some (.ref p), some (.int ((0 + i : Nat) : Int)), some w2, y3, y4]) ⟨g3, ⟨ys, hys3, by simpa [rdsRow] using da3⟩, _, _, rfl⟩ ?_ ?_
      · rintro j d w' σ' G4 H4 G5 H5 hj n4 ⟨g4, ⟨zs, hzs, dz⟩, y3, y4, rfl⟩ n5 dw'
        rw [prs_get] at hj
        obtain ⟨d1, hd1, rfl⟩ := Option.map_eq_some_iff.mp hj
        have hjl : j < r.length := (List.getElem?_eq_some_iff.mp hd1).1
        refine g_un2 n5.gh dw' fun w3 w4 h3 h4 => ?_
        cases dp_int h3
        have g5 : G5 p = none := n5.old p g4 ⟨_, hzs, fun _ z => nomatch z⟩
        have hzs5 : H5 p = some (.lst zs) := n5.fr p _ (by simp) hzs
        have dz5 := dpAll_mono n5.gg dz
        have tk : r.take (j + 1) = r.take j ++ [d1] := by rw [List.take_add_one, hd1]; rfl
        have ej : 0 + (r.take j).length = j := by rw [List.length_take]; omega
        walk_at "sx"
        refine g_ndec (fun hn => ?_) (fun hn => ?_) <;> walk_at "sx"
        · rw [dp_non_iff h4] at hn
          refine g_tyL hzs5 ?_
          walk_at "sx"
          refine g_tupD n5.gh (.cons (.int _) (.cons (.int _) (.cons h4 .nil))) (by show 3 ≤ sizeLine; decide) fun t G6 H6 n6 dt => ?_
          walk_at "sx"
          have hz6 : H6 p = some (.lst zs) := n6.fr p _ (by simp) hzs5
          have g6 : G6 p = none := n6.old p g5 ⟨_, hzs5, fun _ z => nomatch z⟩
          have len2 := rdsRow_len i 0 (r.take j)
          rw [List.length_take] at len2
          refine g_app hz6 (szl ?_) ?_
          · rw [dpAll_len dz, List.length_append]
            omega
          · refine ⟨G6, ((n4.trans n5.pure).trans n6.pure).trans (Nx.set n6.gh g6 (by simp)), g6, ⟨_, upd_same, ?_⟩, _, _, rfl⟩
            rw [tk, rdsRow_snoc, if_neg (by rw [isNn_f hn]; simp), ← List.append_assoc, ej]
            refine dpAll_snoc (dpAll_mono n6.gg dz5) ?_
            rw [Nat.zero_add, Nat.zero_add] at dt
            exact dt
        · rw [dp_non_iff h4] at hn
          refine ⟨G5, n4.trans n5.pure, g5, ⟨zs, hzs5, ?_⟩, _, _, rfl⟩
          rw [tk, rdsRow_snoc, if_pos (isNn_iff.mpr hn), List.append_nil]
          exact dz5
      · rintro σ' G4 H4 n4 ⟨g4, ⟨zs, hzs, dz⟩, y3, y4, rfl⟩
        refine ⟨G4, ((n2.trans n3.pure).trans n4), g4, ⟨zs, hzs, ?_⟩, _, _, _, _, rfl⟩
        rw [prs_len, List.take_length] at dz
        rw [List.take_add_one, hd0]
        show DpAll K G4 zs (rds 0 (rs.take i ++ [.tuple r]))
        rw [rds_snoc, List.length_take, Nat.zero_add, Nat.min_eq_left (by omega)]
        exact dz
    · rintro σ' G2 H2 n2 ⟨g2, ⟨ys, hys, da⟩, y1, y2, y3, y4, rfl⟩
      rw [prs_len, List.take_length] at da
      walk_at "sx"
      have n3 := (((n1.pure : Nx [p] G H G H1).trans n2).drop np).know np hys g2
      exact q p _ _ n3 (.lst (.of upd_same) (dpAll_mono (Ex.new g2) da))
def inRows (cs : List Cell) : List Cell := cs.mergeSort yxLe
/-! ### what views tell of the ground -/
abbrev Rd3 := Int × Int × Int
def rdlRow (y : Nat) : Nat → List PyData → List Rd3
  | _, [] => []
  | x, .int r :: l => ((x : Int), (y : Int), r) :: rdlRow y (x + 1) l
  | x, _ :: l => rdlRow y (x + 1) l
def rdl : Nat → List PyData → List Rd3
  | _, [] => []
  | y, .tuple r :: rs => rdlRow y 0 r ++ rdl (y + 1) rs
  | y, _ :: rs => rdl (y + 1) rs
def rd3D (t : Rd3) : PyData := .tuple [.int t.1, .int t.2.1, .int t.2.2]
theorem rdsRow_rdl {y : Nat} : ∀ {x : Nat} {r : List PyData}, r.all isRd = true → rdsRow y x r = (rdlRow y x r).map rd3D
  | _, [], _ => rfl
  | x, d :: l, h => by
    rw [List.all_cons, Bool.and_eq_true] at h
    have ih := rdsRow_rdl (y := y) (x := x + 1) h.2
    cases d with
    | int r => show [_] ++ rdsRow y (x + 1) l = _ :: _; rw [ih]; rfl
    | none => show [] ++ rdsRow y (x + 1) l = _; rw [ih]; rfl
    | _ => exact absurd h.1 (by simp [isRd])
theorem rds_rdl : ∀ {y : Nat} {rs : List PyData}, (∀ d ∈ rs, rowOk d = true) → rds y rs = (rdl y rs).map rd3D
  | _, [], _ => rfl
  | y, d :: rs, h => by
    have ih := rds_rdl (y := y + 1) (rs := rs) fun d hd => h d (List.mem_cons_of_mem _ hd)
    obtain ⟨r, rfl, _, _, hr⟩ := rowOk_tup (h d (by simp))
    show rdsRow y 0 r ++ rds (y + 1) rs = (rdlRow y 0 r ++ rdl (y + 1) rs).map rd3D
    rw [ih, rdsRow_rdl hr, List.map_append]
theorem rdlRow_snoc {y : Nat} : ∀ {x : Nat} {r : List PyData} {d : PyData}, rdlRow y x (r ++ [d]) = rdlRow y x r ++ (match d with | .int v => [(((x + r.length : Nat) : Int), (y : Int), v)] | _ => [])
  | x, [], d => by cases d <;> simp [rdlRow]
  | x, a :: r, d => by
    have ih := rdlRow_snoc (y := y) (x := x + 1) (r := r) (d := d)
    rw [show x + 1 + r.length = x + (a :: r).length by rw [List.length_cons]; omega] at ih
    cases a with
    | int v => show _ :: rdlRow y (x + 1) (r ++ [d]) = (_ :: rdlRow y (x + 1) r) ++ _; rw [ih]; rfl
    | _ => show rdlRow y (x + 1) (r ++ [d]) = rdlRow y (x + 1) r ++ _; rw [ih]
theorem rdl_snoc : ∀ {y : Nat} {rs r : List PyData}, rdl y (rs ++ [.tuple r]) = rdl y rs ++ rdlRow (y + rs.length) 0 r
  | y, [], r => by simp [rdl]
  | y, a :: rs, r => by
    have ih := rdl_snoc (y := y + 1) (rs := rs) (r := r)
    rw [show y + 1 + rs.length = y + (a :: rs).length by rw [List.length_cons]; omega] at ih
    cases a with
    | tuple c => show rdlRow y 0 c ++ rdl (y + 1) (rs ++ [.tuple r]) = (rdlRow y 0 c ++ rdl (y + 1) rs) ++ _; rw [ih, List.append_assoc]
    | _ => show rdl (y + 1) (rs ++ [.tuple r]) = rdl (y + 1) rs ++ _; rw [ih]
theorem rdlRow_in {y : Nat} {t : Rd3} : ∀ {x : Nat} {r : List PyData}, t ∈ rdlRow y x r → t.2.1 = (y : Int) ∧ (x : Int) ≤ t.1 ∧ t.1 < (x : Int) + r.length ∧ (r.all isRd = true → 0 ≤ t.2.2 ∧ t.2.2 ≤ 999)
  | _, [], h => by cases h
  | x, d :: l, h => by
    have go : t ∈ rdlRow y (x + 1) l → t.2.1 = (y : Int) ∧ (x : Int) ≤ t.1 ∧ t.1 < (x : Int) + (d :: l).length ∧ ((d :: l).all isRd = true → 0 ≤ t.2.2 ∧ t.2.2 ≤ 999) := fun h => by
      obtain ⟨h1, h2, h3, h4⟩ := rdlRow_in h
      refine ⟨h1, by omega, by rw [List.length_cons]; omega, fun ha => h4 ?_⟩
      rw [List.all_cons, Bool.and_eq_true] at ha
      exact ha.2
    cases d with
    | int r =>
      rcases List.mem_cons.mp h with rfl | h
      · refine ⟨rfl, Int.le_refl _, by simp; omega, fun ha => ?_⟩
        rw [List.all_cons, Bool.and_eq_true] at ha
        exact of_decide_eq_true ha.1
      · exact go h
    | _ => exact go h
theorem rdl_in {t : Rd3} : ∀ {y : Nat} {rs : List PyData}, (∀ d ∈ rs, rowOk d = true) → t ∈ rdl y rs → (y : Int) ≤ t.2.1 ∧ t.2.1 < (y : Int) + rs.length ∧ 0 ≤ t.1 ∧ (∃ d ∈ rs, t.1 < (dlen d : Int)) ∧ 0 ≤ t.2.2 ∧ t.2.2 ≤ 999
  | _, [], _, h => by cases h
  | y, d :: rs, ho, h => by
    obtain ⟨r, rfl, _, hr2, hr⟩ := rowOk_tup (ho d (by simp))
    rcases List.mem_append.mp h with h | h
    · obtain ⟨h1, h2, h3, h4⟩ := rdlRow_in h
      exact ⟨by omega, by rw [List.length_cons]; omega, by omega, ⟨_, List.mem_cons_self .., by show t.1 < (r.length : Int); omega⟩, (h4 hr).1, (h4 hr).2⟩
    · obtain ⟨h1, h2, h3, ⟨d, hd, h4⟩, h5⟩ := rdl_in (fun d hd => ho d (List.mem_cons_of_mem _ hd)) h
      exact ⟨by omega, by rw [List.length_cons]; omega, h3, ⟨d, List.mem_cons_of_mem _ hd, h4⟩, h5⟩
theorem rdlRow_nd {y : Nat} : ∀ {x : Nat} {r : List PyData}, ((rdlRow y x r).map fun t => (t.1, t.2.1)).Nodup
  | _, [] => List.nodup_nil
  | x, d :: l => by
    have ih := rdlRow_nd (y := y) (x := x + 1) (r := l)
    cases d with
    | int r =>
      show (_ :: List.map _ (rdlRow y (x + 1) l)).Nodup
      refine List.nodup_cons.mpr ⟨fun h => ?_, ih⟩
      obtain ⟨t, ht, e⟩ := List.mem_map.mp h
      have := (rdlRow_in ht).2.1
      have := congrArg Prod.fst e
      simp only at this
      omega
    | _ => exact ih
theorem rdl_nd : ∀ {y : Nat} {rs : List PyData}, (∀ d ∈ rs, rowOk d = true) → ((rdl y rs).map fun t => (t.1, t.2.1)).Nodup
  | _, [], _ => List.nodup_nil
  | y, d :: rs, ho => by
    obtain ⟨r, rfl, _, hr2, hr⟩ := rowOk_tup (ho d (by simp))
    have ho2 : ∀ d ∈ rs, rowOk d = true := fun d hd => ho d (List.mem_cons_of_mem _ hd)
    show (List.map _ (rdlRow y 0 r ++ rdl (y + 1) rs)).Nodup
    rw [List.map_append]
    refine List.nodup_append.mpr ⟨rdlRow_nd, rdl_nd ho2, fun a ha b hb z => ?_⟩
    obtain ⟨t, ht, rfl⟩ := List.mem_map.mp ha
    obtain ⟨u, hu, rfl⟩ := List.mem_map.mp hb
    have h1 := (rdlRow_in ht).1
    have h2 := (rdl_in ho2 hu).1
    have := congrArg Prod.snd z
    simp only at this
    omega
theorem rdlRow_len {y : Nat} : ∀ {x : Nat} {r : List PyData}, (rdlRow y x r).length ≤ r.length
  | _, [] => Nat.le_refl _
  | x, d :: l => by
    have := rdlRow_len (y := y) (x := x + 1) (r := l)
    cases d with
    | int r => show (_ :: rdlRow y (x + 1) l).length ≤ _; rw [List.length_cons, List.length_cons]; omega
    | _ => show (rdlRow y (x + 1) l).length ≤ _; rw [List.length_cons]; omega
theorem rdl_len : ∀ {y : Nat} {rs : List PyData}, (∀ d ∈ rs, rowOk d = true) → (rdl y rs).length ≤ 12 * rs.length
  | _, [], _ => Nat.le_refl _
  | y, d :: rs, ho => by
    obtain ⟨r, rfl, _, hr2, hr⟩ := rowOk_tup (ho d (by simp))
    have := rdl_len (y := y + 1) (rs := rs) fun d hd => ho d (List.mem_cons_of_mem _ hd)
    have := rdlRow_len (y := y) (x := 0) (r := r)
    show (rdlRow y 0 r ++ rdl (y + 1) rs).length ≤ _
    rw [List.length_append, List.length_cons]
    omega
/-- what a view at a place tells -/
def toldL (rs : List PyData) (px py pl : Int) : List (Cell × Int) := (rdl 0 rs).map fun t => ((px + t.1, py + t.2.1), t.2.2 - pl)
theorem told_nd {rs : List PyData} {px py pl : Int} (ho : ∀ d ∈ rs, rowOk d = true) : ((toldL rs px py pl).map (·.1)).Nodup := by
  have h := rdl_nd (y := 0) ho
  unfold toldL
  rw [List.map_map]
  refine List.pairwise_map.mpr (List.Pairwise.imp ?_ (List.pairwise_map.mp h))
  intro a b hne z
  refine hne ?_
  have h1 := congrArg Prod.fst z
  have h2 := congrArg Prod.snd z
  simp only [Function.comp] at h1 h2
  exact Prod.ext (by show a.1 = b.1; omega) (by show a.2.1 = b.2.1; omega)
theorem told_len {rs : List PyData} {px py pl : Int} (ho : ∀ d ∈ rs, rowOk d = true) : (toldL rs px py pl).length ≤ 12 * rs.length := by
  unfold toldL
  rw [List.length_map]
  exact rdl_len ho
/-! ### rows of a list, each once -/
def ddl {α : Type} [DecidableEq α] (l : List α) : List α := l.foldl (fun acc x => if x ∈ acc then acc else acc ++ [x]) []
section
variable {α : Type} [DecidableEq α]
theorem ddl_fold : ∀ (l acc : List α), acc.Nodup → (l.foldl (fun acc x => if x ∈ acc then acc else acc ++ [x]) acc).Nodup ∧ (∀ x, x ∈ l.foldl (fun acc x => if x ∈ acc then acc else acc ++ [x]) acc ↔ x ∈ acc ∨ x ∈ l) ∧ (l.foldl (fun acc x => if x ∈ acc then acc else acc ++ [x]) acc).Sublist (acc ++ l)
  | [], acc, h => ⟨h, fun x => by simp, by simp⟩
  | a :: l, acc, h => by
    rw [List.foldl_cons]
    by_cases ha : a ∈ acc
    · rw [if_pos ha]
      obtain ⟨h1, h2, h3⟩ := ddl_fold l acc h
      refine ⟨h1, fun x => ?_, h3.trans (List.Sublist.append_left (List.sublist_cons_self _ _) _)⟩
      rw [h2, List.mem_cons]
      constructor
      · rintro (h | h)
        · exact .inl h
        · exact .inr (.inr h)
      · rintro (h | rfl | h)
        · exact .inl h
        · exact .inl ha
        · exact .inr h
    · rw [if_neg ha]
      obtain ⟨h1, h2, h3⟩ := ddl_fold l (acc ++ [a]) (List.nodup_append.mpr ⟨h, by simp, fun x hx y hy z => ha (by rw [List.mem_singleton.mp hy] at z; exact z ▸ hx)⟩)
      refine ⟨h1, fun x => ?_, by rw [List.append_assoc] at h3; exact h3⟩
      rw [h2, List.mem_append, List.mem_singleton, List.mem_cons, or_assoc]
theorem ddl_nd {l : List α} : (ddl l).Nodup := (ddl_fold l [] List.nodup_nil).1
theorem mem_ddl {l : List α} {x : α} : x ∈ ddl l ↔ x ∈ l := by
  unfold ddl
  rw [(ddl_fold l [] List.nodup_nil).2.1]
  simp
theorem ddl_sub {l : List α} : (ddl l).Sublist l := (ddl_fold l [] List.nodup_nil).2.2
theorem ddl_snoc {l : List α} {x : α} : ddl (l ++ [x]) = if x ∈ ddl l then ddl l else ddl l ++ [x] := by
  unfold ddl
  rw [List.foldl_append]
  rfl
end
theorem ddl_rows {S : List Cell} {L : List Cell} (hS : S.Pairwise fun a b => lexLe a b = true) (hm : ∀ c, swp c ∈ S ↔ c ∈ L) : ddl (S.map swp) = inRows (ddl L) := by
  have hss : ∀ c : Cell, swp (swp c) = c := fun _ => rfl
  refine sorted_uniq (le := fun a b => yxLe a b = true) yxLe_anti ?_ ?_ ?_
  · refine ((List.perm_ext_iff_of_nodup ddl_nd ddl_nd).mpr fun c => ?_).trans (List.mergeSort_perm _ _).symm
    rw [mem_ddl, mem_ddl, ← hm, List.mem_map]
    constructor
    · rintro ⟨c', h, rfl⟩
      rw [hss]
      exact h
    · intro h
      exact ⟨_, h, hss c⟩
  · refine List.Pairwise.sublist ddl_sub (List.pairwise_map.mpr (hS.imp fun {a b} h => ?_))
    unfold lexLe at h
    unfold yxLe swp
    exact h
  · exact List.pairwise_mergeSort yxLe_trans yxLe_total _
theorem ddl_asc {S : List Int} (h : S.Pairwise (· ≤ ·)) : (ddl S).Pairwise (· < ·) := by
  have h1 : (ddl S).Pairwise (· ≤ ·) := h.sublist ddl_sub
  have h2 : (ddl S).Pairwise (· ≠ ·) := ddl_nd
  exact (h1.and h2).imp fun {a b} h => by omega
/-! ### the gathered ground -/
abbrev Row := Cell × (Str × Int)
def rowsAt (R : List Row) (c : Cell) : Rws := (R.filter fun e => decide (e.1 = c)).map (·.2)
def grdOf (R : List Row) : Grd := (inRows (ddl (R.map (·.1)))).map fun c => (c, rowsAt R c)
theorem inRows_mem {cs : List Cell} {c : Cell} : c ∈ inRows cs ↔ c ∈ cs := (List.mergeSort_perm _ _).mem_iff
theorem grd_keys {R : List Row} : (grdOf R).map (·.1) = inRows (ddl (R.map (·.1))) := by
  unfold grdOf
  rw [List.map_map]
  exact List.map_id _
theorem grd_nd {R : List Row} : ((grdOf R).map (·.1)).Nodup := by
  rw [grd_keys]
  exact (List.mergeSort_perm _ _).nodup_iff.mpr ddl_nd
theorem grd_gt {R : List Row} {c : Cell} (h : c ∈ R.map (·.1)) : gtM (grdOf R) c = some (rowsAt R c) :=
  mem_gtM grd_nd (List.mem_map.mpr ⟨c, inRows_mem.mpr (mem_ddl.mpr h), rfl⟩)
theorem grd_no {R : List Row} {c : Cell} (h : c ∉ R.map (·.1)) : gtM (grdOf R) c = none := gtM_none.mpr fun z => by
  rw [grd_keys] at z
  exact h (mem_ddl.mp (inRows_mem.mp z))
theorem ddl_len {α : Type} [DecidableEq α] {l : List α} : (ddl l).length ≤ l.length := ddl_sub.length_le
theorem grd_len {R : List Row} : (grdOf R).length ≤ R.length := by
  have := ddl_len (l := R.map (·.1))
  have h2 := congrArg List.length (grd_keys (R := R))
  rw [List.length_map] at h2
  rw [h2]
  unfold inRows
  rw [List.length_mergeSort]
  rw [List.length_map] at this
  exact this
theorem rowsAt_len {R : List Row} {c : Cell} : (rowsAt R c).length ≤ R.length := by
  unfold rowsAt
  rw [List.length_map]
  exact List.length_filter_le ..
theorem rowsAt_ne {R : List Row} {c : Cell} (h : c ∈ R.map (·.1)) : rowsAt R c ≠ [] := by
  obtain ⟨e, he, rfl⟩ := List.mem_map.mp h
  unfold rowsAt
  intro z
  have := List.map_eq_nil_iff.mp z
  have h2 : e ∈ R.filter fun e' => decide (e'.1 = e.1) := List.mem_filter.mpr ⟨he, by simp⟩
  rw [this] at h2
  cases h2
/-- what is told so far, by cells -/
def GrpT (R : List Row) (ts : List (Cell × Addr × List PyData)) : Prop := (∀ c, c ∈ ts.map (·.1) ↔ c ∈ R.map (·.1)) ∧ ∀ t ∈ ts, t.2.2 = (rowsAt R t.1).map rwD
theorem grp_step {R : List Row} {ts : List (Cell × Addr × List PyData)} {c : Cell} {p : Addr} {L : List PyData} {r : Str × Int} (hn : (ts.map (·.1)).Nodup) (h1 : ∀ c', c' ∈ ts.map (·.1) ↔ c' ∈ R.map (·.1) ∨ c' = c) (h2 : ∀ t ∈ ts, t.2.2 = (rowsAt R t.1).map rwD) (hm : (c, p, L) ∈ ts) :
    GrpT (R ++ [(c, r)]) (ts.map fun t => if t.1 = c then (c, p, L ++ [rwD r]) else t) := by
  have hat : ∀ c', rowsAt (R ++ [(c, r)]) c' = rowsAt R c' ++ if c = c' then [r] else [] := fun c' => by
    unfold rowsAt
    rw [List.filter_append, List.map_append]
    congr 1
    by_cases h : c = c'
    · rw [if_pos h, List.filter_cons_of_pos (by simpa using h)]; rfl
    · rw [if_neg h, List.filter_cons_of_neg (by simpa using h)]; rfl
  refine ⟨fun c' => ?_, fun t ht => ?_⟩
  · have e1 : (ts.map fun t => if t.1 = c then (c, p, L ++ [rwD r]) else t).map (·.1) = ts.map (·.1) := by
      rw [List.map_map]
      refine List.map_congr_left fun t _ => ?_
      show (if t.1 = c then (c, p, L ++ [rwD r]) else t).1 = t.1
      split
      · exact (by assumption : t.1 = c).symm
      · rfl
    rw [e1, h1, List.map_append, List.mem_append]
    simp
  · obtain ⟨t0, h0, rfl⟩ := List.mem_map.mp ht
    by_cases h : t0.1 = c
    · rw [if_pos h]
      show L ++ [rwD r] = (rowsAt (R ++ [(c, r)]) c).map rwD
      rw [hat, if_pos rfl, List.map_append, ← h2 _ hm]
      rfl
    · rw [if_neg h, hat, if_neg (fun z => h z.symm), List.append_nil]
      exact h2 _ h0
theorem grp_keys {R : List Row} {ts : List (Cell × Addr × List PyData)} (h : GrpT R ts) (hn : (ts.map (·.1)).Nodup) : inRows (ts.map (·.1)) = inRows (ddl (R.map (·.1))) :=
  inRows_perm ((List.perm_ext_iff_of_nodup hn ddl_nd).mpr fun c => (h.1 c).trans mem_ddl.symm)
def lstR (K : PySem.W.Frag) : Addr → Hp → Hp → List PyData → Prop := fun p G H L => LstAt K p G H L
theorem lstR_stab {K : PySem.W.Frag} : Stab (lstR K) := fun _ _ _ _ _ _ _ h n hp => LstAt.go h n hp
/-! ### the least and the greatest -/
def MinOf (l : List Int) (m : Int) : Prop := m ∈ l ∧ ∀ y ∈ l, m ≤ y
def MaxOf (l : List Int) (m : Int) : Prop := m ∈ l ∧ ∀ y ∈ l, y ≤ m
theorem MinOf.uniq {l : List Int} {a b : Int} (h1 : MinOf l a) (h2 : MinOf l b) : a = b := Int.le_antisymm (h1.2 b h2.1) (h2.2 a h1.1)
theorem MaxOf.uniq {l : List Int} {a b : Int} (h1 : MaxOf l a) (h2 : MaxOf l b) : a = b := Int.le_antisymm (h2.2 a h1.1) (h1.2 b h2.1)
theorem g_minO {K : PySem.W.Frag} {G H : Hp} {p : Addr} {ns : List Int} {Q : VK} (r : LstAt K p G H (ns.map .int)) (hn : ns ≠ []) (q : ∀ m, MinOf ns m → Q (.int m) H) : rMin K [.ref p] H Q := by
  obtain ⟨vs, h, _, d⟩ := r
  rw [dpAll_ints_inv d] at h
  exact ⟨p, ns, rfl, .of h, List.length_pos_iff.mpr hn, fun m h1 h2 => q m ⟨h1, h2⟩⟩
theorem g_maxO {K : PySem.W.Frag} {G H : Hp} {p : Addr} {ns : List Int} {Q : VK} (r : LstAt K p G H (ns.map .int)) (hn : ns ≠ []) (q : ∀ m, MaxOf ns m → Q (.int m) H) : rMax K [.ref p] H Q := by
  obtain ⟨vs, h, _, d⟩ := r
  rw [dpAll_ints_inv d] at h
  exact ⟨p, ns, rfl, .of h, List.length_pos_iff.mpr hn, fun m h1 h2 => q m ⟨h1, h2⟩⟩
/-! ### fits -/
abbrev CI := List (Cell × Int)
def rdC (rs : List PyData) : CI := (rdl 0 rs).map fun t => ((t.1, t.2.1), t.2.2)
def inC (l : CI) : Dt := l.map fun e => (e.1, PyData.int e.2)
theorem inC_keys {l : CI} : (inC l).map (·.1) = l.map (·.1) := by unfold inC; rw [List.map_map]; rfl
theorem inC_gt {c : Cell} : ∀ {l : CI}, gtM (inC l) c = (gtM l c).map .int
  | [] => rfl
  | (a, b) :: l => by
    have ih := inC_gt (c := c) (l := l)
    show gtM ((a, PyData.int b) :: inC l) c = _
    rw [gtM_cons, gtM_cons, ih]
    by_cases h : a = c
    · rw [if_pos h, if_pos h]; rfl
    · rw [if_neg h, if_neg h]
theorem rdC_nd {rs : List PyData} (h3 : ∀ d ∈ rs, rowOk d = true) : ((rdC rs).map (·.1)).Nodup := by
  unfold rdC
  rw [List.map_map]
  exact rdl_nd h3
theorem ptM_ninC {κ α : Type} [DecidableEq κ] {m : List (κ × α)} {k : κ} {a : α} (h : k ∉ m.map (·.1)) : ptM m k a = m ++ [(k, a)] := by
  unfold ptM
  rw [if_neg]
  simp only [List.any_eq_true, decide_eq_true_eq, not_exists, not_and]
  rintro p hp rfl
  exact h (List.mem_map.mpr ⟨p, hp, rfl⟩)
def ovF (m : CI) (dx dy : Int) (t : Rd3) : Option Rd3 := (gtM m (t.1 + dx, t.2.1 + dy)).map fun r => (t.1, t.2.1, t.2.2 - r)
def ovs (rs1 rs2 : List PyData) (dx dy : Int) : List Rd3 := (rdl 0 rs2).filterMap (ovF (rdC rs1) dx dy)
def prF (a b : Rd3) : Row := ((a.1 - b.1, a.2.1 - b.2.1), ("", b.2.2 - a.2.2))
def prR (A B : List Rd3) : List Row := A.flatMap fun a => B.map (prF a)
theorem prR_len : ∀ {A B : List Rd3}, (prR A B).length = A.length * B.length
  | [], B => by simp [prR]
  | a :: A, B => by
    have ih := prR_len (A := A) (B := B)
    unfold prR at ih ⊢
    rw [List.flatMap_cons, List.length_append, List.length_map, ih, List.length_cons, Nat.succ_mul, Nat.add_comm]
theorem prR_cons {b : Rd3} {B : List Rd3} : ∀ {A : List Rd3}, (prR A (b :: B)).Perm (A.map (fun a => prF a b) ++ prR A B)
  | [] => List.Perm.refl _
  | a :: A => by
    have ih := prR_cons (b := b) (B := B) (A := A)
    unfold prR at ih ⊢
    rw [List.flatMap_cons, List.flatMap_cons, List.map_cons, List.map_cons, List.cons_append, List.cons_append]
    refine List.Perm.cons _ ?_
    refine (List.Perm.append_left _ ih).trans ?_
    rw [← List.append_assoc, ← List.append_assoc]
    exact List.Perm.append_right _ List.perm_append_comm
theorem rowsAt_perm {R R' : List Row} {c : Cell} (h : R.Perm R') : (rowsAt R c).Perm (rowsAt R' c) := (h.filter _).map _
theorem rowsAt_app {R R' : List Row} {c : Cell} : rowsAt (R ++ R') c = rowsAt R c ++ rowsAt R' c := by unfold rowsAt; rw [List.filter_append, List.map_append]
theorem prF_at {b : Rd3} {dx dy : Int} : ∀ {A : List Rd3}, ((A.map fun t => (t.1, t.2.1)).Nodup) → (rowsAt (A.map fun a => prF a b) (dx, dy)).map (·.2) = ((gtM (A.map fun t => ((t.1, t.2.1), t.2.2)) (b.1 + dx, b.2.1 + dy)).map fun r => b.2.2 - r).toList
  | [], _ => rfl
  | a :: A, h => by
    rw [List.map_cons, List.nodup_cons] at h
    have ih := prF_at (b := b) (dx := dx) (dy := dy) h.2
    rw [List.map_cons, List.map_cons, gtM_cons]
    have ec : rowsAt (prF a b :: A.map fun a => prF a b) (dx, dy) = (if (prF a b).1 = (dx, dy) then [(prF a b).2] else []) ++ rowsAt (A.map fun a => prF a b) (dx, dy) := by
      unfold rowsAt
      by_cases h : (prF a b).1 = (dx, dy)
      · rw [List.filter_cons_of_pos (by simpa using h), if_pos h]; rfl
      · rw [List.filter_cons_of_neg (by simpa using h), if_neg h]; rfl
    rw [ec]
    have hk : (prF a b).1 = (dx, dy) ↔ ((a.1, a.2.1) : Cell) = (b.1 + dx, b.2.1 + dy) := by
      unfold prF
      rw [Prod.mk.injEq, Prod.mk.injEq]
      constructor <;> (rintro ⟨h1, h2⟩; constructor <;> omega)
    by_cases e : ((a.1, a.2.1) : Cell) = (b.1 + dx, b.2.1 + dy)
    · rw [if_pos (hk.mpr e), if_pos e, List.map_append, ih]
      have : gtM (A.map fun t => (((t.1, t.2.1) : Cell), t.2.2)) (b.1 + dx, b.2.1 + dy) = none := gtM_none.mpr fun z => h.1 (by
        rw [List.map_map] at z
        rw [e]
        exact z)
      rw [this]
      rfl
    · rw [if_neg (fun z => e (hk.mp z)), if_neg e]
      exact ih
theorem ovs_perm {rs1 rs2 : List PyData} (h1 : ∀ d ∈ rs1, rowOk d = true) {dx dy : Int} : ((ovs rs1 rs2 dx dy).map (·.2.2)).Perm ((rowsAt (prR (rdl 0 rs1) (rdl 0 rs2)) (dx, dy)).map (·.2)) := by
  unfold ovs
  generalize rdl 0 rs2 = B
  induction B with
  | nil =>
    have : prR (rdl 0 rs1) [] = [] := by unfold prR; simp
    rw [this]
    exact List.Perm.refl _
  | cons b B ih =>
    have h2 := (rowsAt_perm (c := (dx, dy)) (prR_cons (b := b) (B := B) (A := rdl 0 rs1))).map (·.2)
    rw [rowsAt_app, List.map_append, prF_at (rdl_nd h1)] at h2
    refine List.Perm.trans ?_ h2.symm
    have e1 : (List.filterMap (ovF (rdC rs1) dx dy) (b :: B)).map (·.2.2) = ((ovF (rdC rs1) dx dy b).map (·.2.2)).toList ++ (List.filterMap (ovF (rdC rs1) dx dy) B).map (·.2.2) := by
      rw [List.filterMap_cons]
      cases ovF (rdC rs1) dx dy b <;> rfl
    rw [e1]
    have e2 : (ovF (rdC rs1) dx dy b).map (·.2.2) = (gtM ((rdl 0 rs1).map fun t => (((t.1, t.2.1) : Cell), t.2.2)) (b.1 + dx, b.2.1 + dy)).map fun r => b.2.2 - r := by
      unfold ovF rdC
      rw [Option.map_map]
      rfl
    rw [e2]
    exact List.Perm.append_left _ ih
theorem mem_rdlRow {y : Nat} {t : Rd3} : ∀ {x : Nat} {r : List PyData}, t ∈ rdlRow y x r ↔ ∃ (j : Nat) (v : Int), r[j]? = some (.int v) ∧ t = (((x + j : Nat) : Int), (y : Int), v)
  | x, [] => by simp [rdlRow]
  | x, d :: r => by
    have ih := mem_rdlRow (y := y) (t := t) (x := x + 1) (r := r)
    have go : (∃ (j : Nat) (v : Int), (d :: r)[j]? = some (.int v) ∧ t = (((x + j : Nat) : Int), (y : Int), v)) ↔ (∃ v, d = .int v ∧ t = ((x : Int), (y : Int), v)) ∨ t ∈ rdlRow y (x + 1) r := by
      rw [ih]
      constructor
      · rintro ⟨j, v, h1, h2⟩
        cases j with
        | zero => exact .inl ⟨v, Option.some.inj h1, h2⟩
        | succ j => exact .inr ⟨j, v, h1, by rw [h2, show x + (j + 1) = x + 1 + j by omega]⟩
      · rintro (⟨v, rfl, h⟩ | ⟨j, v, h1, h2⟩)
        · exact ⟨0, v, rfl, h⟩
        · exact ⟨j + 1, v, h1, by rw [h2, show x + (j + 1) = x + 1 + j by omega]⟩
    rw [go]
    cases d with
    | int v => show t ∈ ((x : Int), (y : Int), v) :: rdlRow y (x + 1) r ↔ _; rw [List.mem_cons]; simp
    | _ => show t ∈ rdlRow y (x + 1) r ↔ _; simp
theorem mem_rdl {t : Rd3} : ∀ {y : Nat} {rs : List PyData}, (∀ d ∈ rs, rowOk d = true) → (t ∈ rdl y rs ↔ ∃ (i : Nat) (r : List PyData) (j : Nat) (v : Int), rs[i]? = some (.tuple r) ∧ r[j]? = some (.int v) ∧ t = ((j : Int), ((y + i : Nat) : Int), v))
  | y, [], _ => by simp [rdl]
  | y, d :: rs, ho => by
    obtain ⟨c, rfl, _, _, _⟩ := rowOk_tup (ho d (by simp))
    have ih := mem_rdl (t := t) (y := y + 1) (rs := rs) fun d hd => ho d (List.mem_cons_of_mem _ hd)
    show t ∈ rdlRow y 0 c ++ rdl (y + 1) rs ↔ _
    rw [List.mem_append, ih, mem_rdlRow]
    constructor
    · rintro (⟨j, v, h1, h2⟩ | ⟨i, r, j, v, h1, h2, h3⟩)
      · exact ⟨0, c, j, v, rfl, h1, by rw [h2, Nat.zero_add]; rfl⟩
      · exact ⟨i + 1, r, j, v, h1, h2, by rw [h3, show y + (i + 1) = y + 1 + i by omega]⟩
    · rintro ⟨i, r, j, v, h1, h2, h3⟩
      cases i with
      | zero =>
        cases h1
        exact .inl ⟨j, v, h2, by rw [h3, Nat.zero_add]; rfl⟩
      | succ i => exact .inr ⟨i, r, j, v, h1, h2, by rw [h3, show y + (i + 1) = y + 1 + i by omega]⟩
theorem rdC_int {rs r : List PyData} {i j : Nat} {v : Int} (h3 : ∀ d ∈ rs, rowOk d = true) (hi : rs[i]? = some (.tuple r)) (hj : r[j]? = some (.int v)) : gtM (rdC rs) ((j : Int), (i : Int)) = some v := by
  refine mem_gtM (rdC_nd h3) ?_
  unfold rdC
  exact List.mem_map.mpr ⟨((j : Int), (i : Int), v), (mem_rdl h3).mpr ⟨i, r, j, v, hi, hj, by rw [Nat.zero_add]⟩, rfl⟩
theorem rdC_none {rs : List PyData} {x y : Int} (h3 : ∀ d ∈ rs, rowOk d = true) (h : ∀ (i j : Nat) (r : List PyData) (v : Int), rs[i]? = some (.tuple r) → r[j]? = some (.int v) → x = (j : Int) → y = (i : Int) → False) : gtM (rdC rs) (x, y) = none := by
  refine gtM_none.mpr fun z => ?_
  unfold rdC at z
  rw [List.map_map] at z
  obtain ⟨t, ht, e⟩ := List.mem_map.mp z
  obtain ⟨i, r, j, v, h1, h2, rfl⟩ := (mem_rdl h3).mp ht
  have e1 := congrArg Prod.fst e
  have e2 := congrArg Prod.snd e
  simp only [Function.comp, Nat.zero_add] at e1 e2
  exact h i j r v h1 h2 e1.symm e2.symm
/-- all rows are of one width -/
theorem rows_wide {rs : List PyData} (h : sameLen rs = true) (h0 : 1 ≤ rs.length) (h3 : ∀ d ∈ rs, rowOk d = true) : ∃ r0 w, rs[0]? = some (.tuple r0) ∧ r0.length = w ∧ 1 ≤ w ∧ w ≤ 12 ∧ ∀ (i : Nat) r, rs[i]? = some (.tuple r) → r.length = w := by
  cases rs with
  | nil => simp at h0
  | cons d rs =>
    obtain ⟨c, rfl, hc, hc2, _⟩ := rowOk_tup (h3 d (by simp))
    refine ⟨c, c.length, rfl, rfl, by omega, by omega, fun i r hr => ?_⟩
    simp only [sameLen] at h
    have := List.all_eq_true.mp h _ (List.mem_of_getElem? hr)
    exact of_decide_eq_true this
theorem rdl_len4 : ∀ {y : Nat} {rs : List PyData}, (∀ d ∈ rs, rowOk d = true ∧ dlen d ≤ 4) → (rdl y rs).length ≤ 4 * rs.length
  | _, [], _ => Nat.le_refl _
  | y, d :: rs, ho => by
    obtain ⟨r, rfl, _, hr2, hr⟩ := rowOk_tup (ho d (by simp)).1
    have h4 : r.length ≤ 4 := (ho (.tuple r) (by simp)).2
    have := rdl_len4 (y := y + 1) (rs := rs) fun d hd => ho d (List.mem_cons_of_mem _ hd)
    have := rdlRow_len (y := y) (x := 0) (r := r)
    show (rdlRow y 0 r ++ rdl (y + 1) rs).length ≤ _
    rw [List.length_append, List.length_cons]
    omega
/-- what fits: the shift, the light, how many are wrong -/
structure FitM (R : List Row) (reach errors least : Int) (z : Q4) : Prop where
  x : -reach ≤ z.1 ∧ z.1 ≤ reach
  y : -reach ≤ z.2.1 ∧ z.2.1 ≤ reach
  many : least ≤ ((rowsAt R (z.1, z.2.1)).length : Int)
  one : 0 < cntN (rowsAt R (z.1, z.2.1)) z.2.2.1
  wr : z.2.2.2 = (costN (rowsAt R (z.1, z.2.1)) z.2.2.1 : Int)
  er : z.2.2.2 ≤ errors
structure FitL (R : List Row) (reach errors least : Int) (L : List Q4) : Prop where
  nd : L.Nodup
  asc : L.Pairwise fun a b => lx4 a b = true
  mem : ∀ z, z ∈ L ↔ FitM R reach errors least z
theorem FitL.uniq {R : List Row} {reach errors least : Int} {L L' : List Q4} (h : FitL R reach errors least L) (h' : FitL R reach errors least L') : L = L' :=
  sorted_uniq (le := fun a b => lx4 a b = true) lx4_anti ((List.perm_ext_iff_of_nodup h.nd h'.nd).mpr fun z => (h.mem z).trans (h'.mem z).symm) h.asc h'.asc
theorem FitL.sort {R : List Row} {reach errors least : Int} {L : List Q4} (h : L.Nodup) (m : ∀ z, z ∈ L ↔ FitM R reach errors least z) : FitL R reach errors least (L.mergeSort lx4) :=
  ⟨(List.mergeSort_perm _ _).nodup_iff.mpr h, List.pairwise_mergeSort lx4_trans lx4_total _, fun z => (List.mergeSort_perm _ _).mem_iff.trans (m z)⟩
/-- the tallies of the rows, by cells -/
def TlsT (R : List Row) (ts : List (Cell × Addr × List (Int × Int))) : Prop := (∀ c, c ∈ ts.map (·.1) ↔ c ∈ R.map (·.1)) ∧ ∀ t ∈ ts, Tal (rowsAt R t.1) t.2.2
theorem tls_step {R : List Row} {ts : List (Cell × Addr × List (Int × Int))} {c : Cell} {p : Addr} {m : List (Int × Int)} {r : Str × Int} (h1 : ∀ c', c' ∈ ts.map (·.1) ↔ c' ∈ R.map (·.1) ∨ c' = c) (h2 : ∀ t ∈ ts, Tal (rowsAt R t.1) t.2.2) (hm : (c, p, m) ∈ ts) :
    TlsT (R ++ [(c, r)]) (ts.map fun t => if t.1 = c then (c, p, ptM m r.2 ((gtM m r.2).getD 0 + 1)) else t) := by
  have hat : ∀ c', rowsAt (R ++ [(c, r)]) c' = rowsAt R c' ++ if c = c' then [r] else [] := fun c' => by
    rw [rowsAt_app]
    congr 1
    unfold rowsAt
    by_cases h : c = c'
    · rw [if_pos h, List.filter_cons_of_pos (by simpa using h)]; rfl
    · rw [if_neg h, List.filter_cons_of_neg (by simpa using h)]; rfl
  refine ⟨fun c' => ?_, fun t ht => ?_⟩
  · have e1 : (ts.map fun t => if t.1 = c then (c, p, ptM m r.2 ((gtM m r.2).getD 0 + 1)) else t).map (·.1) = ts.map (·.1) := by
      rw [List.map_map]
      refine List.map_congr_left fun t _ => ?_
      show (if t.1 = c then (c, p, ptM m r.2 ((gtM m r.2).getD 0 + 1)) else t).1 = t.1
      split
      · exact (by assumption : t.1 = c).symm
      · rfl
    rw [e1, h1, List.map_append, List.mem_append]
    simp
  · obtain ⟨t0, h0, rfl⟩ := List.mem_map.mp ht
    by_cases h : t0.1 = c
    · rw [if_pos h]
      show Tal (rowsAt (R ++ [(c, r)]) c) _
      rw [hat, if_pos rfl]
      exact (h2 _ hm).snoc r
    · rw [if_neg h, hat, if_neg (fun z => h z.symm), List.append_nil]
      exact h2 _ h0
/-- the number of a tally is the number of its rows -/
theorem Tal.sum : ∀ {rs : Rws} {m : List (Int × Int)}, Tal rs m → (m.map (·.2)).sum = (rs.length : Int) := by
  intro rs m h
  have key : ∀ (m : List (Int × Int)) (rs : Rws), (m.map (·.1)).Nodup → (∀ e ∈ m, e.2 = (cntN rs e.1 : Int)) → (∀ r ∈ rs, r.2 ∈ m.map (·.1)) → (m.map (·.2)).sum = (rs.length : Int) := by
    intro m
    induction m with
    | nil =>
      intro rs _ _ h
      cases rs with
      | nil => rfl
      | cons r rs => exact absurd (h r (by simp)) (by simp)
    | cons e m ih =>
      intro rs hn hc hm
      rw [List.map_cons, List.nodup_cons] at hn
      have h2 := ih (rs.filter fun r => decide (r.2 ≠ e.1)) hn.2 (fun f hf => ?_) (fun r hr => ?_)
      · rw [List.map_cons, List.sum_cons, h2, hc e (by simp)]
        have := cost_cnt (rs := rs) (x := e.1)
        unfold costN at this
        omega
      · rw [hc f (List.mem_cons_of_mem _ hf)]
        have hne : f.1 ≠ e.1 := fun z => hn.1 (z ▸ List.mem_map.mpr ⟨f, hf, rfl⟩)
        unfold cntN
        rw [List.filter_filter]
        congr 2
        refine List.filter_congr fun r _ => ?_
        by_cases h : r.2 = f.1
        · simp [h, hne]
        · simp [h]
      · rw [List.mem_filter] at hr
        have := hm r hr.1
        rw [List.map_cons, List.mem_cons] at this
        rcases this with h | h
        · have := hr.2
          rw [decide_eq_true_eq] at this
          exact absurd h this
        · exact h
  refine key m rs h.nd (fun e he => ?_) (fun r hr => ?_)
  · exact (h.mem.mp (show (e.1, e.2) ∈ m from he)).2
  · exact List.mem_map.mpr ⟨(r.2, (cntN rs r.2 : Int)), h.mem.mpr ⟨cnt_pos.mpr ⟨r, hr, rfl⟩, rfl⟩, rfl⟩
theorem fitM_len {R : List Row} {reach errors least : Int} {L : List Q4} (h : L.Nodup) (hm : ∀ z ∈ L, FitM R reach errors least z) : L.length ≤ R.length := by
  have h1 : (L.map fun z : Q4 => (((z.1, z.2.1) : Cell), z.2.2.1)).Nodup := by
    refine List.pairwise_map.mpr (List.Pairwise.imp_of_mem ?_ h)
    intro a b ha hb hne e
    refine hne ?_
    obtain ⟨a1, a2, a3, a4⟩ := a
    obtain ⟨b1, b2, b3, b4⟩ := b
    simp only [Prod.mk.injEq] at e
    obtain ⟨⟨rfl, rfl⟩, rfl⟩ := e
    have w1 := (hm _ ha).wr
    have w2 := (hm _ hb).wr
    simp only at w1 w2
    rw [w1, w2]
  have h2 := h1.length_le_of_subset (l₂ := R.map fun e => (e.1, e.2.2)) fun x hx => by
    obtain ⟨z, hz, rfl⟩ := List.mem_map.mp hx
    obtain ⟨r, hr, e⟩ := cnt_pos.mp (hm z hz).one
    unfold rowsAt at hr
    obtain ⟨f, hf, rfl⟩ := List.mem_map.mp hr
    rw [List.mem_filter, decide_eq_true_eq] at hf
    exact List.mem_map.mpr ⟨f, hf.1, by rw [hf.2, e]⟩
  simpa using h2
def sp_link_of (K : PySem.W.Frag) : Sp := fun vs H Q _ => ∃ G v w f a b c d, ∃ z : Q4, vs = [v, w, f] ∧ Y.Ex G H ∧ Dp K G v (.tuple [a, c]) ∧ Dp K G w (.tuple [b, d]) ∧ Dp K G f (q4D z) ∧
  ∀ u G' H', Nx [] G H G' H' → Dp K G' u (.tuple [a, b, .int z.1, .int z.2.1, .int z.2.2.1]) → Q u H'
theorem ok_link_of (T : Tx fa fn bx K mg) : FnOk P w K mg base CX0 1 (He.ga K "link_of") (fdOf K (He.ga K "link_of")) ["one", "two", "fit"] (sp_link_of K) := by
  refine FunD.ok (F_link_of T) sc_link_of (fun vs H Q E h => ?_) (fun cdv A outer s H vs Q E hr h => ?_)
  · obtain ⟨_, _, _, _, _, _, _, _, _, rfl, _⟩ := h
    rfl
  · obtain ⟨G, v, w, f, a, b, c, d, z, rfl, e, hv, hw, hf, q⟩ := h
    refine ⟨_, PSs.nox ((pss_one (ps_ret (pe_op (Y.op_catAK (K := K) rfl) (pe_tup (pa_cons (pe_ix (Y.ix_tupK (K := K) rfl) (pv 0) pe_int (fun _ _ => rfl)) (pa_cons (pe_ix (Y.ix_tupK (K := K) rfl) (pv 1) pe_int (fun _ _ => rfl)) pa_nil))) (pe_slice (Y.sl_tupAK (K := K) rfl) (pv 2) po_none (po_some pe_int)))))), ?_⟩
    walk_at "sx"
    refine g_ixT (k := 0) e hv rfl rfl fun v1 d1 => ?_
    walk_at "sx"
    refine g_ixT (k := 0) e hw rfl rfl fun v2 d2 => ?_
    walk_at "sx"
    refine g_tupD (K := K) (ds := [a, b]) e (.cons d1 (.cons d2 .nil)) (by show 2 ≤ sizeLine; decide) fun p G1 H1 n1 dp => ?_
    walk_at "sx"
    refine g_slHi (k := 3) n1.gh (dp_mono n1.gg hf) rfl fun v3 G2 H2 n2 d3 => ?_
    walk_at "sx"
    refine g_catA n2.gh (dp_mono n2.gg dp) d3 (by show 5 ≤ sizeLine; decide) fun v4 G3 H3 n3 d4 => ?_
    walk_at "sx"
    exact q v4 G3 H3 ((n1.trans n2).trans n3) d4
theorem g_tlNew {G H : Hp} {σ : L2.St} {Q : VK} (e : Ex G H) (q : ∀ p H', Nx [] G H G H' → H p = none → TlAt p G H' [] → Q (.ref p) H') : tDNewK σ H Q := g_new fun p hp => q p _ (Nx.own e hp) hp ⟨upd_same, e.free hp⟩
def sp__tallies (K : PySem.W.Frag) : Sp := fun vs H Q _ => ∃ G v w a b rs1 rs2, vs = [v, w] ∧ Y.Ex G H ∧ Dp K G v (.tuple [a, .tuple rs1]) ∧ Dp K G w (.tuple [b, .tuple rs2]) ∧ rowsOk (.tuple rs1) = true ∧ rowsOk (.tuple rs2) = true ∧
  ∀ d ts G' H', Nx [] G H G' H' → H d = none → (∀ t ∈ ts, H t.2.1 = none) → MdAt TlAt d G' H' ts → TlsT (prR (rdl 0 rs1) (rdl 0 rs2)) ts → Q (.ref d) H'
theorem ok__tallies (T : Tx fa fn bx K mg) : FnOk P w K mg base CX0 2 (He.ga K "_tallies") (fdOf K (He.ga K "_tallies")) ["one", "two"] (sp__tallies K) := by
  refine FunD.ok (F__tallies T) sc__tallies (fun vs H Q E h => ?_) (fun cdv A outer s H vs Q E hr h => ?_)
  · obtain ⟨_, _, _, _, _, _, _, rfl, _⟩ := h
    rfl
  · obtain ⟨G, v, w, a, b, rs1, rs2, rfl, e, hv, hw, ho1, ho2, q⟩ := h
    refine ⟨_, PSs.nox ((pss_cons (ps_set (i := 2) sc__tallies.nd rfl (.inl rfl) pe_dnewT)
      (pss_cons (ps_for PassesOwn.never rfl (Y.pi_listK (K := K) rfl (Y.pe_callC (ok_readings T) (cal_readings T) (hr.mono (by decide)) (by rfl) pass0 (pa_cons (pv 0) pa_nil))) (Y.pg_tupK (K := K) (n := 3) rfl rfl (pgs_cons (pg_name (i := 3) sc__tallies.nd rfl (Or.inl rfl)) (pgs_cons (pg_name (i := 4) sc__tallies.nd rfl (Or.inl rfl)) (pgs_cons (pg_name (i := 5) sc__tallies.nd rfl (Or.inl rfl)) pgs_nil))))
      (pss_one (ps_for PassesOwn.never rfl (Y.pi_listK (K := K) rfl (Y.pe_callC (ok_readings T) (cal_readings T) (hr.mono (by decide)) (by rfl) pass0 (pa_cons (pv 1) pa_nil))) (Y.pg_tupK (K := K) (n := 3) rfl rfl (pgs_cons (pg_name (i := 6) sc__tallies.nd rfl (Or.inl rfl)) (pgs_cons (pg_name (i := 7) sc__tallies.nd rfl (Or.inl rfl)) (pgs_cons (pg_name (i := 8) sc__tallies.nd rfl (Or.inl rfl)) pgs_nil))))
      (pss_cons (ps_set (i := 9) sc__tallies.nd rfl (Or.inl rfl) (Y.pe_bmK (K := K) rfl PySem.F.plainAttrs_dict PySem.F.slot_dict_setdefault PySem.F.type_dict_setdefault (Y.mt_setdT (hu_of hr)) (pv 2) (pa_cons (pe_tup (pa_cons (pe_op op_sub (pv 3) (pv 6)) (pa_cons (pe_op op_sub (pv 4) (pv 7)) pa_nil))) (pa_cons pe_dnewK pa_nil))))
      (pss_cons (ps_set (i := 10) sc__tallies.nd rfl (Or.inl rfl) (pe_op op_sub (pv 8) (pv 5)))
      (pss_one (ps_dput (hu_of hr) (pv 9) (pv 10) (pe_op op_add (pe_dget2 (hu_of hr) (pv 9) (pv 10) pe_int ⟨rfl, rfl, rfl, rfl⟩) pe_int) rfl)))))))
      (pss_one (ps_ret (pv 2)))))), ?_⟩
    obtain ⟨a1, a2, a3, _⟩ := rows_inv ho1
    obtain ⟨b1, b2, b3, _⟩ := rows_inv ho2
    have hl1 := rdl_len (y := 0) a3
    have hl2 := rdl_len (y := 0) b3
    have sm : ∀ {rs : List PyData}, (∀ d ∈ rs, rowOk d = true) → ∀ d ∈ rs, ∃ r, d = .tuple r ∧ r.length ≤ 100 := fun h d hd => by
      obtain ⟨c, rfl, _, hc, _⟩ := rowOk_tup (h d hd)
      exact ⟨c, rfl, by omega⟩
    walk_at "sx"
    refine g_mdNew (R := TlAt) e fun td H1 n1 htd hM1 => ?_
    walk_at "sx"
    refine ⟨G, v, a, rs1, rfl, n1.gh, dp_mono n1.gg hv, ⟨by omega, sm a3⟩, fun r G2 H2 n2 hr => ?_⟩
    rw [rds_rdl a3] at hr
    have n02 := n1.trans n2
    have hM2 := hM1.go tlAt_stab n2 (by simp) (by simp)
    obtain ⟨A, hA⟩ : ∃ A, rdl 0 rs1 = A := ⟨_, rfl⟩
    obtain ⟨B, hB⟩ : ∃ B, rdl 0 rs2 = B := ⟨_, rfl⟩
    rw [hA] at hr hl1 q
    rw [hB] at hl2 q
    have hAl : A.length ≤ 144 := by omega
    have hBl : B.length ≤ 144 := by omega
    refine g_walkL n2.gh hr fun bb hb S => ?_
    refine g_forS (K := K) (M := [td]) (S [td]) n2.gh (fun i σ G' H' => ∃ y3 y4 y5 y6 y7 y8 y9 y10, ∃ ts : List (Cell × Addr × List (Int × Int)), σ = [some v, some w, some (.ref td), y3, y4, y5, y6, y7, y8, y9, y10] ∧ MdAt TlAt td G' H' ts ∧ TlsT (prR (A.take i) B) ts ∧ ∀ t ∈ ts, H2 t.2.1 = none) ⟨_, _, _, _, _, _, _, _, [], rfl, hM2, ⟨fun c => by simp [prR], by simp⟩, by simp⟩ ?_ ?_
    · rintro i d x σ' G3 H3 G4 H4 hi n3 ⟨y3, y4, y5, y6, y7, y8, y9, y10, ts, rfl, hM3, hT3, hf3⟩ n4 dv
      rw [List.getElem?_map] at hi
      obtain ⟨t1, ht1, rfl⟩ := Option.map_eq_some_iff.mp hi
      have n24 : Nx [td] G2 H2 G4 H4 := n3.trans n4.pure
      have hM4 := hM3.go tlAt_stab n4 (by simp) (by simp)
      refine g_un3 n4.gh dv fun w1 w2 w3 e1 e2 e3 => ?_
      cases dp_int e1
      cases dp_int e2
      cases dp_int e3
      walk_at "sx"
      refine ⟨G4, w, b, rs2, rfl, n4.gh, dp_mono (n02.gg.trans n24.gg) hw, ⟨by omega, sm b3⟩, fun r2 G5 H5 n5 hr2 => ?_⟩
      rw [rds_rdl b3, hB] at hr2
      have hM5 := hM4.go tlAt_stab n5 (by simp) (by simp)
      have hR1 : prR (A.take (i + 1)) B = prR (A.take i) B ++ B.map (prF t1) := by
        rw [List.take_add_one, ht1]
        unfold prR
        rw [List.flatMap_append]
        show _ ++ (B.map (prF t1) ++ []) = _
        rw [List.append_nil]
      have hRl : (prR (A.take i) B).length ≤ 144 * 144 := by
        rw [prR_len, List.length_take]
        exact Nat.mul_le_mul (by omega) hBl
      obtain ⟨R0, hR0⟩ : ∃ R0, prR (A.take i) B = R0 := ⟨_, rfl⟩
      rw [hR0] at hT3 hRl hR1
      refine g_walkL n5.gh hr2 fun b2 hb2 S2 => ?_
      refine g_forS (K := K) (M := td :: ts.map (·.2.1)) (S2 _) n5.gh (fun j σ G' H' => ∃ y6 y7 y8 y9 y10, ∃ ts' : List (Cell × Addr × List (Int × Int)), σ = [some v, some w, some (.ref td), some (.int t1.1), some (.int t1.2.1), some (.int t1.2.2), y6, y7, y8, y9, y10] ∧ MdAt TlAt td G' H' ts' ∧ TlsT (R0 ++ (B.take j).map (prF t1)) ts' ∧ ∀ t ∈ ts', t.2.1 ∈ ts.map (·.2.1) ∨ H5 t.2.1 = none) ⟨_, _, _, _, _, ts, rfl, hM5, by simpa using hT3, fun t ht => .inl (List.mem_map.mpr ⟨t, ht, rfl⟩)⟩ ?_ ?_
      · rintro j d2 x2 σ2 G7 H7 G8 H8 hj n7 ⟨y6, y7, y8, y9, y10, ts7, rfl, hM7, hT7, hf7⟩ n8 dv2
        rw [List.getElem?_map] at hj
        obtain ⟨t2, ht2, rfl⟩ := Option.map_eq_some_iff.mp hj
        have hM8 := hM7.go tlAt_stab n8 (by simp) (by simp)
        refine g_un3 n8.gh dv2 fun w1 w2 w3 e1 e2 e3 => ?_
        cases dp_int e1
        cases dp_int e2
        cases dp_int e3
        walk_at "sx"
        refine g_tyMd hM8 ?_
        walk_at "sx"
        refine g_cl n8.gh fun u G9 H9 n9 hu cu => ?_
        walk_at "sx"
        have hM9 := hM8.go tlAt_stab n9 (by simp) (by simp)
        refine g_tlNew n9.gh fun z0 H10 n10 hz0 hZ => ?_
        have hM10 := hM9.go tlAt_stab n10 (by simp) (by simp)
        have hz0d : z0 ≠ td := fun z => hM9.live (z ▸ hz0)
        have hz0v : z0 ∉ ts7.map (·.2.1) := fun z => by
          obtain ⟨t, ht, e1⟩ := List.mem_map.mp z
          have h1 := (hM9.el t ht).1
          rw [e1, hz0] at h1
          cases h1
        have hlen7 : ts7.length ≤ 144 * 144 + 144 := by
          have := md_len hM7.ks (L := (R0 ++ (B.take j).map (prF t1)).map (·.1)) fun c hc => (hT7.1 c).mp hc
          rw [List.length_map, List.length_append, List.length_map, List.length_take] at this
          omega
        have hz06 : H5 z0 = none := ((n7.trans n8.pure).trans n9.pure).fresh hz0
        walk_at "sx"
        refine g_mdSetd2 (x0 := []) tlAt_stab n10.gh hM10 (cu.go n10.gg) hZ hz0v hz0d (by omega) fun p m ts8 H11 n11 hM11 hp8 hk8 hel8 hl8 => ?_
        walk_at "sx"
        have hL11 : TlAt p G9 H11 m := hM11.el _ hp8
        refine g_tlG (.of hL11.1) ?_
        walk_at "sx"
        have eg : ((gtM m (t2.2.2 - t1.2.2)).map V.int).getD (.int 0) = .int ((gtM m (t2.2.2 - t1.2.2)).getD 0) := by cases gtM m (t2.2.2 - t1.2.2) <;> rfl
        obtain ⟨o, ho, eo⟩ := g_tlGet (Q := fun x _ => x = .int ((gtM m (t2.2.2 - t1.2.2)).getD 0)) (.of hL11.1) eg
        refine ⟨o, ho, ?_⟩
        rw [eo]
        walk_at "sx"
        have hml : m.length ≤ 144 * 144 + 144 := by
          rcases hel8 _ hp8 with h1 | ⟨h1, _⟩
          · have hT := (hT7.2 _ h1).len
            have := rowsAt_len (R := R0 ++ (B.take j).map (prF t1)) (c := (t1.1 - t2.1, t1.2.1 - t2.2.1))
            rw [List.length_append, List.length_map, List.length_take] at this
            have h9 : m.length ≤ (rowsAt (R0 ++ (B.take j).map (prF t1)) (t1.1 - t2.1, t1.2.1 - t2.2.1)).length := hT
            omega
          · cases h1
            simp
        refine g_tlPut n11.gh hL11 (by omega) fun H12 n12 hL12 => ?_
        walk_at "sx"
        have hM12 := hM11.upd tlAt_stab hp8 n12 hL12
        have hst : B.take (j + 1) = B.take j ++ [t2] := by rw [List.take_add_one, ht2]; rfl
        have hp6 : p ∈ ts.map (·.2.1) ∨ H5 p = none := by
          rcases hel8 _ hp8 with h1 | ⟨h1, _⟩
          · exact hf7 _ h1
          · cases h1
            exact .inr hz06
        have n812 : Nx [td, p] G8 H8 G9 H12 := ((n9.pure.trans n10.pure).trans (n11.mono fun b hb => by simp at hb; simp [hb])).trans (n12.mono fun b hb => by simp at hb; simp [hb])
        have n612 : Nx (td :: ts.map (·.2.1)) G5 H5 G9 H12 := by
          have h1 : Nx (p :: td :: ts.map (·.2.1)) G5 H5 G9 H12 := ((n7.trans n8.pure).mono fun b hb => List.mem_cons_of_mem _ hb).trans (n812.mono fun b hb => by simp at hb; rcases hb with rfl | rfl <;> simp)
          rcases hp6 with h | h
          · exact h1.mono fun b hb => by
              rcases List.mem_cons.mp hb with rfl | hb
              · exact List.mem_cons_of_mem _ h
              · exact hb
          · exact h1.drop h
        refine ⟨G9, n612, _, _, _, _, _, _, rfl, hM12, ?_, fun t ht => ?_⟩
        · rw [hst, List.map_append, ← List.append_assoc]
          refine tls_step (r := ("", t2.2.2 - t1.2.2)) (fun c' => ?_) (fun t ht => ?_) hp8
          · rw [hk8, hT7.1]
          · rcases hel8 t ht with h1 | ⟨rfl, h2⟩
            · exact hT7.2 t h1
            · have : rowsAt (R0 ++ (B.take j).map (prF t1)) (t1.1 - t2.1, t1.2.1 - t2.2.1) = [] := by
                unfold rowsAt
                rw [List.map_eq_nil_iff, List.filter_eq_nil_iff]
                intro e he
                rw [decide_eq_true_eq]
                intro z
                exact h2 ((hT7.1 _).mpr (by rw [← z]; exact List.mem_map.mpr ⟨e, he, rfl⟩))
              show Tal (rowsAt _ (t1.1 - t2.1, t1.2.1 - t2.2.1)) []
              rw [this]
              exact Tal.nil
        · obtain ⟨t0, h0, rfl⟩ := List.mem_map.mp ht
          split
          · exact hp6
          · rcases hel8 t0 h0 with h1 | ⟨rfl, _⟩
            · exact hf7 _ h1
            · exact .inr hz06
      · rintro σ2 G7 H7 n7 ⟨y6, y7, y8, y9, y10, ts7, rfl, hM7, hT7, hf7⟩
        rw [List.length_map, List.take_length, ← hR1] at hT7
        walk_at "sx"
        have n27 : Nx [td] G2 H2 G7 H7 := by
          have h1 : Nx (td :: ts.map (·.2.1)) G2 H2 G7 H7 := ((n24.trans n5.pure).mono fun b hb => by simp at hb; simp [hb]).trans n7
          refine h1.sub fun b hb => ?_
          rcases List.mem_cons.mp hb with rfl | hb
          · exact .inl (by simp)
          · obtain ⟨t, ht, rfl⟩ := List.mem_map.mp hb
            exact .inr (hf3 t ht)
        refine ⟨G7, n27, _, _, _, _, _, _, _, _, ts7, rfl, hM7, hT7, fun t ht => ?_⟩
        rcases hf7 t ht with h1 | h1
        · obtain ⟨t0, h0, e1⟩ := List.mem_map.mp h1
          rw [← e1]
          exact hf3 t0 h0
        · exact (n24.trans n5.pure).fresh h1
    · rintro σ' G3 H3 n3 ⟨y3, y4, y5, y6, y7, y8, y9, y10, ts, rfl, hM3, hT3, hf3⟩
      rw [List.length_map, List.take_length] at hT3
      walk_at "sx"
      exact q td ts G3 H3 ((n02.pure.trans n3).drop htd) htd (fun t ht => n02.fresh (hf3 t ht)) hM3 hT3
def sp_fits (K : PySem.W.Frag) : Sp := fun vs H Q E => ∃ G v w a b rs1 rs2 reach errors least, vs = [v, w, .int reach, .int errors, .int least] ∧ Y.Ex G H ∧ Dp K G v (.tuple [a, .tuple rs1]) ∧ Dp K G w (.tuple [b, .tuple rs2]) ∧ rowsOk (.tuple rs1) = true ∧ rowsOk (.tuple rs2) = true ∧
  (¬ (0 ≤ reach ∧ reach ≤ 99) → RaX (He.ga K "Misused") "why" (.str "reach") G H E) ∧ (0 ≤ reach → reach ≤ 99 → (errors < 0 ∨ least ≤ errors) → RaX (He.ga K "Misused") "why" (.str "errors") G H E) ∧
  (0 ≤ reach → reach ≤ 99 → 0 ≤ errors → errors < least → ∀ d L G' H', Nx [] G H G' H' → H d = none → FitL (prR (rdl 0 rs1) (rdl 0 rs2)) reach errors least L → LstAt K d G' H' (L.map q4D) → Q (.ref d) H')
theorem ok_fits (T : Tx fa fn bx K mg) : FnOk P w K mg base (L2.CX P w) 3 (He.ga K "fits") (fdOf K (He.ga K "fits")) ["one", "two", "reach", "errors", "least"] (sp_fits K) := by
  refine FunD.ok (F_fits T) sc_fits (fun vs H Q E h => ?_) (fun cdv A outer s H vs Q E hr h => ?_)
  · obtain ⟨_, _, _, _, _, _, _, _, _, _, rfl, _⟩ := h
    rfl
  · obtain ⟨G, v, w, a, b, rs1, rs2, reach, errors, least, rfl, e, hv, hw, ho1, ho2, q1, q2, q3⟩ := h
    refine ⟨_, ((pss_cons (ps_if (pt_not (pt_chain op_le op_le pe_int (pv 2) (pe_gint (T.int 14))))
      (pss_one (Y.ps_raiseI (ex_Misused T) (T.glo 16) (ok_Misused___init__ T) (cal_Misused___init__ T).b (hr.mono (by decide)) (by rfl) rfl (takes_ofL (takesL_of (takes_of rfl rfl rfl rfl))) (by exact (pa_cons pe_str pa_nil))))
      pss_nil)
      (pss_cons (ps_if (PW.pt (pw_or (pt_cmpR op_lt (pv 3) pe_int (nomark _)) (pw_or1 (pt_cmpR op_le (pv 4) (pv 3) (nomark _)))))
      (pss_one (Y.ps_raiseI (ex_Misused T) (T.glo 16) (ok_Misused___init__ T) (cal_Misused___init__ T).b (hr.mono (by decide)) (by rfl) rfl (takes_ofL (takesL_of (takes_of rfl rfl rfl rfl))) (by exact (pa_cons pe_str pa_nil))))
      pss_nil)
      (pss_cons (ps_set (i := 5) sc_fits.nd rfl (Or.inl rfl) (pe_lst pa_nil))
      (pss_cons (ps_for PassesOwn.leaving rfl (Y.pi_itemsT (Y.pe_frz (Y.pe_callC (ok__tallies T) (cal__tallies T) (hr.mono (by decide)) (by rfl) pass0 (pa_cons (pv 0) (pa_cons (pv 1) pa_nil))))) (Y.pg_tupK (K := K) (n := 2) rfl rfl (pgs_cons (Y.pg_tupK (K := K) (n := 2) rfl rfl (pgs_cons (pg_name (i := 9) sc_fits.nd rfl (Or.inr rfl)) (pgs_cons (pg_name (i := 10) sc_fits.nd rfl (Or.inr rfl)) pgs_nil))) (pgs_cons (pg_name (i := 6) sc_fits.nd rfl (Or.inr rfl)) pgs_nil)))
      (pss_cons (ps_set (i := 7) sc_fits.nd rfl (Or.inr rfl) (Y.pe_sumVals rfl (by rfl) (T.free 26) (pv 6)))
      (pss_cons (ps_set (i := 8) sc_fits.nd rfl (Or.inr rfl) (pe_lock (pe_dc (own := [("light", 11)]) (tt := tYes) rfl sc_fits.nd (pi_keys (pv 6)) (blkOk_by (own := [("light", 11)]) (by kernel_rfl)) (fun _ _ _ _ _ => (pg_name (i := 11) sc_fits.nd rfl (Or.inl rfl))) (fun _ _ _ _ _ => pts_nil) (fun _ _ _ _ _ => (pv 11)) (fun _ _ _ _ _ => (pe_op op_sub (pv 7) (pe_dget (hu_of hr) (pv 6) (pv 11) (fun _ _ => rfl)))))))
      (pss_one (ps_if (PW.pt (pw_and (pt_cmpR op_le (pe_callB (Y.call_max rfl) (by rfl) (T.free 27) (by decide +kernel) (pa_cons (pe_callB Y.call_abs (by rfl) (T.free 28) (by decide +kernel) (pa_cons (pv 9) pa_nil)) (pa_cons (pe_callB Y.call_abs (by rfl) (T.free 28) (by decide +kernel) (pa_cons (pv 10) pa_nil)) pa_nil))) (pv 2) (nomark _)) (pw_and1 (pt_cmpR op_ge (pv 7) (pv 4) (nomark _)))))
      (pss_one (ps_expr (Y.pe_bmK (K := K) rfl PySem.F.plainAttrs_list PySem.F.slot_list_extend PySem.F.type_list_extend mt_extend (pv 5) (pa_cons (pe_lock (pe_lc (own := [("light", 11)]) rfl sc_fits.nd (pi_keys (pv 8)) (blkOk_by (own := [("light", 11)]) (by kernel_rfl)) (fun _ _ _ _ _ => (pg_name (i := 11) sc_fits.nd rfl (Or.inl rfl))) (fun _ _ _ _ _ => (pts_one (pt_cmpR op_le (pe_dget (hu_of hr) (pv 8) (pv 11) (fun _ _ => rfl)) (pv 3) (nomark _)))) (fun _ _ _ _ _ => (pe_tup (pa_cons (pv 9) (pa_cons (pv 10) (pa_cons (pv 11) (pa_cons (pe_dget (hu_of hr) (pv 8) (pv 11) (fun _ _ => rfl)) pa_nil)))))))) pa_nil))))
      pss_nil)))))
      (pss_one (ps_ret (pe_callB (Y.cr_srt4K (K := K) rfl hr) (by rfl) (T.free 29) (by decide +kernel) (pa_cons (pv 5) pa_nil))))))))), ?_⟩
    walk_at "sx"
    refine g_dec (fun c1 => ?_) (fun c1 => ?_) <;> walk_at "sx"
    rotate_left
    · exact ⟨_, rfl, fun dd hdd => (q1 (by omega)).go (Nx.refl e) hdd⟩
    refine g_ndec (fun c2 => ?_) (fun c2 => ?_) <;> walk_at "sx"
    · exact ⟨_, rfl, fun dd hdd => (q1 (by omega)).go (Nx.refl e) hdd⟩
    refine g_dec (fun c3 => ?_) (fun c3 => ?_) <;> walk_at "sx"
    · exact ⟨_, rfl, fun dd hdd => (q2 c1 c2 (by omega)).go (Nx.refl e) hdd⟩
    refine g_dec (fun c4 => ?_) (fun c4 => ?_) <;> walk_at "sx"
    · exact ⟨_, rfl, fun dd hdd => (q2 c1 c2 (by omega)).go (Nx.refl e) hdd⟩
    have q := q3 c1 c2 (by omega) (by omega)
    clear q1 q2 q3
    refine g_lstLs (K := K) (L := []) e .nil (by decide) fun fp H1 n1 hfp hF1 => ?_
    walk_at "sx"
    refine g_iItemsT ?_
    refine g_frz ?_
    walk_at "sx"
    refine ⟨G, v, w, a, b, rs1, rs2, rfl, n1.gh, dp_mono n1.gg hv, dp_mono n1.gg hw, ho1, ho2, fun td ts G2 H2 n2 htd hts hM hT => ?_⟩
    refine g_frzDt hM.at_ fun od => ?_
    refine ⟨td, od, _, rfl, upd_same, ?_⟩
    have hftd : fp ≠ td := fun z => by
      obtain ⟨_, h1, _⟩ := hF1
      rw [z, htd] at h1
      cases h1
    have nS : Nx [td] G2 H2 G2 (L2.upd H2 td (.frz od (.dT (mdK ts)))) := Nx.set n2.gh hM.un (by simp)
    have n12 : Nx [] G H1 G2 (L2.upd H2 td (.frz od (.dT (mdK ts)))) := (n2.pure.trans nS).drop htd
    have hel : ∀ t ∈ ts, TlAt t.2.1 G2 (L2.upd H2 td (.frz od (.dT (mdK ts)))) t.2.2 := fun t ht => tlAt_stab _ _ _ _ _ _ _ (hM.el t ht) nS (fun z => hM.dv (by rw [← List.mem_singleton.mp z]; exact List.mem_map.mpr ⟨t, ht, rfl⟩))
    have hfz : L2.upd H2 td (.frz od (.dT (mdK ts))) td = some (.frz od (.dT (mdK ts))) := upd_same
    generalize L2.upd H2 td (.frz od (.dT (mdK ts))) = H3 at n12 hel hfz
    have hnd := hM.ks
    have hft : ∀ t ∈ ts, t.2.1 ≠ fp := fun t ht z => by
      obtain ⟨_, h1, _⟩ := hF1
      rw [← z, hts t ht] at h1
      cases h1
    clear hM nS
    have ho1' := (rows_inv ho1).2.2.1
    have ho2' := (rows_inv ho2).2.2.1
    have hAl : (rdl 0 rs1).length ≤ 144 := by have := rdl_len (y := 0) ho1'; have := (rows_inv ho1).2.1; omega
    have hBl : (rdl 0 rs2).length ≤ 144 := by have := rdl_len (y := 0) ho2'; have := (rows_inv ho2).2.1; omega
    obtain ⟨R, hR⟩ : ∃ R, prR (rdl 0 rs1) (rdl 0 rs2) = R := ⟨_, rfl⟩
    have hRl : R.length ≤ 144 * 144 := by rw [← hR, prR_len]; exact Nat.mul_le_mul hAl hBl
    rw [hR] at hT q
    have htl : ts.length ≤ 144 * 144 := by
      have := md_len hnd (L := R.map (·.1)) fun c hc => (hT.1 c).mp hc
      rw [List.length_map] at this
      omega
    refine g_forQ (M := [fp]) (src_mdI (K := K) hfz (by simpa using hftd.symm)) n12.gh (fun i σ G' H' => ∃ y6 y7 y8 y9 y10 y11, ∃ L : List Q4, σ = [some v, some w, some (.int reach), some (.int errors), some (.int least), some (.ref fp), y6, y7, y8, y9, y10, y11] ∧ LstAt K fp G' H' (L.map q4D) ∧ L.Nodup ∧ (∀ z, z ∈ L ↔ FitM R reach errors least z ∧ (z.1, z.2.1) ∈ (ts.take i).map (·.1))) ⟨_, _, _, _, _, _, [], rfl, hF1.go n12 (by simp), List.nodup_nil, by simp⟩ ?_ ?_
    · rintro i x σ' G4 H4 G5 H5 hi n4 ⟨y6, y7, y8, y9, y10, y11, L, rfl, hF4, hL1, hL2⟩ n5 ⟨tp, va, c, p, m, rfl, hsq, hti, hca⟩
      have htm := List.mem_of_getElem? hti
      have n45 := n4.trans n5.pure
      have hF5 := hF4.go n5 (by simp)
      have hp5 : TlAt p G5 H5 m := tlAt_stab _ _ _ _ _ _ _ (hel _ htm) n45 (by simpa using hft _ htm)
      have hTl : Tal (rowsAt R c) m := hT.2 _ htm
      refine g_un22 n5.gh hsq hca ?_
      walk_at "sx"
      refine g_sumV ?_
      walk_at "sx"
      refine g_sumI hp5.1 ?_
      rw [hTl.sum]
      walk_at "sx"
      refine g_lockKE hp5.1 fun od2 => ?_
      have ep5 : Ex G5 (L2.upd H5 p (.frz od2 (.dK (intK m)))) := tl_lock hp5 n5.gh
      have hpf : fp ≠ p := (hft _ htm).symm
      have hml : m.length ≤ 144 * 144 := Nat.le_trans hTl.len (Nat.le_trans rowsAt_len hRl)
      obtain ⟨N, hN⟩ : ∃ N, ((rowsAt R c).length : Int) = N := ⟨_, rfl⟩
      rw [hN]
      refine g_dc ?_
      refine g_iKeys0 ?_
      walk_at "sx"
      refine g_keysK upd_same ?_
      intro A hA
      obtain ⟨ws, hws⟩ : ∃ ws : List (Int × Int), ws = m.map fun e => (e.1, N - e.2) := ⟨_, rfl⟩
      have hwl : ws.length = m.length := by rw [hws, List.length_map]
      have hwk : ws.map (·.1) = m.map (·.1) := by rw [hws, List.map_map]; rfl
      have hpA : A ≠ p := fun z => by rw [z, upd_same] at hA; cases hA
      refine g_dcTl (K := K) (M := []) (es := fun i => ws.take i) (src_tl (od := od2) upd_same (by simp)) ep5 hA (by simp) (by omega) rfl (fun i => by rw [List.length_take]; omega) (fun j x G6 H6 hj ⟨f, hf, hx⟩ n6 QE QN k1 k2 => ?_) (fun G6 H6 n6 hW => ?_)
      · subst hx
        refine ⟨by first | rfl | exact wipe1, ?_⟩
        walk_at "sx"
        have hfp : L2.Rd H6 p (.dK (intK m)) := .inr ⟨od2, n6.fr p _ (by simp) upd_same⟩
        refine g_tlIx hfp (mem_gtM hTl.nd (List.mem_of_getElem? hf)) ?_
        walk_at "sx"
        refine k1 _ _ G6 H6 (Nx.refl n6.gh) ?_
        have hwj : ws[j]? = some (f.1, N - f.2) := by rw [hws, List.getElem?_map, hf]; rfl
        have hnin : f.1 ∉ (ws.take j).map (·.1) := by
          rw [List.map_take, hwk]
          intro hm
          obtain ⟨j', hj', e5⟩ := List.mem_take_iff_getElem.mp hm
          have hjm := (List.getElem?_eq_some_iff.mp hf).1
          have k2 : (List.map (·.1) m)[j]'(by rw [List.length_map]; exact hjm) = f.1 := by
            rw [List.getElem_map]
            exact congrArg Prod.fst ((List.getElem?_eq_some_iff.mp hf).2)
          have := (List.getElem_inj hTl.nd).mp (e5.trans k2.symm)
          omega
        rw [ptM_ninC hnin, List.take_add_one, hwj]
        rfl
      obtain ⟨u1, u2, u3⟩ := tl_unlock hp5 (by simp) n6
      refine ⟨u1, ?_⟩
      rw [← hwl, List.take_length] at hW
      have hW7 : TlAt A G6 (L2.upd H6 p (.dK (intK m))) ws := ⟨by rw [upd_ne hpA]; exact hW.1, hW.2⟩
      generalize L2.upd H6 p (.dK (intK m)) = H7 at u2 u3 hW7
      have hF7 := hF5.go u2 (by simp)
      have hAf : A ≠ fp := fun z => by
        obtain ⟨_, h1, _⟩ := hF5
        rw [upd_ne hpA, z, h1] at hA
        cases hA
      have n47 : Nx [fp] G2 H3 G6 H7 := n45.trans u2.pure
      walk_at "sx"
      have htk : (ts.take (i + 1)).map (·.1) = (ts.take i).map (·.1) ++ [c] := by rw [List.take_add_one, hti, List.map_append]; rfl
      have hcn : c ∉ (ts.take i).map (·.1) := by
        rw [List.map_take]
        intro hm
        obtain ⟨j', hj', e5⟩ := List.mem_take_iff_getElem.mp hm
        have k2 : (List.map (·.1) ts)[i]'(by rw [List.length_map]; exact hi) = c := by
          rw [List.getElem_map]
          exact congrArg Prod.fst ((List.getElem?_eq_some_iff.mp hti).2)
        have := (List.getElem_inj hnd).mp (e5.trans k2.symm)
        omega
      have stay : ¬ ((-reach ≤ c.1 ∧ c.1 ≤ reach) ∧ (-reach ≤ c.2 ∧ c.2 ≤ reach) ∧ least ≤ N) → ∀ z : Q4, z ∈ L ↔ FitM R reach errors least z ∧ (z.1, z.2.1) ∈ (ts.take (i + 1)).map (·.1) := fun hno z => by
        rw [hL2, htk, List.mem_append, List.mem_singleton]
        refine ⟨fun h => ⟨h.1, .inl h.2⟩, fun h => ⟨h.1, h.2.resolve_right fun hz => hno ?_⟩⟩
        have hm := h.1.many
        rw [hz, hN] at hm
        rw [← hz]
        exact ⟨h.1.x, h.1.y, hm⟩
      refine ⟨_, _, rfl, ?_⟩
      walk_at "sx"
      refine g_dec (fun b1 => ?_) (fun b1 => ?_)
      rotate_left
      · walk_at "sx"
        exact ⟨G6, n47, _, _, _, _, _, _, L, rfl, hF7, hL1, stay (by omega)⟩
      walk_at "sx"
      refine g_dec (fun b2 => ?_) (fun b2 => ?_)
      rotate_left
      · walk_at "sx"
        exact ⟨G6, n47, _, _, _, _, _, _, L, rfl, hF7, hL1, stay (by omega)⟩
      walk_at "sx"
      refine g_tyLs hF7 ?_
      walk_at "sx"
      refine g_lockKE hW7.1 fun od3 => ?_
      have eW : Ex G6 (L2.upd H7 A (.frz od3 (.dK (intK ws)))) := tl_lock hW7 u2.gh
      walk_at "sx"
      refine g_iKeys0 ?_
      walk_at "sx"
      refine g_keysK upd_same ?_
      intro B hB
      have hBA : B ≠ A := fun z => by rw [z, upd_same] at hB; cases hB
      obtain ⟨f4, hf4⟩ : ∃ f4 : Int × Int → Q4, f4 = fun e => (c.1, c.2, e.1, e.2) := ⟨_, rfl⟩
      refine g_lcR (M := []) (R' := fun G v z => Dp K G v (q4D z)) (es := fun i => ((ws.take i).filter fun e => decide (e.2 ≤ errors)).map f4) (fun _ _ _ _ e h => dp_mono e h) (src_tl (od := od3) upd_same (by simp)) eW hB (by simp) (szl (by omega)) (by simp) (fun j x acc G8 H8 hj ⟨f, hf, hx⟩ n8 _ QE QN k1 k2 => ?_) (fun G8 H8 n8 hr8 => ?_)
      · subst hx
        refine ⟨by first | rfl | exact wipe1, ?_⟩
        have hfA : L2.Rd H8 A (.dK (intK ws)) := .inr ⟨od3, n8.fr A _ (by simp) upd_same⟩
        have hfm : gtM ws f.1 = some f.2 := mem_gtM (by rw [hwk]; exact hTl.nd) (List.mem_of_getElem? hf)
        walk_at "sx"
        refine g_tlIx hfA hfm ?_
        walk_at "sx"
        refine g_dec (fun b3 => ?_) (fun b3 => ?_) <;> walk_at "sx"
        · refine g_tlIx hfA hfm ?_
          walk_at "sx"
          refine g_tupD (K := K) (ds := [.int c.1, .int c.2, .int f.1, .int f.2]) n8.gh (.cons (.int _) (.cons (.int _) (.cons (.int _) (.cons (.int _) .nil)))) (by show 4 ≤ sizeLine; decide) fun u G9 H9 n9 d9 => ?_
          refine k1 _ G9 H9 (f4 f) n9 (by rw [hf4]; exact d9) ?_
          rw [List.take_add_one, hf, List.filter_append, List.map_append]
          congr 1
          rw [Option.toList_some, List.filter_cons_of_pos (by simpa using b3)]
          rfl
        · refine k2 G8 H8 (Nx.refl n8.gh) ?_
          rw [List.take_add_one, hf, List.filter_append, List.map_append]
          rw [Option.toList_some, List.filter_cons_of_neg (by simpa using b3)]
          simp
      obtain ⟨t1, t2, t3⟩ := tl_unlock hW7 (by simp) n8
      refine ⟨t1, ?_⟩
      rw [List.take_length] at hr8
      have hr9 : LsR (fun G v z => Dp K G v (q4D z)) B G8 (L2.upd H8 A (.dK (intK ws))) ((ws.filter fun e => decide (e.2 ≤ errors)).map f4) := hr8.upd hBA.symm
      generalize L2.upd H8 A (.dK (intK ws)) = H9 at t2 t3 hr9
      have hF9 := hF7.go t2 (by simp)
      have hes : ∀ z : Q4, z ∈ (ws.filter fun e => decide (e.2 ≤ errors)).map f4 ↔ (z.1, z.2.1) = c ∧ FitM R reach errors least z := fun z => by
        rw [List.mem_map]
        constructor
        · rintro ⟨f, hf, rfl⟩
          rw [List.mem_filter, decide_eq_true_eq, hws, List.mem_map] at hf
          obtain ⟨⟨g, hg, rfl⟩, h2⟩ := hf
          obtain ⟨g1, g2⟩ := hTl.mem.mp (show (g.1, g.2) ∈ m from hg)
          have hcc := cost_cnt (rs := rowsAt R c) (x := g.1)
          rw [hf4]
          refine ⟨rfl, ⟨by show -reach ≤ c.1 ∧ c.1 ≤ reach; omega, by show -reach ≤ c.2 ∧ c.2 ≤ reach; omega, ?_, g1, ?_, h2⟩⟩
          · show least ≤ ((rowsAt R (c.1, c.2)).length : Int)
            rw [hN]
            exact b2
          · show N - g.2 = (costN (rowsAt R c) g.1 : Int)
            rw [← hN, g2]
            omega
        · rintro ⟨h1, h2⟩
          obtain ⟨z1, z2, z3, z4⟩ := z
          cases h1
          have hcc := cost_cnt (rs := rowsAt R (z1, z2)) (x := z3)
          have h3 := h2.wr
          have h4 := h2.er
          have h5 := h2.one
          change z4 = (costN (rowsAt R (z1, z2)) z3 : Int) at h3
          change z4 ≤ errors at h4
          change 0 < cntN (rowsAt R (z1, z2)) z3 at h5
          change ((rowsAt R (z1, z2)).length : Int) = N at hN
          refine ⟨(z3, z4), List.mem_filter.mpr ⟨?_, by simpa using h4⟩, by rw [hf4]⟩
          rw [hws]
          refine List.mem_map.mpr ⟨(z3, (cntN (rowsAt R (z1, z2)) z3 : Int)), hTl.mem.mpr ⟨h5, rfl⟩, ?_⟩
          rw [h3, ← hN]
          refine Prod.ext rfl ?_
          show ((rowsAt R (z1, z2)).length : Int) - (cntN (rowsAt R (z1, z2)) z3 : Int) = _
          show _ = (costN (rowsAt R (z1, z2)) z3 : Int)
          omega
      have hLl : L.length ≤ 144 * 144 := Nat.le_trans (fitM_len hL1 fun z hz => ((hL2 z).mp hz).1) hRl
      have hel2 := List.length_filter_le (fun e : Int × Int => decide (e.2 ≤ errors)) ws
      walk_at "sx"
      refine g_extLs t2.gh hF9 (lsr_lst hr9) (by rw [List.length_map, List.length_map, List.length_map]; omega) fun H10 n10 hF10 => ?_
      walk_at "sx"
      refine ⟨G8, (n47.trans t2.pure).trans n10, _, _, _, _, _, _, L ++ (ws.filter fun e => decide (e.2 ≤ errors)).map f4, rfl, by rw [List.map_append]; exact hF10, ?_, fun z => ?_⟩
      · refine List.nodup_append.mpr ⟨hL1, ?_, fun x hx y hy hxy => ?_⟩
        · refine (List.pairwise_map.mpr ((List.Pairwise.filter _ (List.pairwise_map.mp (show (ws.map (·.1)).Nodup by rw [hwk]; exact hTl.nd))).imp fun {x y} h => ?_))
          rw [hf4]
          intro z
          simp only [Prod.mk.injEq, true_and] at z
          exact h z.1
        · subst hxy
          exact hcn (by rw [← ((hes x).mp hy).1]; exact ((hL2 x).mp hx).2)
      · rw [List.mem_append, hL2, hes, htk, List.mem_append, List.mem_singleton]
        constructor
        · rintro (h | h)
          · exact ⟨h.1, .inl h.2⟩
          · exact ⟨h.2, .inr h.1⟩
        · rintro ⟨h1, h2 | h2⟩
          · exact .inl ⟨h1, h2⟩
          · exact .inr ⟨h2, h1⟩
    · rintro σ' G4 H4 n4 ⟨y6, y7, y8, y9, y10, y11, L, rfl, hF4, hL1, hL2⟩
      have e9 : ∀ z, z ∈ L ↔ FitM R reach errors least z := fun z => by
        rw [hL2, List.take_length]
        refine ⟨fun h => h.1, fun h => ⟨h, ?_⟩⟩
        rw [hT.1]
        obtain ⟨r, hr, _⟩ := cnt_pos.mp h.one
        unfold rowsAt at hr
        obtain ⟨f, hf, _⟩ := List.mem_map.mp hr
        rw [List.mem_filter, decide_eq_true_eq] at hf
        exact List.mem_map.mpr ⟨f, hf.1, hf.2⟩
      walk_at "sx"
      refine g_srt4 n4.gh hF4 fun p H6 n6 hp6 hL6 => ?_
      walk_at "sx"
      have n16 : Nx [fp] G H G4 H6 := ((n1.trans n12).pure.trans n4).trans n6.pure
      have hp : H p = none := ((n1.trans n12).pure.trans n4).fresh hp6
      exact q p _ G4 H6 (n16.drop hfp) hp (FitL.sort hL1 e9) hL6
theorem op_inD44 {X : Cx} {K : PySem.W.Frag} {k : Nat} (h : X.K = K) (hr : Room k X.A) : OpR X (compareOp .In) (rInD K) := h ▸ L2.op_inD (by have := hr.un; omega)
theorem lay_two {s1 s2 : Str} {r1 r2 : PyData} {dx dy l : Int} (h : s1 ≠ s2) : layAns [.tuple [.str s1, r1], .tuple [.str s2, r2]] [.tuple [.str s1, .str s2, .int dx, .int dy, .int l]] = .laid [(s1, (0, (0, 0, 0))), (s2, (0, (dx, dy, l)))] := by
  have h' : s2 ≠ s1 := fun z => h z.symm
  have hnm : ([.tuple [.str s1, r1], .tuple [.str s2, r2]] : List PyData).map nmOf = [s1, s2] := rfl
  obtain ⟨lk, hlk⟩ : ∃ lk : PyData, lk = .tuple [.str s1, .str s2, .int dx, .int dy, .int l] := ⟨_, rfl⟩
  have hA : lnA lk = s1 := by rw [hlk]; rfl
  have hB : lnB lk = s2 := by rw [hlk]; rfl
  have hb : ∀ p : Plc, behind p lk true = (p.1 + dx, p.2.1 + dy, p.2.2 + l) := fun p => by rw [hlk]; rfl
  have hb2 : ∀ p : Plc, behind p lk false = (p.1 - dx, p.2.1 - dy, p.2.2 - l) := fun p => by rw [hlk]; rfl
  have hnl : lkB [s1, s2] [lk] = [(0, lk)] := by
    unfold lkB num num
    rw [List.filter_cons_of_pos (by simp [hA, hB])]
    rfl
  have hs1 : stepsOf [(0, lk)] s1 = [(0, true, s2)] := by
    unfold stepsOf stepsL
    simp [hA, hB, h']
  have hs2 : stepsOf [(0, lk)] s2 = [(0, false, s1)] := by
    unfold stepsOf stepsL
    simp [hA, hB, h]
  have hat : lkAt [(0, lk)] 0 = lk := rfl
  have w1 : walkP [(0, lk)] s1 1 = [(s1, ([], (0, 0, 0))), (s2, ([(0, true)], (dx, dy, l)))] := by
    show proc _ (walkP _ _ 0) 0 = _
    unfold proc walkP
    simp only [List.getElem?_cons_zero, hs1, List.foldl_cons, List.foldl_nil]
    unfold visit
    simp [h', hat, hb]
  have w2 : walkP [(0, lk)] s1 2 = [(s1, ([], (0, 0, 0))), (s2, ([(0, true)], (dx, dy, l)))] := by
    show proc _ (walkP _ _ 1) 1 = _
    rw [w1]
    unfold proc
    simp only [List.getElem?_cons_succ, List.getElem?_cons_zero, hs2, List.foldl_cons, List.foldl_nil]
    unfold visit
    simp
  have v1 : walkP [(0, lk)] s2 1 = [(s2, ([], (0, 0, 0))), (s1, ([(0, false)], (-dx, -dy, -l)))] := by
    show proc _ (walkP _ _ 0) 0 = _
    unfold proc walkP
    simp only [List.getElem?_cons_zero, hs2, List.foldl_cons, List.foldl_nil]
    unfold visit
    simp [h, hat, hb2]
  have v2 : walkP [(0, lk)] s2 2 = [(s2, ([], (0, 0, 0))), (s1, ([(0, false)], (-dx, -dy, -l)))] := by
    show proc _ (walkP _ _ 1) 1 = _
    rw [v1]
    unfold proc
    simp only [List.getElem?_cons_succ, List.getElem?_cons_zero, hs1, List.foldl_cons, List.foldl_nil]
    unfold visit
    simp
  have W1 : walksOf [s1, s2] [(0, lk)] s1 = [(s1, ([], (0, 0, 0))), (s2, ([(0, true)], (dx, dy, l)))] := w2
  have W2 : walksOf [s1, s2] [(0, lk)] s2 = [(s2, ([], (0, 0, 0))), (s1, ([(0, false)], (-dx, -dy, -l)))] := v2
  have y11 : wyAt [(s1, (([] : Way), ((0, 0, 0) : Plc))), (s2, ([(0, true)], (dx, dy, l)))] s1 = ([], (0, 0, 0)) := by unfold wyAt; rw [gtM_cons, if_pos rfl]; rfl
  have y12 : wyAt [(s1, (([] : Way), ((0, 0, 0) : Plc))), (s2, ([(0, true)], (dx, dy, l)))] s2 = ([(0, true)], (dx, dy, l)) := by unfold wyAt; rw [gtM_cons, if_neg h, gtM_cons, if_pos rfl]; rfl
  have y22 : wyAt [(s2, (([] : Way), ((0, 0, 0) : Plc))), (s1, ([(0, false)], (-dx, -dy, -l)))] s2 = ([], (0, 0, 0)) := by unfold wyAt; rw [gtM_cons, if_pos rfl]; rfl
  have y21 : wyAt [(s2, (([] : Way), ((0, 0, 0) : Plc))), (s1, ([(0, false)], (-dx, -dy, -l)))] s1 = ([(0, false)], (-dx, -dy, -l)) := by unfold wyAt; rw [gtM_cons, if_neg h', gtM_cons, if_pos rfl]; rfl
  have hr1 : ringsFrom [s1, s2] [(0, lk)] s1 = [] := by
    unfold ringsFrom
    rw [W1, List.filterMap_cons]
    have : ringAt [(s1, (([] : Way), ((0, 0, 0) : Plc))), (s2, ([(0, true)], (dx, dy, l)))] (0, lk) = none := by
      unfold ringAt
      rw [if_neg]
      rw [hA, hB, y11, y12, hb]
      simp
    rw [this]
    rfl
  have hr2 : ringsFrom [s1, s2] [(0, lk)] s2 = [] := by
    unfold ringsFrom
    rw [W2, List.filterMap_cons]
    have : ringAt [(s2, (([] : Way), ((0, 0, 0) : Plc))), (s1, ([(0, false)], (-dx, -dy, -l)))] (0, lk) = none := by
      unfold ringAt
      rw [if_neg]
      rw [hA, hB, y21, y22, hb]
      simp
      omega
    rw [this]
    rfl
  have hk1 : keysOf [s1, s2] [(0, lk)] s1 = [s1, s2] := by
    unfold keysOf
    rw [W1]
    rfl
  have hg1 : grp [s1, s2] [(0, lk)] s1 = [s1, s2] := by
    unfold grp
    rw [hk1]
    simp
  have hk2 : keysOf [s1, s2] [(0, lk)] s2 = [s2, s1] := by
    unfold keysOf
    rw [W2]
    rfl
  have hg2 : grp [s1, s2] [(0, lk)] s2 = [s1, s2] := by
    unfold grp
    rw [hk2]
    simp
  have hgs : groupsOf [s1, s2] [(0, lk)] = [[s1, s2]] := by
    unfold groupsOf groupsFrom
    rw [if_neg (by simp), hg1, hk1]
    unfold groupsFrom
    rw [if_pos (by simp)]
    rfl
  have hpl : placeOf s1 [.tuple [.str s1, r1], .tuple [.str s2, r2]] = 0 := by
    unfold placeOf
    rw [List.findIdx_cons]
    have : nmOf (.tuple [.str s1, r1]) = s1 := rfl
    simp [this]
  rw [← hlk]
  unfold layAns
  rw [hnm, hnl, hgs]
  have hga : grpAns [.tuple [.str s1, r1], .tuple [.str s2, r2]] [lk] [s1, s2] = .laid [(s1, (0, (0, 0, 0))), (s2, (0, (dx, dy, l)))] := by
    unfold grpAns ansOf
    have hra : ringsAll [s1, s2] [(0, lk)] = [] := by
      unfold ringsAll
      simp [hr1, hr2]
    have hh : ([s1, s2] : List Str).headD "" = s1 := rfl
    rw [hnl, hra, hh, hpl, W1]
    show Ans.laid [(s1, _, (wyAt _ s1).2), (s2, _, (wyAt _ s2).2)] = _
    rw [y11, y12]
    rfl
  show joinAns [s1, s2] [grpAns _ _ _] _ = _
  rw [hga]
  unfold joinAns
  show Ans.laid [(s1, plOf _ _ s1), (s2, plOf _ _ s2)] = _
  have hh : ([s1, s2] : List Str).headD "" = s1 := rfl
  have p1 : plOf [.tuple [.str s1, r1], .tuple [.str s2, r2]] [lk] s1 = (0, (0, 0, 0)) := by
    unfold plOf
    simp only [hnm, hnl, hg1, hh, hpl, W1, y11]
    rfl
  have p2 : plOf [.tuple [.str s1, r1], .tuple [.str s2, r2]] [lk] s2 = (0, (dx, dy, l)) := by
    unfold plOf
    simp only [hnm, hnl, hg2, hh, hpl, W1, y12]
    rfl
  rw [p1, p2]
abbrev P3 := Int × Int × Int
def p3D (p : P3) : PyData := .tuple [.int p.1, .int p.2.1, .int p.2.2]
/-- what the draws of the truth give -/
structure TF (t : Int → Int → Int) (P : Bool → P3) (s1 s2 : Str) : Prop where
  ht : ∀ x y, 0 ≤ x → x ≤ 10 → 0 ≤ y → y ≤ 10 → 200 ≤ t x y ∧ t x y ≤ 209
  hP : ∀ b, (0 ≤ (P b).1 ∧ (P b).1 ≤ 6) ∧ (0 ≤ (P b).2.1 ∧ (P b).2.1 ≤ 6) ∧ -4 ≤ (P b).2.2 ∧ (P b).2.2 ≤ 4
  ne : s1 ≠ s2
  n1 : nameOk s1 = true
  n2 : nameOk s2 = true
structure T44 (K : PySem.W.Frag) (pl td np pp : Addr) (s1 s2 : Str) (t : Int → Int → Int) (P : Bool → P3) (G H : Hp) : Prop where
  ex : Y.Ex G H
  hp : PoolAt K pl G H
  hT : ∃ m, PicAt td G H m ∧ ∀ x y, 0 ≤ x → x ≤ 10 → 0 ≤ y → y ≤ 10 → gtM m (x, y) = some (t x y)
  hN : LstAt K np G H [.str s1, .str s2]
  hP : LstAt K pp G H [p3D (P false), p3D (P true)]
  ne : td ≠ pl ∧ np ≠ pl ∧ pp ≠ pl
section
variable {K : PySem.W.Frag} {pl td np pp : Addr} {s1 s2 : Str} {t : Int → Int → Int} {P : Bool → P3} {G H G' H' : Hp} {M : List Addr}
theorem T44.goM (W : T44 K pl td np pp s1 s2 t P G H) (n : Nx M G H G' H') (hp : PoolAt K pl G' H') (h1 : td ∉ M) (h2 : np ∉ M) (h3 : pp ∉ M) : T44 K pl td np pp s1 s2 t P G' H' := by
  obtain ⟨m, hm, ht⟩ := W.hT
  exact ⟨n.gh, hp, ⟨m, hm.go n h1, ht⟩, W.hN.go n h2, W.hP.go n h3, W.ne⟩
theorem T44.go (W : T44 K pl td np pp s1 s2 t P G H) (n : Nx [] G H G' H') : T44 K pl td np pp s1 s2 t P G' H' := W.goM n (W.hp.go n (by simp)) (by simp) (by simp) (by simp)
theorem T44.take (W : T44 K pl td np pp s1 s2 t P G H) (n : Nx [pl] G H G' H') (hp : PoolAt K pl G' H') : T44 K pl td np pp s1 s2 t P G' H' := W.goM n hp (by simpa using W.ne.1) (by simpa using W.ne.2.1) (by simpa using W.ne.2.2)
end
/-! a grid that changes: a list of rows, each a list of its own -/
structure Grid (K : PySem.W.Frag) (a : Addr) (G H : Hp) (A : List Addr) (L : List (List PyData)) : Prop where
  at_ : H a = some (.lst (A.map V.ref))
  un : G a = none
  len : A.length = L.length
  el : ∀ (i : Nat) r l, A[i]? = some r → L[i]? = some l → LstAt K r G H l
section
variable {K : PySem.W.Frag} {G H G' H' : Hp} {M A : List Addr} {a : Addr} {L : List (List PyData)}
theorem Grid.go (g : Grid K a G H A L) (n : Nx M G H G' H') (h1 : a ∉ M) (h2 : ∀ r ∈ A, r ∉ M) : Grid K a G' H' A L :=
  ⟨n.fr a _ h1 g.at_, n.old a g.un ⟨_, g.at_, fun _ z => nomatch z⟩, g.len, fun i r l hr hl => (g.el i r l hr hl).go n (h2 r (List.mem_of_getElem? hr))⟩
theorem Grid.live (g : Grid K a G H A L) : H a ≠ none := by rw [g.at_]; exact fun z => nomatch z
theorem Grid.rlive (g : Grid K a G H A L) : ∀ r ∈ A, H r ≠ none := fun r hr => by
  obtain ⟨i, hi⟩ := List.getElem?_of_mem hr
  have hil := (List.getElem?_eq_some_iff.mp hi).1
  exact (g.el i r (L[i]'(by rw [← g.len]; exact hil)) hi (List.getElem?_eq_getElem (by rw [← g.len]; exact hil))).live
theorem Grid.snoc {r : Addr} {l : List PyData} (g : Grid K a G H A L) (hr : LstAt K r G H l) (e : Ex G H) (hra : r ≠ a) (hA : ∀ x ∈ A, x ≠ a) : Nx [a] G H G (L2.upd H a (.lst (A.map V.ref ++ [V.ref r]))) ∧ Grid K a G (L2.upd H a (.lst (A.map V.ref ++ [V.ref r]))) (A ++ [r]) (L ++ [l]) := by
  have n : Nx [a] G H G (L2.upd H a (.lst (A.map V.ref ++ [V.ref r]))) := Nx.set e g.un (by simp)
  refine ⟨n, ⟨by rw [upd_same, List.map_append]; rfl, g.un, by rw [List.length_append, List.length_append, g.len]; rfl, fun i r' l' h1 h2 => ?_⟩⟩
  by_cases hi : i < A.length
  · rw [List.getElem?_append_left hi] at h1
    rw [List.getElem?_append_left (by rw [← g.len]; exact hi)] at h2
    exact (g.el i r' l' h1 h2).go n (by simpa using hA r' (List.mem_of_getElem? h1))
  · have hil := (List.getElem?_eq_some_iff.mp h1).1
    rw [List.length_append, List.length_singleton] at hil
    have e1 : i = A.length := by omega
    subst e1
    rw [List.getElem?_append_right (Nat.le_refl _), Nat.sub_self] at h1
    rw [List.getElem?_append_right (by rw [g.len]; exact Nat.le_refl _), g.len, Nat.sub_self] at h2
    cases h1
    cases h2
    exact hr.go n (by simpa using hra)
end
def rowF (t : Int → Int → Int) (p : P3) (w y : Nat) : List PyData := (List.range w).map fun (x : Nat) => PyData.int (t (p.1 + (x : Int)) (p.2.1 + (y : Int)) + p.2.2)
def gridF (t : Int → Int → Int) (p : P3) (w h : Nat) : List (List PyData) := (List.range h).map (rowF t p w)
structure V44 (K : PySem.W.Frag) (vp : Addr) (a : Bool → Addr) (A : Bool → List Addr) (L : Bool → List (List PyData)) (w : Bool → Nat) (G H : Hp) : Prop where
  at_ : H vp = some (.lst [.ref (a false), .ref (a true)])
  un : G vp = none
  gr : ∀ b, Grid K (a b) G H (A b) (L b)
  dim : ∀ b, (2 ≤ (L b).length ∧ (L b).length ≤ 5) ∧ (2 ≤ w b ∧ w b ≤ 5) ∧ ∀ l ∈ L b, l.length = w b ∧ l.all isRd = true
structure D44 (pl td np pp vp : Addr) (a : Bool → Addr) (A : Bool → List Addr) : Prop where
  nd : ∀ b b' (i j : Nat) r, (A b)[i]? = some r → (A b')[j]? = some r → b = b' ∧ i = j
  out : ∀ b, ∀ r ∈ A b, r ≠ vp ∧ (∀ b', r ≠ a b') ∧ r ≠ pl ∧ r ≠ td ∧ r ≠ np ∧ r ≠ pp
  vpl : vp ≠ pl
  apl : ∀ b, a b ≠ pl
theorem nodup_idx {l : List Addr} {i j : Nat} {r : Addr} (h : l.Nodup) (h1 : l[i]? = some r) (h2 : l[j]? = some r) : i = j := by
  obtain ⟨a1, b1⟩ := List.getElem?_eq_some_iff.mp h1
  obtain ⟨a2, b2⟩ := List.getElem?_eq_some_iff.mp h2
  exact (List.getElem_inj h).mp (b1.trans b2.symm)
theorem grid_ok {t : Int → Int → Int} {P : Bool → P3} {s1 s2 : Str} {b : Bool} {w h : Nat} {l : List PyData} (F : TF t P s1 s2) (hl : l ∈ gridF t (P b) w h) (hw : 2 ≤ w ∧ w ≤ 5) (hh : 2 ≤ h ∧ h ≤ 5) : l.length = w ∧ l.all isRd = true := by
  unfold gridF at hl
  obtain ⟨y, hy, rfl⟩ := List.mem_map.mp hl
  rw [List.mem_range] at hy
  unfold rowF
  refine ⟨by simp, List.all_eq_true.mpr fun d hd => ?_⟩
  obtain ⟨x, hx, rfl⟩ := List.mem_map.mp hd
  rw [List.mem_range] at hx
  have := F.hP b
  have := F.ht ((P b).1 + (x : Int)) ((P b).2.1 + (y : Int)) (by omega) (by omega) (by omega) (by omega)
  exact decide_eq_true ⟨by omega, by omega⟩
section
variable {K : PySem.W.Frag} {pl td np pp vp : Addr} {a : Bool → Addr} {A : Bool → List Addr} {L : Bool → List (List PyData)} {w : Bool → Nat} {G H G' H' : Hp} {M : List Addr}
theorem V44.goM (V : V44 K vp a A L w G H) (n : Nx M G H G' H') (h1 : vp ∉ M) (h2 : ∀ b, a b ∉ M) (h3 : ∀ b, ∀ r ∈ A b, r ∉ M) : V44 K vp a A L w G' H' :=
  ⟨n.fr vp _ h1 V.at_, n.old vp V.un ⟨_, V.at_, fun _ z => nomatch z⟩, fun b => (V.gr b).go n (h2 b) (h3 b), V.dim⟩
theorem V44.go (V : V44 K vp a A L w G H) (n : Nx [] G H G' H') : V44 K vp a A L w G' H' := V.goM n (by simp) (fun _ => by simp) (fun _ _ _ => by simp)
theorem V44.take (V : V44 K vp a A L w G H) (Dd : D44 pl td np pp vp a A) (n : Nx [pl] G H G' H') : V44 K vp a A L w G' H' :=
  V.goM n (by simpa using Dd.vpl) (fun b => by simpa using Dd.apl b) (fun b r hr => by simpa using (Dd.out b r hr).2.2.1)
def putR (L : Bool → List (List PyData)) (b : Bool) (y : Nat) (l : List PyData) : Bool → List (List PyData) := fun b' => if b' = b then (L b).set y l else L b'
theorem V44.put (V : V44 K vp a A L w G H) (Dd : D44 pl td np pp vp a A) {b : Bool} {y : Nat} {r : Addr} {l : List PyData} (hr : (A b)[y]? = some r) (n : Nx [r] G H G' H') (hl : LstAt K r G' H' l) (h1 : l.length = w b) (h2 : l.all isRd = true) : V44 K vp a A (putR L b y l) w G' H' := by
  have hrm := List.mem_of_getElem? hr
  obtain ⟨o1, o2, _⟩ := Dd.out b r hrm
  refine ⟨n.fr vp _ (by simpa using o1.symm) V.at_, n.old vp V.un ⟨_, V.at_, fun _ z => nomatch z⟩, fun b' => ?_, fun b' => ?_⟩
  · have g := V.gr b'
    have hab : a b' ∉ [r] := by simpa using (o2 b').symm
    by_cases hb : b' = b
    · subst hb
      have e : putR L b' y l b' = (L b').set y l := if_pos rfl
      rw [e]
      refine ⟨n.fr _ _ hab g.at_, n.old _ g.un ⟨_, g.at_, fun _ z => nomatch z⟩, by rw [List.length_set]; exact g.len, fun i r' l' hi hli => ?_⟩
      by_cases hiy : i = y
      · subst hiy
        rw [hr] at hi
        cases hi
        have hil := (List.getElem?_eq_some_iff.mp hli).1
        rw [List.length_set] at hil
        rw [List.getElem?_set_self hil] at hli
        cases hli
        exact hl
      · rw [List.getElem?_set_ne (fun z => hiy z.symm)] at hli
        refine (g.el i r' l' hi hli).go n ?_
        rw [List.mem_singleton]
        rintro rfl
        exact hiy (Dd.nd b' b' i y _ hi hr).2
    · have e : putR L b y l b' = L b' := if_neg hb
      rw [e]
      refine g.go n hab fun r' hr' => ?_
      rw [List.mem_singleton]
      rintro rfl
      obtain ⟨i, hi⟩ := List.getElem?_of_mem hr'
      exact hb (Dd.nd b' b i y _ hi hr).1
  · obtain ⟨d1, d2, d3⟩ := V.dim b'
    by_cases hb : b' = b
    · subst hb
      have e : putR L b' y l b' = (L b').set y l := if_pos rfl
      rw [e]
      refine ⟨by rw [List.length_set]; exact d1, d2, fun x hx => ?_⟩
      rcases List.mem_or_eq_of_mem_set hx with h | h
      · exact d3 x h
      · rw [h]; exact ⟨h1, h2⟩
    · have e : putR L b y l b' = L b' := if_neg hb
      rw [e]
      exact ⟨d1, d2, d3⟩
end
def cellAt (L : List (List PyData)) (y x : Nat) : Option PyData := (L[y]?).bind fun l => l[x]?
theorem cell_put {L : Bool → List (List PyData)} {b b' : Bool} {y x y' x' : Nat} {l : List PyData} {d : PyData} (hl : (L b)[y]? = some l) (h : (b', y', x') ≠ (b, y, x)) : cellAt (putR L b y (l.set x d) b') y' x' = cellAt (L b') y' x' := by
  unfold putR
  by_cases hb : b' = b
  · subst hb
    rw [if_pos rfl]
    unfold cellAt
    by_cases hy : y' = y
    · subst hy
      have hyl := (List.getElem?_eq_some_iff.mp hl).1
      rw [List.getElem?_set_self hyl, hl]
      show (l.set x d)[x']? = l[x']?
      rw [List.getElem?_set_ne]
      rintro rfl
      exact h rfl
    · rw [List.getElem?_set_ne (fun z => hy z.symm)]
  · rw [if_neg hb]
/-- what the views show in the end: of the right width, and changed in at most two places -/
structure S44 (t : Int → Int → Int) (P : Bool → P3) (L : Bool → List (List PyData)) (w h : Bool → Nat) (C : List (Bool × Nat × Nat)) : Prop where
  dim : ∀ b, (2 ≤ (L b).length ∧ (L b).length ≤ 5) ∧ (2 ≤ w b ∧ w b ≤ 5) ∧ ∀ l ∈ L b, l.length = w b ∧ l.all isRd = true
  cl : C.length ≤ 2
  or : ∀ b y x, (b, y, x) ∉ C → cellAt (L b) y x = cellAt (gridF t (P b) (w b) (h b)) y x
theorem pr_refs {H : Hp} : ∀ {A : List Addr}, PySem.Paired ((fun (_ : Hp) (v : V) (r : Addr) => v = V.ref r) H) (A.map V.ref) A
  | [] => .nil
  | _ :: _ => .cons rfl (pr_refs (H := H))
theorem S44.ok {t : Int → Int → Int} {P : Bool → P3} {L : Bool → List (List PyData)} {w h : Bool → Nat} {C : List (Bool × Nat × Nat)} (S : S44 t P L w h C) (b : Bool) : rowsOk (.tuple ((L b).map .tuple)) = true := by
  obtain ⟨d1, d2, d3⟩ := S.dim b
  refine rowsOk_of (w := w b) (by rw [List.length_map]; omega) (by rw [List.length_map]; omega) (by omega) (by omega) fun d hd => ?_
  obtain ⟨cs, hcs, rfl⟩ := List.mem_map.mp hd
  exact ⟨cs, rfl, d3 cs hcs⟩
/-- how many are shared, how many of these are wrong -/
def cntO (Fo : Rd3 → Option Rd3) (l : List Rd3) : Int := ((l.filterMap Fo).length : Int)
def cntW (Fo : Rd3 → Option Rd3) (lt : Int) (l : List Rd3) : Int := (((l.filterMap Fo).filter fun t => decide (t.2.2 ≠ lt)).length : Int)
theorem cell_some {L : List (List PyData)} {y x : Nat} {d : PyData} : (∃ r, (L.map PyData.tuple)[y]? = some (.tuple r) ∧ r[x]? = some d) ↔ cellAt L y x = some d := by
  unfold cellAt
  rw [List.getElem?_map]
  cases h : L[y]? with
  | none => simp
  | some l => simp
theorem grid_cell {t : Int → Int → Int} {p : P3} {w h y x : Nat} {d : PyData} (e : cellAt (gridF t p w h) y x = some d) : d = .int (t (p.1 + (x : Int)) (p.2.1 + (y : Int)) + p.2.2) := by
  unfold cellAt at e
  obtain ⟨l, h1, h2⟩ := Option.bind_eq_some_iff.mp e
  unfold gridF at h1
  rw [List.getElem?_map] at h1
  obtain ⟨y', hy, rfl⟩ := Option.map_eq_some_iff.mp h1
  have hy2 := (List.getElem?_eq_some_iff.mp hy)
  obtain ⟨hy3, hy4⟩ := hy2
  rw [List.getElem_range] at hy4
  subst hy4
  unfold rowF at h2
  rw [List.getElem?_map] at h2
  obtain ⟨x', hx, rfl⟩ := Option.map_eq_some_iff.mp h2
  obtain ⟨hx3, hx4⟩ := (List.getElem?_eq_some_iff.mp hx)
  rw [List.getElem_range] at hx4
  subst hx4
  rfl
theorem fm_keys {Fo : Rd3 → Option Rd3} (hF : ∀ a b, Fo a = some b → b.1 = a.1 ∧ b.2.1 = a.2.1) : ∀ l : List Rd3, List.Sublist ((l.filterMap Fo).map fun t => (t.1, t.2.1)) (l.map fun t => (t.1, t.2.1))
  | [] => List.Sublist.refl _
  | a :: l => by
    have ih := fm_keys hF l
    rw [List.filterMap_cons]
    cases h : Fo a with
    | none => exact ih.cons _
    | some b =>
      obtain ⟨h1, h2⟩ := hF a b h
      show List.Sublist ((b.1, b.2.1) :: _) ((a.1, a.2.1) :: _)
      rw [h1, h2]
      exact ih.cons_cons _
theorem ovF_keys {m : CI} {dx dy : Int} : ∀ a b, ovF m dx dy a = some b → b.1 = a.1 ∧ b.2.1 = a.2.1 := fun a b h => by
  unfold ovF at h
  obtain ⟨r, _, rfl⟩ := Option.map_eq_some_iff.mp h
  exact ⟨rfl, rfl⟩
theorem rdC_mem {rs : List PyData} {x y v : Int} (h3 : ∀ d ∈ rs, rowOk d = true) (h : gtM (rdC rs) (x, y) = some v) : ∃ (i : Nat) (r : List PyData) (j : Nat), rs[i]? = some (.tuple r) ∧ r[j]? = some (.int v) ∧ x = (j : Int) ∧ y = (i : Int) := by
  have := gtM_mem h
  unfold rdC at this
  obtain ⟨t, ht, e⟩ := List.mem_map.mp this
  obtain ⟨i, r, j, v', h1, h2, rfl⟩ := (mem_rdl h3).mp ht
  simp only [Prod.mk.injEq, Nat.zero_add] at e
  obtain ⟨⟨rfl, rfl⟩, rfl⟩ := e
  exact ⟨i, r, j, h1, h2, rfl, rfl⟩
/-- no more are wrong than were changed -/
theorem wrong_le {t : Int → Int → Int} {P : Bool → P3} {L : Bool → List (List PyData)} {w h : Bool → Nat} {C : List (Bool × Nat × Nat)} (S : S44 t P L w h C) : cntW (ovF (rdC ((L false).map .tuple)) ((P true).1 - (P false).1) ((P true).2.1 - (P false).2.1)) ((P true).2.2 - (P false).2.2) (rdl 0 ((L true).map .tuple)) ≤ 2 := by
  have a3 := (rows_inv (S.ok false)).2.2.1
  have b3 := (rows_inv (S.ok true)).2.2.1
  obtain ⟨dx, hdx⟩ : ∃ dx, (P true).1 - (P false).1 = dx := ⟨_, rfl⟩
  obtain ⟨dy, hdy⟩ : ∃ dy, (P true).2.1 - (P false).2.1 = dy := ⟨_, rfl⟩
  obtain ⟨lt, hlt⟩ : ∃ lt, (P true).2.2 - (P false).2.2 = lt := ⟨_, rfl⟩
  rw [hdx, hdy, hlt]
  unfold cntW
  obtain ⟨Ws, hWs⟩ : ∃ Ws, ((rdl 0 ((L true).map PyData.tuple)).filterMap (ovF (rdC ((L false).map .tuple)) dx dy)).filter (fun t => decide (t.2.2 ≠ lt)) = Ws := ⟨_, rfl⟩
  rw [hWs]
  have hk : (Ws.map fun t => (t.1, t.2.1)).Nodup := by
    rw [← hWs]
    exact List.Nodup.sublist ((List.filter_sublist.map _).trans (fm_keys ovF_keys _)) (rdl_nd b3)
  have hf : ∀ e ∈ Ws, (0 ≤ e.1 ∧ 0 ≤ e.2.1 ∧ 0 ≤ e.1 + dx ∧ 0 ≤ e.2.1 + dy) ∧ ((true, e.2.1.toNat, e.1.toNat) ∈ C ∨ (false, (e.2.1 + dy).toNat, (e.1 + dx).toNat) ∈ C) := fun e he => by
    rw [← hWs, List.mem_filter, decide_eq_true_eq] at he
    obtain ⟨he, hne⟩ := he
    obtain ⟨e0, h0, h1⟩ := List.mem_filterMap.mp he
    obtain ⟨i, r, j, v, q1, q2, rfl⟩ := (mem_rdl b3).mp h0
    unfold ovF at h1
    obtain ⟨u, hu, rfl⟩ := Option.map_eq_some_iff.mp h1
    obtain ⟨i', r', j', q3, q4, q5, q6⟩ := rdC_mem a3 hu
    simp only [Nat.zero_add] at q5 q6 hne ⊢
    refine ⟨⟨by omega, by omega, by omega, by omega⟩, ?_⟩
    rw [show ((i : Int)).toNat = i by omega, show ((j : Int)).toNat = j by omega, show ((i : Int) + dy).toNat = i' by omega, show ((j : Int) + dx).toNat = j' by omega]
    by_cases c1 : (true, i, j) ∈ C
    · exact .inl c1
    by_cases c2 : (false, i', j') ∈ C
    · exact .inr c2
    exfalso
    have g1 := cell_some.mp ⟨r, q1, q2⟩
    have g2 := cell_some.mp ⟨r', q3, q4⟩
    rw [S.or true i j c1] at g1
    rw [S.or false i' j' c2] at g2
    have k1 := grid_cell g1
    have k2 := grid_cell g2
    injection k1 with k1
    injection k2 with k2
    have m1 : (P true).1 + (j : Int) = (P false).1 + (j' : Int) := by omega
    have m2 : (P true).2.1 + (i : Int) = (P false).2.1 + (i' : Int) := by omega
    rw [m1, m2] at k1
    omega
  obtain ⟨φ, hφ⟩ : ∃ φ : Rd3 → Bool × Nat × Nat, φ = fun e => if (true, e.2.1.toNat, e.1.toNat) ∈ C then (true, e.2.1.toNat, e.1.toNat) else (false, (e.2.1 + dy).toNat, (e.1 + dx).toNat) := ⟨_, rfl⟩
  have hn : (Ws.map φ).Nodup := by
    refine List.pairwise_map.mpr (List.Pairwise.imp_of_mem ?_ (List.pairwise_map.mp hk))
    intro a b ha hb hab z
    refine hab ?_
    have fa := (hf a ha).1
    have fb := (hf b hb).1
    rw [hφ] at z
    by_cases ca : (true, a.2.1.toNat, a.1.toNat) ∈ C <;> by_cases cb : (true, b.2.1.toNat, b.1.toNat) ∈ C
    · simp only [if_pos ca, if_pos cb, Prod.mk.injEq, true_and] at z
      exact Prod.ext (by show a.1 = b.1; omega) (by show a.2.1 = b.2.1; omega)
    · simp [if_pos ca, if_neg cb] at z
    · simp [if_neg ca, if_pos cb] at z
    · simp only [if_neg ca, if_neg cb, Prod.mk.injEq, true_and] at z
      exact Prod.ext (by show a.1 = b.1; omega) (by show a.2.1 = b.2.1; omega)
  have hl := hn.length_le_of_subset (l₂ := C) fun x hx => by
    obtain ⟨e, he, rfl⟩ := List.mem_map.mp hx
    rw [hφ]
    by_cases ca : (true, e.2.1.toNat, e.1.toNat) ∈ C
    · simp only [if_pos ca]; exact ca
    · simp only [if_neg ca]
      exact (hf e he).2.resolve_left ca
  rw [List.length_map] at hl
  have := S.cl
  omega
theorem costN_ints44 {rs : Rws} {x : Int} : ((rs.map (·.2)).filter fun n => decide (n ≠ x)).length = costN rs x := by
  unfold costN
  rw [List.filter_map, List.length_map]
  rfl
/-- the true shift fits just where three readings are shared -/
theorem fit_true {t : Int → Int → Int} {P : Bool → P3} {s1 s2 : Str} {L : Bool → List (List PyData)} {w h : Bool → Nat} {C : List (Bool × Nat × Nat)} (F : TF t P s1 s2) (S : S44 t P L w h C) {rs1 rs2 : List PyData} (h1 : (L false).map .tuple = rs1) (h2 : (L true).map .tuple = rs2) {dx dy lt : Int} (hdx : (P true).1 - (P false).1 = dx) (hdy : (P true).2.1 - (P false).2.1 = dy) (hlt : (P true).2.2 - (P false).2.2 = lt) {Lf : List Q4} (hF : FitL (prR (rdl 0 rs1) (rdl 0 rs2)) 6 2 3 Lf) :
    (dx, dy, lt, cntW (ovF (rdC rs1) dx dy) lt (rdl 0 rs2)) ∈ Lf ↔ 3 ≤ cntO (ovF (rdC rs1) dx dy) (rdl 0 rs2) := by
  have hw := wrong_le S
  rw [h1, h2, hdx, hdy, hlt] at hw
  have a3 : ∀ d ∈ rs1, rowOk d = true := h1 ▸ (rows_inv (S.ok false)).2.2.1
  have hp := ovs_perm (rs1 := rs1) (rs2 := rs2) (dx := dx) (dy := dy) a3
  have hN : cntO (ovF (rdC rs1) dx dy) (rdl 0 rs2) = ((rowsAt (prR (rdl 0 rs1) (rdl 0 rs2)) (dx, dy)).length : Int) := by
    have := hp.length_eq
    rw [List.length_map, List.length_map] at this
    unfold cntO
    unfold ovs at this
    rw [this]
  have hW : cntW (ovF (rdC rs1) dx dy) lt (rdl 0 rs2) = (costN (rowsAt (prR (rdl 0 rs1) (rdl 0 rs2)) (dx, dy)) lt : Int) := by
    have := (hp.filter fun n => decide (n ≠ lt)).length_eq
    rw [costN_ints44, List.filter_map, List.length_map] at this
    unfold cntW
    unfold ovs at this
    rw [← this]
    rfl
  have hc := cost_cnt (rs := rowsAt (prR (rdl 0 rs1) (rdl 0 rs2)) (dx, dy)) (x := lt)
  have b0 := F.hP false
  have b1 := F.hP true
  rw [hF.mem, hN]
  rw [hW] at hw ⊢
  constructor
  · exact fun h => h.many
  · intro h
    refine ⟨⟨by show -6 ≤ dx; omega, by show dx ≤ 6; omega⟩, ⟨by show -6 ≤ dy; omega, by show dy ≤ 6; omega⟩, h, ?_, rfl, hw⟩
    show 0 < cntN (rowsAt (prR (rdl 0 rs1) (rdl 0 rs2)) (dx, dy)) lt
    omega
theorem g_neBB44 {H : Hp} {Q : VK} {a b : Bool} (h : a = b) (q : Q (.bl false) H) : rNe (.bl a) (.bl b) H Q := ⟨rfl, by rw [h]; simpa using q⟩
theorem eqv_q44 {a b : Q4} : PyData.eqv (q4D a) (q4D b) = decide (a = b) := by
  obtain ⟨a1, a2, a3, a4⟩ := a
  obtain ⟨b1, b2, b3, b4⟩ := b
  unfold q4D
  by_cases h1 : a1 = b1 <;> by_cases h2 : a2 = b2 <;> by_cases h3 : a3 = b3 <;> by_cases h4 : a4 = b4 <;> simp [PyData.eqv, PyData.eqvAll, h1, h2, h3, h4]
theorem fit_q44 {z : Q4} : fit (q4D z) = true := fit_tuple (by show 4 ≤ 100000; decide) fun d hd => by
  simp only [List.mem_cons, List.not_mem_nil, or_false] at hd
  rcases hd with rfl | rfl | rfl | rfl <;> rfl
theorem depth_q44 {z : Q4} : (q4D z).depth ≤ 1 := by simp [PyData.depth, PyData.depthAll, q4D]
theorem shaped_q44s {L : List Q4} (h : L.length ≤ 100000) : SeqAt.shaped (.list (L.map q4D)) = true :=
  shaped_fit (fit_list (by rw [List.length_map]; exact h) fun d hd => by
    obtain ⟨z, _, rfl⟩ := List.mem_map.mp hd
    exact fit_q44) (Nat.le_trans (depth_lst (n := 1) fun d hd => by
    obtain ⟨z, _, rfl⟩ := List.mem_map.mp hd
    exact depth_q44) (by decide))
def sp_law (K : PySem.W.Frag) : Sp := fun vs H Q _ => ∃ (G : Hp) (a : Addr) (ns : List Int), vs = [.ref a] ∧ Y.Ex G H ∧ SqL K G a (ns.map V.int) ∧ ∀ H', Q (.bl true) H'
theorem rest4_law (T : Tx fa fn bx K mg) {cdv : Value} {A : Around} {outer : List Env} {s : Shared} {H : Hp} {E : XK} (hr : Room 7 (A.deeper (envOfC "law" (defScope s_law) s.heap.objs.size (He.ga K "law") cdv))) : ∃ t, PSs (cxOf CX0 P w K mg base ["script", "pool", "truth", "k", "names", "places", "views", "one", "two", "moves", "shared", "wrong", "y", "fit", "found", "album", "due", "width", "height", "rows", "row", "x", "j", "right", "below"] "law" (defScope s_law) (He.ga K "law") cdv A outer s H E).nox ((defBody s_law).drop 14) t ∧ ∀ (D : Ends), ∀ (s0 pl td np pp vp : Addr) (s1 s2 : Str) (t0 : Int → Int → Int) (P : Bool → P3) (L : Bool → List (List PyData)) (w0 h0 : Bool → Nat) (C : List (Bool × Nat × Nat)) (v1 v2 : V) (B : Addr) (y3 y12 y17 y18 y19 y20 y21 y23 y24 : Option V) (G H : Hp), T44 K pl td np pp s1 s2 t0 P G H → TF t0 P s1 s2 → S44 t0 P L w0 h0 C → Dp K G v1 (.tuple [.str s1, .tuple ((L false).map .tuple)]) → Dp K G v2 (.tuple [.str s2, .tuple ((L true).map .tuple)]) → LstAt K B G H [.int ((P true).1 - (P false).1), .int ((P true).2.1 - (P false).2.1), .int ((P true).2.2 - (P false).2.2)] → B ≠ pl → (∀ H', D.rt (.bl true) H') →
  t D [some (.ref s0), some (.ref pl), some (.ref td), y3, some (.ref np), some (.ref pp), some (.ref vp), some v1, some v2, some (.ref B), some (.int (cntO (ovF (rdC ((L false).map .tuple)) ((P true).1 - (P false).1) ((P true).2.1 - (P false).2.1)) (rdl 0 ((L true).map .tuple)))), some (.int (cntW (ovF (rdC ((L false).map .tuple)) ((P true).1 - (P false).1) ((P true).2.1 - (P false).2.1)) ((P true).2.2 - (P false).2.2) (rdl 0 ((L true).map .tuple)))), y12, none, none, none, none, y17, y18, y19, y20, y21, none, y23, y24] H := by
    refine ⟨_, ((pss_cons (ps_set (i := 13) sc_law.nd rfl (Or.inl rfl) (pe_tup (pa_cons (pe_ix (Y.ix_listK (K := K) rfl) (pv 9) pe_int (fun _ _ => rfl)) (pa_cons (pe_ix (Y.ix_listK (K := K) rfl) (pv 9) pe_int (fun _ _ => rfl)) (pa_cons (pe_ix (Y.ix_listK (K := K) rfl) (pv 9) pe_int (fun _ _ => rfl)) (pa_cons (pv 11) pa_nil))))))
      (pss_cons (ps_set (i := 14) sc_law.nd rfl (Or.inl rfl) (Y.pe_callNS (ok_fits T) (hr.mono (by decide)) (by rfl) (calk_fits T).1 (calk_fits T).2 (kb_fits T) (fun σ => passAt takes0 σ) (pa_cons (pv 7) (pa_cons (pv 8) pa_nil)) (pk_cons pe_int (pk_cons pe_int (pk_cons pe_int pk_nil)))))
      (pss_cons (ps_if (pt_cmpR op_ne (pe_cmpR (op_inD44 (K := K) rfl hr) (pv 13) (pv 14) (by rfl)) (pe_cmpR op_ge (pv 10) pe_int (nomark _)) (nomark _))
      (pss_one (ps_ret pe_bl))
      pss_nil)
      (pss_cons (ps_set (i := 15) sc_law.nd rfl (Or.inl rfl) (pe_make0 (T.mkr 36) (ok_Album___init__ T) (hr.mono (by decide)) rfl (T.glo 37) (cal_Album___init__ T).b .nil pass0))
      (pss_cons (ps_expr (Y.pe_methCS (pv 15) (T.cls 20) (T.meth 38) (ok_Album_add_view T) (hr.mono (by decide)) (cal_Album_add_view T) (fun σ => passAt takes0 σ) (pa_cons (pv 7) pa_nil)))
      (pss_cons (ps_expr (Y.pe_methCS (pv 15) (T.cls 20) (T.meth 38) (ok_Album_add_view T) (hr.mono (by decide)) (cal_Album_add_view T) (fun σ => passAt takes0 σ) (pa_cons (pv 8) pa_nil)))
      (pss_cons (ps_expr (Y.pe_methCS (pv 15) (T.cls 20) (T.meth 39) (ok_Album_add_link T) (hr.mono (by decide)) (cal_Album_add_link T) (fun σ => passAt takes0 σ) (pa_cons (Y.pe_callC (ok_link_of T) (cal_link_of T) (hr.mono (by decide)) (by rfl) pass0 (pa_cons (pv 7) (pa_cons (pv 8) (pa_cons (pv 13) pa_nil)))) pa_nil)))
      (pss_cons (ps_set (i := 16) sc_law.nd rfl (Or.inl rfl) (pe_disp (pps_cons (pe_ix (Y.ix_listK (K := K) rfl) (pv 4) pe_int (fun _ _ => rfl)) (pe_tup (pa_cons pe_int (pa_cons pe_int (pa_cons pe_int (pa_cons pe_int pa_nil))))) (pps_cons (pe_ix (Y.ix_listK (K := K) rfl) (pv 4) pe_int (fun _ _ => rfl)) (pe_tup (pa_cons pe_int (pa_cons (pe_ix (Y.ix_listK (K := K) rfl) (pv 9) pe_int (fun _ _ => rfl)) (pa_cons (pe_ix (Y.ix_listK (K := K) rfl) (pv 9) pe_int (fun _ _ => rfl)) (pa_cons (pe_ix (Y.ix_listK (K := K) rfl) (pv 9) pe_int (fun _ _ => rfl)) pa_nil))))) pps_nil)) (by rfl) (by rfl) (fun z => by cases z) (by decide)))
      (pss_one (ps_ret (pe_cmpR (Y.op_eqW (K := K) rfl hr.units) (Y.pe_callC (ok_lay T) (cal_lay T) (hr.mono (by decide)) (by rfl) pass0 (pa_cons (pv 15) pa_nil)) (pe_tup (pa_cons pe_str (pa_cons (pv 16) pa_nil))) (nomark _))))))))))))), ?_⟩
    intro D s0 pl td np pp vp s1 s2 t0 P L w0 h0 C v1 v2 B y3 y12 y17 y18 y19 y20 y21 y23 y24 G H W F S d1 d2 hM hBpl q
    have b0 := F.hP false
    have b1 := F.hP true
    obtain ⟨rs1, hrs1⟩ : ∃ rs1, (L false).map PyData.tuple = rs1 := ⟨_, rfl⟩
    obtain ⟨rs2, hrs2⟩ : ∃ rs2, (L true).map PyData.tuple = rs2 := ⟨_, rfl⟩
    have ho1 : rowsOk (.tuple rs1) = true := hrs1 ▸ S.ok false
    have ho2 : rowsOk (.tuple rs2) = true := hrs2 ▸ S.ok true
    obtain ⟨dx, hdx⟩ : ∃ dx, (P true).1 - (P false).1 = dx := ⟨_, rfl⟩
    obtain ⟨dy, hdy⟩ : ∃ dy, (P true).2.1 - (P false).2.1 = dy := ⟨_, rfl⟩
    obtain ⟨lt, hlt⟩ : ∃ lt, (P true).2.2 - (P false).2.2 = lt := ⟨_, rfl⟩
    have hft := fun Lf hF => fit_true F S hrs1 hrs2 hdx hdy hlt (Lf := Lf) hF
    rw [hrs1] at d1
    rw [hrs2] at d2
    rw [hdx, hdy, hlt] at hM
    rw [hrs1, hrs2, hdx, hdy, hlt]
    obtain ⟨sh, hsh⟩ : ∃ sh, cntO (ovF (rdC rs1) dx dy) (rdl 0 rs2) = sh := ⟨_, rfl⟩
    obtain ⟨wr, hwr⟩ : ∃ wr, cntW (ovF (rdC rs1) dx dy) lt (rdl 0 rs2) = wr := ⟨_, rfl⟩
    rw [hsh, hwr] at hft ⊢
    have a2 := (rows_inv ho1).2.1
    have a3 := (rows_inv ho1).2.2.1
    have b2 := (rows_inv ho2).2.1
    have b3 := (rows_inv ho2).2.2.1
    have hRl : (prR (rdl 0 rs1) (rdl 0 rs2)).length ≤ 144 * 144 := by
      rw [prR_len]
      exact Nat.mul_le_mul (by have := rdl_len (y := 0) a3; omega) (by have := rdl_len (y := 0) b3; omega)
    walk_at "sx"
    refine g_ixLs (k := 0) hM rfl rfl fun m0 em0 => ?_
    cases dp_int em0
    walk_at "sx"
    refine g_ixLs (k := 1) hM rfl rfl fun m1 em1 => ?_
    cases dp_int em1
    walk_at "sx"
    refine g_ixLs (k := 2) hM rfl rfl fun m2 em2 => ?_
    cases dp_int em2
    walk_at "sx"
    refine g_tupD (K := K) (ds := [.int dx, .int dy, .int lt, .int wr]) W.ex (.cons (.int _) (.cons (.int _) (.cons (.int _) (.cons (.int _) .nil)))) (by show 4 ≤ sizeLine; decide) fun ft G1 H1 n1 dft => ?_
    have W1 := W.go n1
    have hM1 := hM.go n1 (by simp)
    have d11 := dp_mono n1.gg d1
    have d21 := dp_mono n1.gg d2
    walk_at "sx"
    refine g_callNS ?_
    walk_at "sx"
    refine ⟨rfl, rfl, ?_⟩
    refine ⟨G1, v1, v2, _, _, rs1, rs2, 6, 2, 3, rfl, W1.ex, d11, d21, ho1, ho2, fun h => absurd (by decide) h, fun _ _ h => by omega, fun _ _ _ _ fd Lf G2 H2 n2 hfd hF hLf => ?_⟩
    have W2 := W1.go n2
    have hM2 := hM1.go n2 (by simp)
    have d12 := dp_mono n2.gg d11
    have d22 := dp_mono n2.gg d21
    have dft2 := dp_mono n2.gg dft
    have hLl : Lf.length ≤ 144 * 144 := Nat.le_trans (fitM_len hF.nd fun z hz => (hF.mem z).mp hz) hRl
    walk_at "sx"
    refine ⟨q4D (dx, dy, lt, wr), Lf.map q4D, dp_mono W2.ex dft2, hLf.dp W2.ex, shaped_fit fit_q44 (Nat.le_trans depth_q44 (by decide)), shaped_q44s (by omega), ?_⟩
    have hany : ((Lf.map q4D).any fun z => PyData.eqv z (q4D (dx, dy, lt, wr))) = decide (3 ≤ sh) := by
      rw [List.any_map, Bool.eq_iff_iff, List.any_eq_true, decide_eq_true_eq, ← hft Lf hF]
      constructor
      · rintro ⟨a, ha, h⟩
        have h2 : PyData.eqv (q4D a) (q4D (dx, dy, lt, wr)) = true := h
        rw [eqv_q44, decide_eq_true_eq] at h2
        rw [← h2]
        exact ha
      · intro h
        exact ⟨_, h, by show PyData.eqv (q4D (dx, dy, lt, wr)) (q4D (dx, dy, lt, wr)) = true; rw [eqv_q44]; simp⟩
    rw [hany]
    walk_at "sx"
    refine g_neBB44 rfl ?_
    walk_at "sx"
    refine g_make0 fun al dxx hal hdxx hne => ?_
    have n3 := nx_make (C := He.ga K "Album") W2.ex hal hdxx hne
    refine ⟨G2, al, dxx, rfl, n3.gh, W2.ex.free hal, upd_same, fun d l H4 n4 hd0 hl0 hA => ⟨rfl, ?_⟩⟩
    have n24 : Nx [] G2 H2 G2 H4 := ((n3.pure (M := [al])).trans n4).drop hal
    have hd2 : H2 d = none := n3.fresh hd0
    have hl2 : H2 l = none := n3.fresh hl0
    have W4 := W2.go n24
    have fit1 : fit (.tuple [.str s1, .tuple rs1]) = true := fit_tuple (by show 2 ≤ 100000; decide) fun x hx => by
      simp only [List.mem_cons, List.not_mem_nil, or_false] at hx
      rcases hx with rfl | rfl
      · exact fit_name F.n1
      · exact fit_tuple (by omega) fun d hd => fit_row (a3 d hd)
    have fit2 : fit (.tuple [.str s2, .tuple rs2]) = true := fit_tuple (by show 2 ≤ 100000; decide) fun x hx => by
      simp only [List.mem_cons, List.not_mem_nil, or_false] at hx
      rcases hx with rfl | rfl
      · exact fit_name F.n2
      · exact fit_tuple (by omega) fun d hd => fit_row (b3 d hd)
    walk_at "sx"
    obtain ⟨_, _, _, _, ⟨dx4, h4⟩, _⟩ := id hA
    refine g_mth h4 rfl ?_
    walk_at "sx"
    have hadd1 : addV [] (.tuple [.str s1, .tuple rs1]) = none := addV_ok F.n1 ho1 (by simp) (by decide)
    refine ⟨G2, al, d, l, _, _, v1, _, rfl, n24.gh, hA, d12, fit1, fun er her => ?_, fun _ G5 H5 n5 hA5 => ?_⟩
    · rw [hadd1] at her
      cases her
    have npl : al ≠ pl ∧ d ≠ pl ∧ l ≠ pl := ⟨fun z => W2.hp.live (z ▸ hal), fun z => W2.hp.live (z ▸ hd2), fun z => W2.hp.live (z ▸ hl2)⟩
    have nB : d ≠ B ∧ l ≠ B := ⟨fun z => hM2.live (z ▸ hd2), fun z => hM2.live (z ▸ hl2)⟩
    have nN : d ≠ np ∧ l ≠ np := ⟨fun z => W2.hN.live (z ▸ hd2), fun z => W2.hN.live (z ▸ hl2)⟩
    have hM5 := (hM2.go n24 (by simp)).go n5 (by simpa using nB.1.symm)
    have hN5 := W4.hN.go n5 (by simpa using nN.1.symm)
    have d15 := dp_mono n5.gg d12
    have d25 := dp_mono n5.gg d22
    have dft5 := dp_mono n5.gg dft2
    walk_at "sx"
    obtain ⟨_, _, _, _, ⟨dx5, h5⟩, _⟩ := id hA5
    refine g_mth h5 rfl ?_
    walk_at "sx"
    have hadd2 : addV ([] ++ [.tuple [.str s1, .tuple rs1]]) (.tuple [.str s2, .tuple rs2]) = none := addV_ok F.n2 ho2 (by
      intro z
      have : s2 = s1 := List.mem_singleton.mp z
      exact F.ne this.symm) (by show 1 < 30; decide)
    refine ⟨G5, al, d, l, _, _, v2, _, rfl, n5.gh, hA5, d25, fit2, fun er her => ?_, fun _ G6 H6 n6 hA6 => ?_⟩
    · rw [hadd2] at her
      cases her
    have hM6 := hM5.go n6 (by simpa using nB.1.symm)
    have hN6 := hN5.go n6 (by simpa using nN.1.symm)
    have d16 := dp_mono n6.gg d15
    have d26 := dp_mono n6.gg d25
    have dft6 := dp_mono n6.gg dft5
    walk_at "sx"
    obtain ⟨_, _, _, _, ⟨dx6, h6⟩, _⟩ := id hA6
    refine g_mth h6 rfl ?_
    walk_at "sx"
    refine ⟨G6, v1, v2, .ref ft, .str s1, .str s2, .tuple rs1, .tuple rs2, (dx, dy, lt, wr), rfl, n6.gh, d16, d26, dft6, fun lk G7 H7 n7 dlk => ?_⟩
    have hA7 := hA6.go n7 (by simp) (by simp) (by simp)
    have hlk : LkOf [s1, s2] (.tuple [.str s1, .str s2, .int dx, .int dy, .int lt]) := ⟨_, _, _, _, _, rfl, by simp, by simp, F.ne, by omega, by omega, by omega, by omega⟩
    have hnk : ∀ s ∈ [s1, s2], nameOk s = true := fun s hs => by
      simp only [List.mem_cons, List.not_mem_nil, or_false] at hs
      rcases hs with rfl | rfl
      · exact F.n1
      · exact F.n2
    have hadd3 : addL (([] ++ [.tuple [.str s1, .tuple rs1]]) ++ [.tuple [.str s2, .tuple rs2]]) [] (.tuple [.str s1, .str s2, .int dx, .int dy, .int lt]) = none := addL_ok hnk hlk (fun s hs _ => hs) (by decide)
    walk_at "sx"
    refine ⟨G7, al, d, l, _, _, lk, _, rfl, n7.gh, hA7, dlk, fit_lk hnk hlk, fun er her => ?_, fun _ G8 H8 n8 hA8 => ?_⟩
    · rw [hadd3] at her
      cases her
    have hM8 := (hM6.go n7 (by simp)).go n8 (by simpa using nB.2.symm)
    have hN8 := (hN6.go n7 (by simp)).go n8 (by simpa using nN.2.symm)
    walk_at "sx"
    intro dd hdd
    have n9 : Nx [] G8 H8 G8 (L2.upd H8 dd (.dK [])) := Nx.own n8.gh hdd
    have hD9 : L2.upd H8 dd (.dK []) dd = some (.dK []) := upd_same
    have g9 : G8 dd = none := n8.gh.free hdd
    generalize L2.upd H8 dd (.dK []) = H9 at n9 hD9
    have hM9 := hM8.go n9 (by simp)
    have hN9 := hN8.go n9 (by simp)
    have hA9 := hA8.go n9 (by simp) (by simp) (by simp)
    refine g_pair ?_
    walk_at "sx"
    refine g_ixLs (k := 0) (d := .str s1) hN9 rfl rfl fun x1 e1 => ?_
    cases dp_str e1
    walk_at "sx"
    refine g_tupD (K := K) (ds := [.int 0, .int 0, .int 0, .int 0]) n9.gh (.cons (.int _) (.cons (.int _) (.cons (.int _) (.cons (.int _) .nil)))) (by show 4 ≤ sizeLine; decide) fun t1 G10 H10 n10 dt1 => ?_
    have hM10 := hM9.go n10 (by simp)
    have hN10 := hN9.go n10 (by simp)
    refine g_pair ?_
    walk_at "sx"
    refine g_ixLs (k := 1) (d := .str s2) hN10 rfl rfl fun x2 e2 => ?_
    cases dp_str e2
    walk_at "sx"
    refine g_ixLs (k := 0) hM10 rfl rfl fun z0 ez0 => ?_
    cases dp_int ez0
    walk_at "sx"
    refine g_ixLs (k := 1) hM10 rfl rfl fun z1 ez1 => ?_
    cases dp_int ez1
    walk_at "sx"
    refine g_ixLs (k := 2) hM10 rfl rfl fun z2 ez2 => ?_
    cases dp_int ez2
    walk_at "sx"
    refine g_tupD (K := K) (ds := [.int 0, .int dx, .int dy, .int lt]) n10.gh (.cons (.int _) (.cons (.int _) (.cons (.int _) (.cons (.int _) .nil)))) (by show 4 ≤ sizeLine; decide) fun t2 G11 H11 n11 dt2 => ?_
    refine g_pair0 ?_
    have n911 := n10.trans n11
    have hD11 := n911.fr dd _ (by simp) hD9
    have g11 := n911.old dd g9 ⟨_, hD9, fun _ z => nomatch z⟩
    refine ⟨hD11, [(Sum.inr s1, .ref t1), (Sum.inr s2, .ref t2)], rfl, by show 2 ≤ 15; decide, ?_⟩
    have hmk : mergeK [] [((Sum.inr s1 : Key), V.ref t1), (Sum.inr s2, .ref t2)] = [((Sum.inr s1 : Key), V.ref t1), (Sum.inr s2, .ref t2)] := by
      have hne : (Sum.inr s1 : Key) ≠ Sum.inr s2 := fun z => F.ne (Sum.inr.inj z)
      show putK (putK [] (Sum.inr s1 : Key) (V.ref t1)) (Sum.inr s2) (V.ref t2) = _
      have e1 : putK [] (Sum.inr s1 : Key) (V.ref t1) = [((Sum.inr s1 : Key), V.ref t1)] := rfl
      rw [e1]
      unfold putK
      rw [if_neg (by simp [hne])]
      rfl
    rw [hmk]
    obtain ⟨md, hmd⟩ : ∃ md : List (Str × (Int × Plc)), md = [(s1, (0, (0, 0, 0))), (s2, (0, (dx, dy, lt)))] := ⟨_, rfl⟩
    have n12 : Nx [dd] G11 H11 G11 (L2.upd H11 dd (.dK [((Sum.inr s1 : Key), V.ref t1), (Sum.inr s2, .ref t2)])) := Nx.set n11.gh g11 (by simp)
    have hDu : DctAt K dd G11 (L2.upd H11 dd (.dK [((Sum.inr s1 : Key), V.ref t1), (Sum.inr s2, .ref t2)])) (layM md) := ⟨_, upd_same, g11, by rw [hmd]; rfl, by rw [hmd]; exact .cons (dp_mono n11.gg dt1) (.cons dt2 .nil)⟩
    generalize L2.upd H11 dd (.dK [((Sum.inr s1 : Key), V.ref t1), (Sum.inr s2, .ref t2)]) = H12 at n12 hDu
    have ddA : al ≠ dd ∧ d ≠ dd ∧ l ≠ dd := by
      have lv := hA8.live
      exact ⟨fun z => lv.1 (z ▸ hdd), fun z => lv.2.1 (z ▸ hdd), fun z => lv.2.2.1 (z ▸ hdd)⟩
    have hA12 := (hA9.go n911 (by simp) (by simp) (by simp)).go n12 (by simpa using ddA.1) (by simpa using ddA.2.1) (by simpa using ddA.2.2)
    walk_at "sx"
    refine ⟨G11, al, d, l, _, _, rfl, n12.gh, hA12, fun an G13 H13 n13 hAn => ?_⟩
    rw [show ([] ++ [PyData.tuple [.str s1, .tuple rs1]]) ++ [PyData.tuple [.str s2, .tuple rs2]] = [.tuple [.str s1, .tuple rs1], .tuple [.str s2, .tuple rs2]] from rfl, show [] ++ [PyData.tuple [.str s1, .str s2, .int dx, .int dy, .int lt]] = [PyData.tuple [.str s1, .str s2, .int dx, .int dy, .int lt]] from rfl, lay_two F.ne, ← hmd] at hAn
    have hDu13 := hDu.go n13 (by simp)
    walk_at "sx"
    refine ⟨by show 2 ≤ sizeLine; decide, fun tp htp => ?_⟩
    have n14 := Nx.new (o := .tup [.str "laid", .ref dd]) n13.gh htp
    have hT2 : SqT K (L2.upd G13 tp (.tup [.str "laid", .ref dd])) tp [.str "laid", .ref dd] := .inl (.inl upd_same)
    have hDu14 := hDu13.go n14 (by simp)
    have hAn14 := hAn.go n14 (fun _ _ z => by cases z)
    obtain ⟨ta, xa, rfl, dl, rfl, hT1, hD1⟩ := hAn14
    walk_at "sx"
    refine g_eqW 6 (by omega) (eqR_tup n14.gh hT1 hT2 (.cons (.same rfl) (.cons (.r (eqR_dct (n := 4) n14.gh hD1 hDu14 (by
      rw [hmd]
      show [(Sum.inr s1 : Key), Sum.inr s2].Nodup
      simp [F.ne]) (fun x hx => by
      rw [hmd] at hx
      obtain ⟨e, he, rfl⟩ := List.mem_map.mp hx
      simp [PyData.depth, PyData.depthAll, plcD]))) .nil))) ?_
    walk_at "sx"
    exact q _
theorem rest3_law (T : Tx fa fn bx K mg) {cdv : Value} {A : Around} {outer : List Env} {s : Shared} {H : Hp} {E : XK} (hr : Room 7 (A.deeper (envOfC "law" (defScope s_law) s.heap.objs.size (He.ga K "law") cdv))) : ∃ t, PSs (cxOf CX0 P w K mg base ["script", "pool", "truth", "k", "names", "places", "views", "one", "two", "moves", "shared", "wrong", "y", "fit", "found", "album", "due", "width", "height", "rows", "row", "x", "j", "right", "below"] "law" (defScope s_law) (He.ga K "law") cdv A outer s H E).nox ((defBody s_law).drop 10) t ∧ ∀ (D : Ends), ∀ (s0 pl td np pp vp : Addr) (s1 s2 : Str) (t0 : Int → Int → Int) (P : Bool → P3) (L : Bool → List (List PyData)) (w0 h0 : Bool → Nat) (C : List (Bool × Nat × Nat)) (v1 v2 : V) (y3 y12 y17 y18 y19 y20 : Option V) (G H : Hp), T44 K pl td np pp s1 s2 t0 P G H → TF t0 P s1 s2 → S44 t0 P L w0 h0 C → Dp K G v1 (.tuple [.str s1, .tuple ((L false).map .tuple)]) → Dp K G v2 (.tuple [.str s2, .tuple ((L true).map .tuple)]) → (∀ H', D.rt (.bl true) H') →
  t D [some (.ref s0), some (.ref pl), some (.ref td), y3, some (.ref np), some (.ref pp), some (.ref vp), some v1, some v2, none, none, none, y12, none, none, none, none, y17, y18, y19, y20, none, none, none, none] H := by
    obtain ⟨tR, pR, hR4⟩ := rest4_law (P := P) (w := w) (base := base) (E := E) (cdv := cdv) (A := A) (outer := outer) (s := s) (H := H) T hr
    refine ⟨_, ((pss_cons (ps_setLc (i := 9) (own := [("j", 22)]) (tt := tYes) rfl sc_law.nd rfl rfl (sw_true rfl rfl rfl (by decide +kernel)) (pi_range1 (by rfl) (T.free 35) (pa_cons pe_int pa_nil)) (blkOk_by (own := [("j", 22)]) (by kernel_rfl)) (fun _ _ _ _ _ => (pg_name (i := 22) sc_law.nd rfl (Or.inl rfl))) (fun _ _ _ _ _ => pts_nil) (fun _ _ _ _ _ => (pe_op op_sub (pe_ix (Y.ix_tupK (K := K) rfl) (pe_ix (Y.ix_listK (K := K) rfl) (pv 5) pe_int (fun _ _ => rfl)) (pv 22) (fun _ _ => rfl)) (pe_ix (Y.ix_tupK (K := K) rfl) (pe_ix (Y.ix_listK (K := K) rfl) (pv 5) pe_int (fun _ _ => rfl)) (pv 22) (fun _ _ => rfl)))))
      (pss_cons (ps_set (i := 10) sc_law.nd rfl (Or.inl rfl) pe_int)
      (pss_cons (ps_set (i := 11) sc_law.nd rfl (Or.inl rfl) pe_int)
      (pss_cons (ps_for PassesOwn.never rfl (pi_range1 (by rfl) (T.free 35) (pa_cons (pe_callB (Y.call_lenK (K := K) rfl) (by rfl) (T.free 3) (by decide +kernel) (pa_cons (pe_ix (Y.ix_tupK (K := K) rfl) (pv 8) pe_int (fun _ _ => rfl)) pa_nil)) pa_nil)) (pg_name (i := 12) sc_law.nd rfl (Or.inr rfl))
      (pss_one (ps_for PassesOwn.never rfl (pi_range1 (by rfl) (T.free 35) (pa_cons (pe_callB (Y.call_lenK (K := K) rfl) (by rfl) (T.free 3) (by decide +kernel) (pa_cons (pe_ix (Y.ix_tupK (K := K) rfl) (pe_ix (Y.ix_tupK (K := K) rfl) (pv 8) pe_int (fun _ _ => rfl)) pe_int (fun _ _ => rfl)) pa_nil)) pa_nil)) (pg_name (i := 21) sc_law.nd rfl (Or.inl rfl))
      (pss_cons (ps_set (i := 23) sc_law.nd rfl (Or.inl rfl) (pe_op op_add (pv 21) (pe_ix (Y.ix_listK (K := K) rfl) (pv 9) pe_int (fun _ _ => rfl))))
      (pss_cons (ps_set (i := 24) sc_law.nd rfl (Or.inl rfl) (pe_op op_add (pv 12) (pe_ix (Y.ix_listK (K := K) rfl) (pv 9) pe_int (fun _ _ => rfl))))
      (pss_one (ps_if (PW.pt (pw_and (pt_chain op_le op_lt pe_int (pv 24) (pe_callB (Y.call_lenK (K := K) rfl) (by rfl) (T.free 3) (by decide +kernel) (pa_cons (pe_ix (Y.ix_tupK (K := K) rfl) (pv 7) pe_int (fun _ _ => rfl)) pa_nil))) (pw_and1 (pt_chain op_le op_lt pe_int (pv 23) (pe_callB (Y.call_lenK (K := K) rfl) (by rfl) (T.free 3) (by decide +kernel) (pa_cons (pe_ix (Y.ix_tupK (K := K) rfl) (pe_ix (Y.ix_tupK (K := K) rfl) (pv 7) pe_int (fun _ _ => rfl)) pe_int (fun _ _ => rfl)) pa_nil))))))
      (pss_one (ps_if (PW.pt (pw_and (pt_cmp (pc_notN (pe_ix (Y.ix_tupK (K := K) rfl) (pe_ix (Y.ix_tupK (K := K) rfl) (pe_ix (Y.ix_tupK (K := K) rfl) (pv 8) pe_int (fun _ _ => rfl)) (pv 12) (fun _ _ => rfl)) (pv 21) (fun _ _ => rfl)))) (pw_and1 (pt_cmp (pc_notN (pe_ix (Y.ix_tupK (K := K) rfl) (pe_ix (Y.ix_tupK (K := K) rfl) (pe_ix (Y.ix_tupK (K := K) rfl) (pv 7) pe_int (fun _ _ => rfl)) (pv 24) (fun _ _ => rfl)) (pv 23) (fun _ _ => rfl)))))))
      (pss_cons (ps_set (i := 10) sc_law.nd rfl (Or.inl rfl) (pe_op op_add (pv 10) pe_int))
      (pss_one (ps_set (i := 11) sc_law.nd rfl (Or.inl rfl) (pe_op op_add (pv 11) (pe_callTy Y.call_int1 (by rfl) (T.free 2) (by decide +kernel) (pa_cons (pe_cmpR op_ne (pe_op op_sub (pe_ix (Y.ix_tupK (K := K) rfl) (pe_ix (Y.ix_tupK (K := K) rfl) (pe_ix (Y.ix_tupK (K := K) rfl) (pv 8) pe_int (fun _ _ => rfl)) (pv 12) (fun _ _ => rfl)) (pv 21) (fun _ _ => rfl)) (pe_ix (Y.ix_tupK (K := K) rfl) (pe_ix (Y.ix_tupK (K := K) rfl) (pe_ix (Y.ix_tupK (K := K) rfl) (pv 7) pe_int (fun _ _ => rfl)) (pv 24) (fun _ _ => rfl)) (pv 23) (fun _ _ => rfl))) (pe_ix (Y.ix_listK (K := K) rfl) (pv 9) pe_int (fun _ _ => rfl)) (nomark _)) pa_nil))))))
      pss_nil))
      pss_nil)))))))
      pR))))), ?_⟩
    intro D s0 pl td np pp vp s1 s2 t0 P L w0 h0 C v1 v2 y3 y12 y17 y18 y19 y20 G H W F S d1 d2 q
    obtain ⟨p0, hp0⟩ : ∃ p0, P false = p0 := ⟨_, rfl⟩
    obtain ⟨p1, hp1⟩ : ∃ p1, P true = p1 := ⟨_, rfl⟩
    obtain ⟨rs1, hrs1⟩ : ∃ rs1, (L false).map PyData.tuple = rs1 := ⟨_, rfl⟩
    obtain ⟨rs2, hrs2⟩ : ∃ rs2, (L true).map PyData.tuple = rs2 := ⟨_, rfl⟩
    have ho1 : rowsOk (.tuple rs1) = true := hrs1 ▸ S.ok false
    have ho2 : rowsOk (.tuple rs2) = true := hrs2 ▸ S.ok true
    obtain ⟨a1, a2, a3, a4⟩ := rows_inv ho1
    obtain ⟨b1, b2, b3, b4⟩ := rows_inv ho2
    obtain ⟨r01, w1, hr01, hw1, hw1a, hw1b, hW1⟩ := rows_wide a4 a1 a3
    obtain ⟨r02, w2, hr02, hw2, hw2a, hw2b, hW2⟩ := rows_wide b4 b1 b3
    have hP0 := W.hP
    rw [hp0, hp1] at hP0
    rw [hrs1] at d1
    rw [hrs2] at d2
    walk_at "sx"
    refine g_walkR (by decide) (by decide) ?_
    intro B hB
    have hBpl : B ≠ pl := fun z => W.hp.live (z ▸ hB)
    refine g_lcPS (K := K) (M := []) (es := fun i => ([.int (p1.1 - p0.1), .int (p1.2.1 - p0.2.1), .int (p1.2.2 - p0.2.2)] : List PyData).take i) (src_rng 0 _) W.ex hB (by simp) (by rw [rng_len]; decide) (by simp) (fun j dd vv acc G1 H1 hj dvv n1 _ QE QN k1 k2 => ?_) (fun G1 H1 n1 hM1 => ?_)
    · obtain ⟨hj3, rfl⟩ := rng_get hj
      cases dp_int dvv
      have hj3 : j < 3 := hj3
      obtain ⟨x, y, hx, hy, hes⟩ : ∃ x y : Int, ([.int p1.1, .int p1.2.1, .int p1.2.2] : List PyData)[j]? = some (.int x) ∧ ([.int p0.1, .int p0.2.1, .int p0.2.2] : List PyData)[j]? = some (.int y) ∧ ([.int (p1.1 - p0.1), .int (p1.2.1 - p0.2.1), .int (p1.2.2 - p0.2.2)] : List PyData)[j]? = some (.int (x - y)) := by
        have : j = 0 ∨ j = 1 ∨ j = 2 := by omega
        rcases this with rfl | rfl | rfl <;> exact ⟨_, _, rfl, rfl, rfl⟩
      have hP1 := hP0.go n1 (by simp)
      refine ⟨by first | rfl | exact wipe1, ?_⟩
      walk_at "sx"
      refine g_ixLs (k := 1) hP1 rfl rfl fun u1 e1 => ?_
      walk_at "sx"
      refine g_ixT (k := j) n1.gh e1 hx rfl fun u2 e2 => ?_
      cases dp_int e2
      walk_at "sx"
      refine g_ixLs (k := 0) hP1 rfl rfl fun u3 e3 => ?_
      walk_at "sx"
      refine g_ixT (k := j) n1.gh e3 hy rfl fun u4 e4 => ?_
      cases dp_int e4
      walk_at "sx"
      refine k1 _ G1 H1 (.int _) (Nx.refl n1.gh) (.int _) ?_
      rw [List.take_add_one, hes]
      rfl
    have hM1 : LstAt K B G1 H1 [.int (p1.1 - p0.1), .int (p1.2.1 - p0.2.1), .int (p1.2.2 - p0.2.2)] := hM1
    obtain ⟨dx, hdx⟩ : ∃ dx, p1.1 - p0.1 = dx := ⟨_, rfl⟩
    obtain ⟨dy, hdy⟩ : ∃ dy, p1.2.1 - p0.2.1 = dy := ⟨_, rfl⟩
    obtain ⟨lt, hlt⟩ : ∃ lt, p1.2.2 - p0.2.2 = lt := ⟨_, rfl⟩
    rw [hdx, hdy, hlt] at hM1
    have W1 := W.go n1
    have dv1 := dp_mono n1.gg d1
    have dw1 := dp_mono n1.gg d2
    obtain ⟨Fo, hFo⟩ : ∃ Fo, ovF (rdC rs1) dx dy = Fo := ⟨_, rfl⟩
    walk_at "sx"
    refine g_ixT (k := 1) n1.gh dw1 rfl rfl fun u1 e1 => ?_
    walk_at "sx"
    refine g_lenT n1.gh e1 ?_
    walk_at "sx"
    refine g_walkR (by omega) (by omega) ?_
    refine g_forS (K := K) (M := []) (src_rng 0 _) n1.gh (fun i σ G' H' => ∃ y12 y21 y23 y24, σ = [some (.ref s0), some (.ref pl), some (.ref td), y3, some (.ref np), some (.ref pp), some (.ref vp), some v1, some v2, some (.ref B), some (.int (cntO Fo (rdl 0 (rs2.take i)))), some (.int (cntW Fo lt (rdl 0 (rs2.take i)))), y12, none, none, none, none, y17, y18, y19, y20, y21, none, y23, y24]) ⟨_, _, _, _, rfl⟩ ?_ ?_
    · rintro i z w' σ' G2 H2 G3 H3 hi n2 ⟨y12, y21, y23, y24, rfl⟩ n3 dw
      obtain ⟨hin, rfl⟩ := rng_get hi
      cases dp_int dw
      have hil : i < rs2.length := by omega
      have hgi : rs2[i]? = some rs2[i] := List.getElem?_eq_getElem hil
      obtain ⟨r, hr, _, hr2, hr3⟩ := rowOk_tup (b3 rs2[i] (List.getElem_mem hil))
      rw [hr] at hgi
      have hrw : r.length = w2 := hW2 i r hgi
      have n13 : Nx [] G1 H1 G3 H3 := n2.trans n3
      walk_at "sx"
      refine g_ixT (k := 1) n3.gh (dp_mono n13.gg dw1) rfl rfl fun u2 d2 => ?_
      walk_at "sx"
      refine g_ixT (k := 0) n3.gh d2 hr02 rfl fun u3 d3 => ?_
      walk_at "sx"
      refine g_lenT n3.gh d3 ?_
      walk_at "sx"
      refine g_walkR (by omega) (by omega) ?_
      refine g_forS (K := K) (M := []) (src_rng 0 _) n3.gh (fun j σ G' H' => ∃ y21 y23 y24, σ = [some (.ref s0), some (.ref pl), some (.ref td), y3, some (.ref np), some (.ref pp), some (.ref vp), some v1, some v2, some (.ref B), some (.int (cntO Fo (rdl 0 (rs2.take i) ++ rdlRow i 0 (r.take j)))), some (.int (cntW Fo lt (rdl 0 (rs2.take i) ++ rdlRow i 0 (r.take j)))), some (.int (i : Int)), none, none, none, none, y17, y18, y19, y20, y21, none, y23, y24]) ⟨y21, y23, y24, by rw [List.take_zero, show rdlRow i 0 ([] : List PyData) = [] from rfl, List.append_nil]; rfl⟩ ?_ ?_
      · rintro j z2 w2' σ2 G4 H4 G5 H5 hj n4 ⟨y21, y23, y24, rfl⟩ n5 dw2
        obtain ⟨hjn, rfl⟩ := rng_get hj
        cases dp_int dw2
        have hjl : j < r.length := by omega
        have hgj : r[j]? = some r[j] := List.getElem?_eq_getElem hjl
        have n15 : Nx [] G1 H1 G5 H5 := (n13.trans n4).trans n5
        have hv5 := dp_mono n15.gg dv1
        have hw5 := dp_mono n15.gg dw1
        have hM5 := hM1.go n15 (by simp)
        have hst : r.take (j + 1) = r.take j ++ [r[j]] := by rw [List.take_add_one, hgj]; rfl
        have hlj : (0 + (r.take j).length) = j := by rw [List.length_take]; omega
        have hro : isRd r[j] = true := List.all_eq_true.mp hr3 _ (List.getElem_mem hjl)
        obtain ⟨pre, hpre⟩ : ∃ pre, rdl 0 (rs2.take i) ++ rdlRow i 0 (r.take j) = pre := ⟨_, rfl⟩
        have hnext : rdl 0 (rs2.take i) ++ rdlRow i 0 (r.take (j + 1)) = pre ++ (match r[j] with | .int v => [((j : Int), (i : Int), v)] | _ => []) := by rw [hst, rdlRow_snoc, ← List.append_assoc, hlj, hpre]
        rw [hpre]
        have skip : (∀ x, r[j] = .int x → gtM (rdC rs1) ((j : Int) + dx, (i : Int) + dy) = none) → cntO Fo (rdl 0 (rs2.take i) ++ rdlRow i 0 (r.take (j + 1))) = cntO Fo pre ∧ cntW Fo lt (rdl 0 (rs2.take i) ++ rdlRow i 0 (r.take (j + 1))) = cntW Fo lt pre := fun h => by
          have : (match r[j] with | .int v => [((j : Int), (i : Int), v)] | _ => []).filterMap Fo = [] := by
            generalize r[j] = dd at h
            cases dd with
            | int x => rw [List.filterMap_cons, ← hFo]; unfold ovF; rw [h x rfl]; rfl
            | _ => rfl
          rw [hnext]
          unfold cntO cntW
          rw [List.filterMap_append, this, List.append_nil]
          exact ⟨rfl, rfl⟩
        have no : (∀ x, r[j] = .int x → gtM (rdC rs1) ((j : Int) + dx, (i : Int) + dy) = none) → ∃ G', Nx [] G3 H3 G' H5 ∧ ∃ y21 y23 y24, ([some (.ref s0), some (.ref pl), some (.ref td), y3, some (.ref np), some (.ref pp), some (.ref vp), some v1, some v2, some (.ref B), some (.int (cntO Fo pre)), some (.int (cntW Fo lt pre)), some (.int (i : Int)), none, none, none, none, y17, y18, y19, y20, some (.int (j : Int)), none, some (.int ((j : Int) + dx)), some (.int ((i : Int) + dy))] : L2.St) = [some (.ref s0), some (.ref pl), some (.ref td), y3, some (.ref np), some (.ref pp), some (.ref vp), some v1, some v2, some (.ref B), some (.int (cntO Fo (rdl 0 (rs2.take i) ++ rdlRow i 0 (r.take (j + 1))))), some (.int (cntW Fo lt (rdl 0 (rs2.take i) ++ rdlRow i 0 (r.take (j + 1))))), some (.int (i : Int)), none, none, none, none, y17, y18, y19, y20, y21, none, y23, y24] := fun h => by
          obtain ⟨e1, e2⟩ := skip h
          rw [e1, e2]
          exact ⟨G5, n4.trans n5, _, _, _, rfl⟩
        walk_at "sx"
        refine g_ixLs (k := 0) hM5 rfl rfl fun m0 em0 => ?_
        cases dp_int em0
        walk_at "sx"
        refine g_ixLs (k := 1) hM5 rfl rfl fun m1 em1 => ?_
        cases dp_int em1
        walk_at "sx"
        refine g_dec (fun c1 => ?_) (fun c1 => ?_)
        rotate_left
        · walk_at "sx"
          exact no fun x _ => rdC_none a3 fun i' j' r' v' g1 g2 g3 g4 => by omega
        walk_at "sx"
        refine g_ixT (k := 1) n5.gh hv5 rfl rfl fun u4 d4 => ?_
        walk_at "sx"
        refine g_lenT n5.gh d4 ?_
        walk_at "sx"
        refine g_dec (fun c2 => ?_) (fun c2 => ?_)
        rotate_left
        · walk_at "sx"
          exact no fun x _ => rdC_none a3 fun i' j' r' v' g1 g2 g3 g4 => by
            have := (List.getElem?_eq_some_iff.mp g1).1
            omega
        walk_at "sx"
        refine g_dec (fun c3 => ?_) (fun c3 => ?_)
        rotate_left
        · walk_at "sx"
          exact no fun x _ => rdC_none a3 fun i' j' r' v' g1 g2 g3 g4 => by omega
        walk_at "sx"
        refine g_ixT (k := 1) n5.gh hv5 rfl rfl fun u5 d5 => ?_
        walk_at "sx"
        refine g_ixT (k := 0) n5.gh d5 hr01 rfl fun u6 d6 => ?_
        walk_at "sx"
        refine g_lenT n5.gh d6 ?_
        walk_at "sx"
        refine g_dec (fun c4 => ?_) (fun c4 => ?_)
        rotate_left
        · walk_at "sx"
          exact no fun x _ => rdC_none a3 fun i' j' r' v' g1 g2 g3 g4 => by
            have := (List.getElem?_eq_some_iff.mp g2).1
            have := hW1 i' r' g1
            omega
        walk_at "sx"
        obtain ⟨ii, hii⟩ : ∃ ii : Nat, (ii : Int) = (i : Int) + dy := ⟨((i : Int) + dy).toNat, by omega⟩
        obtain ⟨jj, hjj⟩ : ∃ jj : Nat, (jj : Int) = (j : Int) + dx := ⟨((j : Int) + dx).toNat, by omega⟩
        have hi1 : ii < rs1.length := by omega
        have hg1 : rs1[ii]? = some rs1[ii] := List.getElem?_eq_getElem hi1
        obtain ⟨r1, hr1, _, _, hr13⟩ := rowOk_tup (a3 rs1[ii] (List.getElem_mem hi1))
        rw [hr1] at hg1
        have hj1 : jj < r1.length := by have := hW1 ii r1 hg1; omega
        have hg2 : r1[jj]? = some r1[jj] := List.getElem?_eq_getElem hj1
        have hro1 : isRd r1[jj] = true := List.all_eq_true.mp hr13 _ (List.getElem_mem hj1)
        refine g_ixT (k := 1) n5.gh hw5 rfl rfl fun u7 d7 => ?_
        walk_at "sx"
        refine g_ixT (k := i) n5.gh d7 hgi rfl fun u8 d8 => ?_
        walk_at "sx"
        refine g_ixT (k := j) n5.gh d8 hgj rfl fun u9 d9 => ?_
        walk_at "sx"
        refine g_ndec (fun hn => ?_) (fun hn => ?_) <;> rw [dp_non_iff d9] at hn
        rotate_left
        · walk_at "sx"
          exact no fun x hx => by rw [hx] at hn; cases hn
        walk_at "sx"
        refine g_ixT (k := 1) n5.gh hv5 rfl rfl fun u10 d10 => ?_
        walk_at "sx"
        refine g_ixT (k := ii) n5.gh d10 hg1 hii.symm fun u11 d11 => ?_
        walk_at "sx"
        refine g_ixT (k := jj) n5.gh d11 hg2 hjj.symm fun u12 d12 => ?_
        walk_at "sx"
        refine g_ndec (fun hn2 => ?_) (fun hn2 => ?_) <;> rw [dp_non_iff d12] at hn2
        rotate_left
        · walk_at "sx"
          exact no fun x hx => rdC_none a3 fun i' j' r' v' g1 g2 g3 g4 => by
            have e1 : i' = ii := by omega
            have e2 : j' = jj := by omega
            rw [e1, hg1] at g1
            cases g1
            rw [e2, hg2, hn2] at g2
            cases g2
        obtain ⟨x, hx⟩ : ∃ x, r[j] = .int x := by
          generalize r[j] = dd at hn hro
          cases dd with
          | int x => exact ⟨x, rfl⟩
          | none => exact absurd rfl hn
          | _ => cases hro
        obtain ⟨y, hy⟩ : ∃ y, r1[jj] = .int y := by
          generalize r1[jj] = dd at hn2 hro1
          cases dd with
          | int x => exact ⟨x, rfl⟩
          | none => exact absurd rfl hn2
          | _ => cases hro1
        rw [hx] at hgj
        rw [hy] at hg2
        walk_at "sx"
        refine g_ixT (k := 1) n5.gh hw5 rfl rfl fun u13 d13 => ?_
        walk_at "sx"
        refine g_ixT (k := i) n5.gh d13 hgi rfl fun u14 d14 => ?_
        walk_at "sx"
        refine g_ixT (k := j) n5.gh d14 hgj rfl fun u15 d15 => ?_
        cases dp_int d15
        walk_at "sx"
        refine g_ixT (k := 1) n5.gh hv5 rfl rfl fun u16 d16 => ?_
        walk_at "sx"
        refine g_ixT (k := ii) n5.gh d16 hg1 hii.symm fun u17 d17 => ?_
        walk_at "sx"
        refine g_ixT (k := jj) n5.gh d17 hg2 hjj.symm fun u18 d18 => ?_
        cases dp_int d18
        walk_at "sx"
        refine g_ixLs (k := 2) hM5 rfl rfl fun m2 em2 => ?_
        cases dp_int em2
        walk_at "sx"
        refine g_int1b ?_
        walk_at "sx"
        have e9 : (match r[j] with | .int v => [((j : Int), (i : Int), v)] | _ => []).filterMap Fo = [((j : Int), (i : Int), x - y)] := by
          rw [hx]
          show [((j : Int), (i : Int), x)].filterMap Fo = _
          rw [List.filterMap_cons, ← hFo]
          unfold ovF
          rw [show ((j : Int) + dx, (i : Int) + dy) = ((jj : Int), (ii : Int)) by rw [hii, hjj], rdC_int a3 hg1 hg2]
          rfl
        have eO : cntO Fo (rdl 0 (rs2.take i) ++ rdlRow i 0 (r.take (j + 1))) = cntO Fo pre + 1 := by
          rw [hnext]
          unfold cntO
          rw [List.filterMap_append, e9, List.length_append]
          rfl
        have eW : cntW Fo lt (rdl 0 (rs2.take i) ++ rdlRow i 0 (r.take (j + 1))) = cntW Fo lt pre + (if (!decide (x - y = lt)) = true then 1 else 0) := by
          rw [hnext]
          unfold cntW
          rw [List.filterMap_append, e9, List.filter_append, List.length_append]
          by_cases h : x - y = lt
          · rw [List.filter_cons_of_neg (by simpa using h), if_neg (by simpa using h)]
            rfl
          · rw [List.filter_cons_of_pos (by simpa using h), if_pos (by simpa using h)]
            rfl
        refine ⟨G5, n4.trans n5, some (.int (j : Int)), some (.int ((j : Int) + dx)), some (.int ((i : Int) + dy)), ?_⟩
        rw [eO, eW]
        rfl
      · rintro σ2 G4 H4 n4 ⟨y21, y23, y24, rfl⟩
        rw [rng_len, show ((r02.length : Int)).toNat = r.length by omega, List.take_length]
        refine ⟨G4, n13.trans n4, some (.int (i : Int)), y21, y23, y24, ?_⟩
        have hst : rs2.take (i + 1) = rs2.take i ++ [.tuple r] := by rw [List.take_add_one, hgi]; rfl
        rw [hst, rdl_snoc]
        have e8 : 0 + (rs2.take i).length = i := by rw [List.length_take]; omega
        rw [e8]
    · rintro σ' G2 H2 n2 ⟨y12, y21, y23, y24, rfl⟩
      rw [rng_len, show ((rs2.length : Int)).toNat = rs2.length by omega, List.take_length]
      walk_at "sx"
      subst hp0 hp1 hrs1 hrs2 hdx hdy hlt hFo
      exact hR4 _ s0 pl td np pp vp s1 s2 t0 P L w0 h0 C v1 v2 B y3 _ _ _ _ _ _ _ _ G2 H2 (W1.go n2) F S (dp_mono n2.gg dv1) (dp_mono n2.gg dw1) (hM1.go n2 (by simp)) hBpl q
theorem rest2_law (T : Tx fa fn bx K mg) {cdv : Value} {A : Around} {outer : List Env} {s : Shared} {H : Hp} {E : XK} (hr : Room 7 (A.deeper (envOfC "law" (defScope s_law) s.heap.objs.size (He.ga K "law") cdv))) : ∃ t, PSs (cxOf CX0 P w K mg base ["script", "pool", "truth", "k", "names", "places", "views", "one", "two", "moves", "shared", "wrong", "y", "fit", "found", "album", "due", "width", "height", "rows", "row", "x", "j", "right", "below"] "law" (defScope s_law) (He.ga K "law") cdv A outer s H E).nox ((defBody s_law).drop 7) t ∧ ∀ (D : Ends), ∀ (s0 pl td np pp vp : Addr) (s1 s2 : Str) (t0 : Int → Int → Int) (P : Bool → P3) (a : Bool → Addr) (A : Bool → List Addr) (w0 h0 : Bool → Nat) (y3 y12 y17 y18 y19 y20 : Option V) (G H : Hp), T44 K pl td np pp s1 s2 t0 P G H → TF t0 P s1 s2 → V44 K vp a A (fun b => gridF t0 (P b) (w0 b) (h0 b)) w0 G H → D44 pl td np pp vp a A → (∀ H', D.rt (.bl true) H') →
  t D [some (.ref s0), some (.ref pl), some (.ref td), y3, some (.ref np), some (.ref pp), some (.ref vp), none, none, none, none, none, y12, none, none, none, none, y17, y18, y19, y20, none, none, none, none] H := by
    obtain ⟨tR, pR, hR3⟩ := rest3_law (P := P) (w := w) (base := base) (E := E) (cdv := cdv) (A := A) (outer := outer) (s := s) (H := H) T hr
    refine ⟨_, ((pss_cons (ps_for PassesOwn.never rfl (pi_range1 (by rfl) (T.free 35) (pa_cons (Y.pe_callC (ok__law_take T) (cal__law_take T) (hr.mono (by decide)) (by rfl) pass0 (pa_cons (pv 1) (pa_cons pe_int pa_nil))) pa_nil)) (pg_name (i := 3) sc_law.nd rfl (Or.inr rfl))
      (pss_cons (ps_set (i := 19) sc_law.nd rfl (Or.inl rfl) (pe_ix (Y.ix_listK (K := K) rfl) (pv 6) (Y.pe_callC (ok__law_take T) (cal__law_take T) (hr.mono (by decide)) (by rfl) pass0 (pa_cons (pv 1) (pa_cons pe_int pa_nil))) (fun _ _ => rfl)))
      (pss_cons (ps_set (i := 20) sc_law.nd rfl (Or.inl rfl) (pe_ix (Y.ix_listK (K := K) rfl) (pv 19) (Y.pe_callC (ok__law_take T) (cal__law_take T) (hr.mono (by decide)) (by rfl) pass0 (pa_cons (pv 1) (pa_cons (pe_callB (Y.call_lenK (K := K) rfl) (by rfl) (T.free 3) (by decide +kernel) (pa_cons (pv 19) pa_nil)) pa_nil))) (fun _ _ => rfl)))
      (pss_one (ps_asg (pe_ix (Y.ix_listK (K := K) rfl) (pe_lst (pa_cons pe_int (pa_cons pe_int (pa_cons pe_non (pa_cons pe_int pa_nil))))) (Y.pe_callC (ok__law_take T) (cal__law_take T) (hr.mono (by decide)) (by rfl) pass0 (pa_cons (pv 1) (pa_cons pe_int pa_nil))) (fun _ _ => rfl)) (pg_sub (pv 20) (Y.pe_callC (ok__law_take T) (cal__law_take T) (hr.mono (by decide)) (by rfl) pass0 (pa_cons (pv 1) (pa_cons (pe_callB (Y.call_lenK (K := K) rfl) (by rfl) (T.free 3) (by decide +kernel) (pa_cons (pv 20) pa_nil)) pa_nil))) set_list))))))
      (pss_cons (ps_set (i := 7) sc_law.nd rfl (Or.inl rfl) (pe_tup (pa_cons (pe_ix (Y.ix_listK (K := K) rfl) (pv 4) pe_int (fun _ _ => rfl)) (pa_cons (pe_callTy (Y.call_tupleK (K := K) rfl) (by rfl) (T.free 4) (by decide +kernel) (pa_cons (pe_lc (own := [("row", 20)]) (tt := tYes) rfl sc_law.nd (Y.pi_listK (K := K) rfl (pe_ix (Y.ix_listK (K := K) rfl) (pv 6) pe_int (fun _ _ => rfl))) (blkOk_by (own := [("row", 20)]) (by kernel_rfl)) (fun _ _ _ _ _ => (pg_name (i := 20) sc_law.nd rfl (Or.inl rfl))) (fun _ _ _ _ _ => pts_nil) (fun _ _ _ _ _ => (pe_callTy (Y.call_tupleK (K := K) rfl) (by rfl) (T.free 4) (by decide +kernel) (pa_cons (pv 20) pa_nil)))) pa_nil)) pa_nil))))
      (pss_cons (ps_set (i := 8) sc_law.nd rfl (Or.inl rfl) (pe_tup (pa_cons (pe_ix (Y.ix_listK (K := K) rfl) (pv 4) pe_int (fun _ _ => rfl)) (pa_cons (pe_callTy (Y.call_tupleK (K := K) rfl) (by rfl) (T.free 4) (by decide +kernel) (pa_cons (pe_lc (own := [("row", 20)]) (tt := tYes) rfl sc_law.nd (Y.pi_listK (K := K) rfl (pe_ix (Y.ix_listK (K := K) rfl) (pv 6) pe_int (fun _ _ => rfl))) (blkOk_by (own := [("row", 20)]) (by kernel_rfl)) (fun _ _ _ _ _ => (pg_name (i := 20) sc_law.nd rfl (Or.inl rfl))) (fun _ _ _ _ _ => pts_nil) (fun _ _ _ _ _ => (pe_callTy (Y.call_tupleK (K := K) rfl) (by rfl) (T.free 4) (by decide +kernel) (pa_cons (pv 20) pa_nil)))) pa_nil)) pa_nil))))
      pR)))), ?_⟩
    intro D s0 pl td np pp vp s1 s2 t0 P a A w0 h0 y3 y12 y17 y18 y19 y20 G H W F Vw Dd q
    walk_at "sx"
    refine ⟨G, pl, 3, rfl, W.ex, W.hp, by decide, by decide, fun k0 H1 k00 k01 n1 hp1 => ?_⟩
    have W1 := W.take n1 hp1
    have V1 := Vw.take Dd n1
    walk_at "sx"
    refine g_walkR (by omega) (by omega) ?_
    refine g_forS (K := K) (M := pl :: (A false ++ A true)) (src_rng 0 _) W1.ex (fun i σ G' H' => ∃ y3 y19 y20, ∃ (L : Bool → List (List PyData)) (C : List (Bool × Nat × Nat)), σ = [some (.ref s0), some (.ref pl), some (.ref td), y3, some (.ref np), some (.ref pp), some (.ref vp), none, none, none, none, none, y12, none, none, none, none, y17, y18, y19, y20, none, none, none, none] ∧ T44 K pl td np pp s1 s2 t0 P G' H' ∧ V44 K vp a A L w0 G' H' ∧ C.length ≤ i ∧ ∀ b y x, (b, y, x) ∉ C → cellAt (L b) y x = cellAt (gridF t0 (P b) (w0 b) (h0 b)) y x) ⟨_, _, _, _, [], rfl, W1, V1, Nat.le_refl _, fun b y x _ => rfl⟩ ?_ ?_
    · rintro i z w' σ' G2 H2 G3 H3 hi n2 ⟨y3, y19, y20, L, C, rfl, W2, V2, hC, hor⟩ n3 dw
      obtain ⟨hic, rfl⟩ := rng_get hi
      cases dp_int dw
      have W3 := W2.go n3
      have V3 := V2.go n3
      walk_at "sx"
      refine ⟨G3, pl, 2, rfl, W3.ex, W3.hp, by decide, by decide, fun c H4 c0 c1 n4 hp4 => ?_⟩
      have W4 := W3.take n4 hp4
      have V4 := V3.take Dd n4
      obtain ⟨b, hb⟩ : ∃ b : Bool, ([.ref (a false), .ref (a true)] : List V)[c.toNat]? = some (.ref (a b)) := by
        have : c.toNat = 0 ∨ c.toNat = 1 := by omega
        rcases this with h | h <;> rw [h]
        · exact ⟨false, rfl⟩
        · exact ⟨true, rfl⟩
      walk_at "sx"
      refine g_ixM V4.at_ (k := c.toNat) hb (by omega) ?_
      have g4 := V4.gr b
      obtain ⟨⟨d1, d2⟩, ⟨d3, d4⟩, d5⟩ := V4.dim b
      walk_at "sx"
      refine g_lenM g4.at_ ?_
      walk_at "sx"
      rw [List.length_map, g4.len]
      refine ⟨G3, pl, ((L b).length : Int), rfl, W4.ex, W4.hp, by omega, by omega, fun y H5 y0 y1 n5 hp5 => ?_⟩
      have W5 := W4.take n5 hp5
      have V5 := V4.take Dd n5
      have g5 := V5.gr b
      have hyl : y.toNat < (L b).length := by omega
      have hyA : y.toNat < (A b).length := by rw [g5.len]; exact hyl
      obtain ⟨r, hr⟩ : ∃ r, (A b)[y.toNat]? = some r := ⟨_, List.getElem?_eq_getElem hyA⟩
      obtain ⟨l, hl⟩ : ∃ l, (L b)[y.toNat]? = some l := ⟨_, List.getElem?_eq_getElem hyl⟩
      obtain ⟨l1, l2⟩ := d5 l (List.mem_of_getElem? hl)
      walk_at "sx"
      refine g_ixM g5.at_ (k := y.toNat) (v := .ref r) (by rw [List.getElem?_map, hr]; rfl) (by omega) ?_
      walk_at "sx"
      refine g_lstD (K := K) (ds := [.int 0, .int 999, .none, .int 205]) W5.ex (.cons (.int _) (.cons (.int _) (.cons .non (.cons (.int _) .nil)))) (by show 4 ≤ sizeLine; decide) fun q1 G6 H6 n6 dq => ?_
      have W6 := W5.go n6
      have V6 := V5.go n6
      walk_at "sx"
      refine ⟨G6, pl, 4, rfl, W6.ex, W6.hp, by decide, by decide, fun j H7 j0 j1 n7 hp7 => ?_⟩
      have W7 := W6.take n7 hp7
      have V7 := V6.take Dd n7
      walk_at "sx"
      refine g_ixLn W7.ex dq j0 (by simpa using j1) fun u d hm _ du => ?_
      have hdr : isRd d = true := by
        simp only [List.mem_cons, List.not_mem_nil, or_false] at hm
        rcases hm with h | h | h | h <;> subst h <;> simp only [isRd] <;> first | rfl | decide
      have hr7 := (V7.gr b).el _ r l hr hl
      walk_at "sx"
      refine g_lenLs hr7 ?_
      walk_at "sx"
      refine ⟨G6, pl, (l.length : Int), rfl, W7.ex, W7.hp, by omega, by omega, fun x H8 x0 x1 n8 hp8 => ?_⟩
      have W8 := W7.take n8 hp8
      have V8 := V7.take Dd n8
      have hr8 := (V8.gr b).el _ r l hr hl
      have hrm := List.mem_of_getElem? hr
      obtain ⟨o1, o2, o3, o4, o5, o6⟩ := Dd.out b r hrm
      walk_at "sx"
      refine g_setLs (k := x.toNat) W8.ex hr8 du (by omega) (by omega) fun H9 n9 hr9 => ?_
      have W9 := W8.goM n9 (W8.hp.go n9 (by simpa using o3.symm)) (by simpa using o4.symm) (by simpa using o5.symm) (by simpa using o6.symm)
      have V9 := V8.put Dd hr n9 hr9 (by rw [List.length_set]; exact l1) (List.all_eq_true.mpr fun e he => by
        rcases List.mem_or_eq_of_mem_set he with h | h
        · exact List.all_eq_true.mp l2 e h
        · rw [h]; exact hdr)
      have hrM : r ∈ A false ++ A true := by cases b <;> simp [hrm]
      walk_at "sx"
      have n38 : Nx [pl] G3 H3 G6 H8 := ((n4.trans n5).trans n6.pure).trans (n7.trans n8)
      have n39 : Nx (pl :: (A false ++ A true)) G3 H3 G6 H9 := (n38.mono fun b hb => by simp at hb; simp [hb]).trans (n9.mono fun b hb => by rw [List.mem_singleton.mp hb]; exact List.mem_cons_of_mem _ hrM)
      refine ⟨G6, (n2.trans n3.pure).trans n39, _, _, _, putR L b y.toNat (l.set x.toNat d), C ++ [(b, y.toNat, x.toNat)], rfl, W9, V9, by rw [List.length_append, List.length_singleton]; omega, fun b' y' x' hn => ?_⟩
      rw [List.mem_append, List.mem_singleton, not_or] at hn
      rw [cell_put hl hn.2]
      exact hor b' y' x' hn.1
    · rintro σ' G2 H2 n2 ⟨y3, y19, y20, L, C, rfl, W2, V2, hC, hor⟩
      rw [rng_len] at hC
      have hS : S44 t0 P L w0 h0 C := ⟨V2.dim, by omega, hor⟩
      walk_at "sx"
      refine g_ixLs (k := 0) (d := .str s1) W2.hN rfl rfl fun e0 de0 => ?_
      cases dp_str de0
      walk_at "sx"
      refine g_ixM V2.at_ (k := 0) rfl rfl ?_
      have g3 := V2.gr false
      have gd3 := V2.dim false
      have hLR3 : LsR (fun _ v (r : Addr) => v = V.ref r) (a false) G2 H2 (A false) := ⟨_, g3.at_, g3.un, pr_refs (H := G2)⟩
      walk_at "sx"
      refine g_walkR0 hLR3 fun vsr hvr pr3 => ?_
      intro B hB
      refine g_lcR (M := []) (R' := fun G v (l : List PyData) => Dp K G v (.tuple l)) (es := fun i => (L false).take i) (fun _ _ _ _ e h => dp_mono e h) (src_lsR (R := fun _ v (r : Addr) => v = V.ref r) (fun _ _ _ _ _ h => h) hvr pr3 (by simp)) W2.ex hB (by simp) (szl (by rw [g3.len]; omega)) rfl (fun j v acc G' H' hj ⟨r, hr, hv⟩ n _ QE QN k1 k2 => ?_) (fun G3 H3 n3 hB3 => ?_)
      · subst hv
        have hjl : j < (L false).length := by rw [← g3.len]; exact hj
        have hl : (L false)[j]? = some (L false)[j] := List.getElem?_eq_getElem hjl
        obtain ⟨ys, hy, gy, dy⟩ := (g3.el j r _ hr hl).go n (by simp)
        refine ⟨by first | rfl | exact wipe1, ?_⟩
        walk_at "sx"
        refine g_tupOfM n.gh hy dy fun u G8 H8 n8 d8 => ?_
        refine k1 _ G8 H8 _ n8 d8 ?_
        rw [List.take_add_one, hl]
        rfl
      have W3 := W2.go n3
      have V3 := V2.go n3
      rw [g3.len, List.take_length] at hB3
      obtain ⟨ys3, hy3, gy3, dy3⟩ := lsr_lst (f := fun l => PyData.tuple l) hB3
      walk_at "sx"
      refine g_tupOfM n3.gh hy3 dy3 fun u3 G31 H31 n31 d31 => ?_
      have W31 := W3.go n31
      have V31 := V3.go n31
      walk_at "sx"
      refine g_tupD (K := K) (ds := [.str s1, .tuple ((L false).map .tuple)]) n31.gh (.cons (.str _) (.cons d31 .nil)) (by show 2 ≤ sizeLine; decide) fun o3 G32 H32 n32 d32 => ?_
      have W32 := W31.go n32
      have V32 := V31.go n32
      walk_at "sx"
      refine g_ixLs (k := 1) (d := .str s2) W32.hN rfl rfl fun e1 de1 => ?_
      cases dp_str de1
      walk_at "sx"
      refine g_ixM V32.at_ (k := 1) rfl rfl ?_
      have g4 := V32.gr true
      have gd4 := V32.dim true
      have hLR4 : LsR (fun _ v (r : Addr) => v = V.ref r) (a true) G32 H32 (A true) := ⟨_, g4.at_, g4.un, pr_refs (H := G32)⟩
      walk_at "sx"
      refine g_walkR0 hLR4 fun vsr hvr pr4 => ?_
      intro B hB
      refine g_lcR (M := []) (R' := fun G v (l : List PyData) => Dp K G v (.tuple l)) (es := fun i => (L true).take i) (fun _ _ _ _ e h => dp_mono e h) (src_lsR (R := fun _ v (r : Addr) => v = V.ref r) (fun _ _ _ _ _ h => h) hvr pr4 (by simp)) W32.ex hB (by simp) (szl (by rw [g4.len]; omega)) rfl (fun j v acc G' H' hj ⟨r, hr, hv⟩ n _ QE QN k1 k2 => ?_) (fun G4 H4 n4 hB4 => ?_)
      · subst hv
        have hjl : j < (L true).length := by rw [← g4.len]; exact hj
        have hl : (L true)[j]? = some (L true)[j] := List.getElem?_eq_getElem hjl
        obtain ⟨ys, hy, gy, dy⟩ := (g4.el j r _ hr hl).go n (by simp)
        refine ⟨by first | rfl | exact wipe1, ?_⟩
        walk_at "sx"
        refine g_tupOfM n.gh hy dy fun u G8 H8 n8 d8 => ?_
        refine k1 _ G8 H8 _ n8 d8 ?_
        rw [List.take_add_one, hl]
        rfl
      have W4 := W32.go n4
      have V4 := V32.go n4
      rw [g4.len, List.take_length] at hB4
      obtain ⟨ys4, hy4, gy4, dy4⟩ := lsr_lst (f := fun l => PyData.tuple l) hB4
      walk_at "sx"
      refine g_tupOfM n4.gh hy4 dy4 fun u4 G41 H41 n41 d41 => ?_
      have W41 := W4.go n41
      have V41 := V4.go n41
      walk_at "sx"
      refine g_tupD (K := K) (ds := [.str s2, .tuple ((L true).map .tuple)]) n41.gh (.cons (.str _) (.cons d41 .nil)) (by show 2 ≤ sizeLine; decide) fun o4 G42 H42 n42 d42 => ?_
      have W42 := W41.go n42
      have V42 := V41.go n42
      walk_at "sx"
      exact hR3 _ s0 pl td np pp vp s1 s2 t0 P L w0 h0 C (.ref o3) (.ref o4) _ _ _ _ _ _ _ _ W42 F hS (dp_mono (((n4.trans n41).trans n42).gg) d32) d42 q
theorem rest_law (T : Tx fa fn bx K mg) {cdv : Value} {A : Around} {outer : List Env} {s : Shared} {H : Hp} {E : XK} (hr : Room 7 (A.deeper (envOfC "law" (defScope s_law) s.heap.objs.size (He.ga K "law") cdv))) : ∃ t, PSs (cxOf CX0 P w K mg base ["script", "pool", "truth", "k", "names", "places", "views", "one", "two", "moves", "shared", "wrong", "y", "fit", "found", "album", "due", "width", "height", "rows", "row", "x", "j", "right", "below"] "law" (defScope s_law) (He.ga K "law") cdv A outer s H E).nox ((defBody s_law).drop 5) t ∧ ∀ (D : Ends), ∀ (s0 pl td np pp : Addr) (s1 s2 : Str) (t0 : Int → Int → Int) (P : Bool → P3) (y3 : Option V) (G H : Hp), T44 K pl td np pp s1 s2 t0 P G H → TF t0 P s1 s2 → (∀ H', D.rt (.bl true) H') →
  t D [some (.ref s0), some (.ref pl), some (.ref td), y3, some (.ref np), some (.ref pp), none, none, none, none, none, none, none, none, none, none, none, none, none, none, none, none, none, none, none] H := by
    obtain ⟨tR, pR, hR2⟩ := rest2_law (P := P) (w := w) (base := base) (E := E) (cdv := cdv) (A := A) (outer := outer) (s := s) (H := H) T hr
    refine ⟨_, ((pss_cons (ps_set (i := 6) sc_law.nd rfl (Or.inl rfl) (pe_lst pa_nil))
      (pss_cons (ps_for PassesOwn.never rfl (pi_range1 (by rfl) (T.free 35) (pa_cons pe_int pa_nil)) (pg_name (i := 3) sc_law.nd rfl (Or.inr rfl))
      (pss_cons (ps_set (i := 17) sc_law.nd rfl (Or.inl rfl) (pe_op op_add pe_int (Y.pe_callC (ok__law_take T) (cal__law_take T) (hr.mono (by decide)) (by rfl) pass0 (pa_cons (pv 1) (pa_cons pe_int pa_nil)))))
      (pss_cons (ps_set (i := 18) sc_law.nd rfl (Or.inl rfl) (pe_op op_add pe_int (Y.pe_callC (ok__law_take T) (cal__law_take T) (hr.mono (by decide)) (by rfl) pass0 (pa_cons (pv 1) (pa_cons pe_int pa_nil)))))
      (pss_cons (ps_set (i := 19) sc_law.nd rfl (Or.inl rfl) (pe_lst pa_nil))
      (pss_cons (ps_for PassesOwn.never rfl (pi_range1 (by rfl) (T.free 35) (pa_cons (pv 18) pa_nil)) (pg_name (i := 12) sc_law.nd rfl (Or.inr rfl))
      (pss_cons (ps_setLc (i := 20) (own := [("x", 21)]) (tt := tYes) rfl sc_law.nd rfl rfl (sw_true rfl rfl rfl (by decide +kernel)) (pi_range1 (by rfl) (T.free 35) (pa_cons (pv 17) pa_nil)) (blkOk_by (own := [("x", 21)]) (by kernel_rfl)) (fun _ _ _ _ _ => (pg_name (i := 21) sc_law.nd rfl (Or.inl rfl))) (fun _ _ _ _ _ => pts_nil) (fun _ _ _ _ _ => (pe_op op_add (pe_dget (hu_of hr) (pv 2) (pe_tup (pa_cons (pe_op op_add (pe_ix (Y.ix_tupK (K := K) rfl) (pe_ix (Y.ix_listK (K := K) rfl) (pv 5) (pv 3) (fun _ _ => rfl)) pe_int (fun _ _ => rfl)) (pv 21)) (pa_cons (pe_op op_add (pe_ix (Y.ix_tupK (K := K) rfl) (pe_ix (Y.ix_listK (K := K) rfl) (pv 5) (pv 3) (fun _ _ => rfl)) pe_int (fun _ _ => rfl)) (pv 12)) pa_nil))) (fun _ _ => rfl)) (pe_ix (Y.ix_tupK (K := K) rfl) (pe_ix (Y.ix_listK (K := K) rfl) (pv 5) (pv 3) (fun _ _ => rfl)) pe_int (fun _ _ => rfl)))))
      (pss_one (ps_expr (Y.pe_bmK (K := K) rfl PySem.F.plainAttrs_list PySem.F.slot_list_append PySem.F.type_list_append mt_append (pv 19) (pa_cons (pv 20) pa_nil))))))
      (pss_one (ps_expr (Y.pe_bmK (K := K) rfl PySem.F.plainAttrs_list PySem.F.slot_list_append PySem.F.type_list_append mt_append (pv 6) (pa_cons (pv 19) pa_nil)))))))))
      pR))), ?_⟩
    intro D s0 pl td np pp s1 s2 t0 P y3 G H W F q
    walk_at "sx"
    refine g_lstM W.ex (by show 0 ≤ sizeLine; decide) fun vp H1 n1 hvp hV1 gV1 => ?_
    have W1 := W.go n1
    have hvpl : vp ≠ pl := fun z => W.hp.live (z ▸ hvp)
    have hvtd : td ≠ vp := fun z => by obtain ⟨m, hm, _⟩ := W.hT; exact hm.live (z ▸ hvp)
    have hvnp : np ≠ vp := fun z => W.hN.live (z ▸ hvp)
    have hvpp : pp ≠ vp := fun z => W.hP.live (z ▸ hvp)
    walk_at "sx"
    refine g_walkR (by decide) (by decide) ?_
    refine g_forS (K := K) (M := [pl, vp]) (src_rng 0 _) W1.ex (fun i σ G' H' => ∃ y3 y12 y17 y18 y19 y20, ∃ gs : List (Addr × List Addr × Nat × Nat), σ = [some (.ref s0), some (.ref pl), some (.ref td), y3, some (.ref np), some (.ref pp), some (.ref vp), none, none, none, none, none, y12, none, none, none, none, y17, y18, y19, y20, none, none, none, none] ∧ T44 K pl td np pp s1 s2 t0 P G' H' ∧ H' vp = some (.lst (gs.map fun g => V.ref g.1)) ∧ G' vp = none ∧ gs.length = i ∧
      (∀ j g, gs[j]? = some g → Grid K g.1 G' H' g.2.1 (gridF t0 (P (decide (j = 1))) g.2.2.1 g.2.2.2) ∧ (2 ≤ g.2.2.1 ∧ g.2.2.1 ≤ 5) ∧ 2 ≤ g.2.2.2 ∧ g.2.2.2 ≤ 5) ∧ (gs.flatMap fun g => g.1 :: g.2.1).Nodup ∧ ∀ r ∈ (gs.flatMap fun g => g.1 :: g.2.1), H1 r = none) ⟨_, _, _, _, _, _, [], rfl, W1, hV1, gV1, rfl, fun j g h => by simp at h, List.nodup_nil, by simp⟩ ?_ ?_
    · rintro i z w' σ' G2 H2 G3 H3 hi n2 ⟨y3, y12, y17, y18, y19, y20, gs, rfl, W2, hV2, gV2, hgl, hgs, hgn, hgf⟩ n3 dw
      obtain ⟨hi2, rfl⟩ := rng_get hi
      cases dp_int dw
      have hi2 : i < 2 := hi2
      have W3 := W2.go n3
      walk_at "sx"
      refine ⟨G3, pl, 4, rfl, W3.ex, W3.hp, by decide, by decide, fun w0 H4 w00 w01 n4 hp4 => ?_⟩
      have W4 := W3.take n4 hp4
      walk_at "sx"
      refine ⟨G3, pl, 4, rfl, W4.ex, W4.hp, by decide, by decide, fun h0 H5 h00 h01 n5 hp5 => ?_⟩
      have W5 := W4.take n5 hp5
      walk_at "sx"
      refine g_lstM W5.ex (by show 0 ≤ sizeLine; decide) fun rp H6 n6 hrp hR6 gR6 => ?_
      have W6 := W5.go n6
      obtain ⟨w, hw⟩ : ∃ w : Nat, (w : Int) = 2 + w0 := ⟨(2 + w0).toNat, by omega⟩
      obtain ⟨h, hh⟩ : ∃ h : Nat, (h : Int) = 2 + h0 := ⟨(2 + h0).toNat, by omega⟩
      rw [← hw, ← hh]
      have hrpl : rp ≠ pl := fun z => W5.hp.live (z ▸ hrp)
      have hrtd : td ≠ rp := fun z => by obtain ⟨m, hm, _⟩ := W5.hT; exact hm.live (z ▸ hrp)
      have hrnp : np ≠ rp := fun z => W5.hN.live (z ▸ hrp)
      have hrpp : pp ≠ rp := fun z => W5.hP.live (z ▸ hrp)
      have n36 : Nx [pl] G3 H3 G3 H6 := (n4.trans n5).trans n6.pure
      have hrvp : rp ≠ vp := fun z => by
        have h1 := (n3.pure.trans (n4.trans n5 : Nx [pl] G3 H3 G3 H5)).fr vp _ (by simpa using hvpl) hV2
        rw [← z, hrp] at h1
        cases h1
      walk_at "sx"
      refine g_walkR (by omega) (by omega) ?_
      obtain ⟨p, hpd⟩ : ∃ p, P (decide (i = 1)) = p := ⟨_, rfl⟩
      have hpb := F.hP (decide (i = 1))
      rw [hpd] at hpb
      have hpi : ([p3D (P false), p3D (P true)] : List PyData)[i]? = some (p3D p) := by
        rw [← hpd]
        have : i = 0 ∨ i = 1 := by omega
        rcases this with rfl | rfl <;> rfl
      refine g_forS (K := K) (M := [rp]) (src_rng 0 _) W6.ex (fun y σ G' H' => ∃ y12 y20, ∃ A : List Addr, σ = [some (.ref s0), some (.ref pl), some (.ref td), some (.int (i : Int)), some (.ref np), some (.ref pp), some (.ref vp), none, none, none, none, none, y12, none, none, none, none, some (.int (w : Int)), some (.int (h : Int)), some (.ref rp), y20, none, none, none, none] ∧ T44 K pl td np pp s1 s2 t0 P G' H' ∧ Grid K rp G' H' A (gridF t0 p w y) ∧ A.Nodup ∧ ∀ r ∈ A, H6 r = none) ⟨_, _, [], rfl, W6, ⟨hR6, gR6, rfl, fun i r l h => by simp at h⟩, List.nodup_nil, by simp⟩ ?_ ?_
      · rintro y z2 w2 σ2 G7 H7 G8 H8 hy n7 ⟨y12', y20', A, rfl, W7, hG7, hAn, hAf⟩ n8 dw2
        obtain ⟨hyh, rfl⟩ := rng_get hy
        cases dp_int dw2
        have W8 := W7.go n8
        have hG8 := hG7.go n8 (by simp) (by simp)
        have hyh : y < h := by omega
        walk_at "sx"
        refine g_walkR (by omega) (by omega) ?_
        intro B hB
        refine g_lcPS (K := K) (M := []) (es := fun k => rowF t0 p k y) (src_rng 0 _) W8.ex hB (by simp) (by rw [rng_len]; exact szl (by omega)) rfl (fun x dd vv acc G9 H9 hx dvv n9 _ QE QN k1 k2 => ?_) (fun G9 H9 n9 hB9 => ?_)
        · obtain ⟨hxw, rfl⟩ := rng_get hx
          cases dp_int dvv
          have W9 := W8.go n9
          refine ⟨by first | rfl | exact wipe1, ?_⟩
          walk_at "sx"
          refine g_ixLs (k := i) W9.hP hpi rfl fun v1 d1 => ?_
          walk_at "sx"
          refine g_ixT (k := 0) W9.ex d1 rfl rfl fun v2 d2 => ?_
          cases dp_int d2
          walk_at "sx"
          refine g_ixLs (k := i) W9.hP hpi rfl fun v3 d3 => ?_
          walk_at "sx"
          refine g_ixT (k := 1) W9.ex d3 rfl rfl fun v4 d4 => ?_
          cases dp_int d4
          walk_at "sx"
          refine g_cl W9.ex fun u G10 H10 n10 _ cu => ?_
          have W10 := W9.go n10
          obtain ⟨m, hm, htm⟩ := W10.hT
          walk_at "sx"
          refine g_pcGet W10.ex hm.rd cu (htm _ _ (by omega) (by omega) (by omega) (by omega)) ?_
          walk_at "sx"
          refine g_ixLs (k := i) W10.hP hpi rfl fun v5 d5 => ?_
          walk_at "sx"
          refine g_ixT (k := 2) W10.ex d5 rfl rfl fun v6 d6 => ?_
          cases dp_int d6
          walk_at "sx"
          refine k1 _ G10 H10 (.int _) n10 (.int _) ?_
          unfold rowF
          rw [List.range_succ, List.map_append]
          rfl
        · rw [rng_len, show ((w : Int)).toNat = w by omega] at hB9
          have W9 := W8.go n9
          have hG9 := hG8.go n9 (by simp) (by simp)
          have hBr : B ≠ rp := fun z => hG8.live (z ▸ hB)
          walk_at "sx"
          refine g_tyL hG9.at_ ?_
          walk_at "sx"
          have hAr : ∀ x ∈ A, x ≠ rp := fun x hx z => by
            have h1 := hAf x hx
            rw [z, hR6] at h1
            cases h1
          obtain ⟨n10, hG10⟩ := hG9.snoc hB9 W9.ex hBr hAr
          have hAl : A.length = y := by rw [hG9.len]; unfold gridF; rw [List.length_map, List.length_range]
          refine g_app hG9.at_ (szl (by rw [List.length_map, hAl]; omega)) ?_
          have n79 := (n8.trans n9)
          refine ⟨G9, (n7.trans n79.pure).trans n10, _, _, A ++ [B], rfl, W9.goM n10 (W9.hp.go n10 (by simpa using hrpl.symm)) (by simpa using hrtd) (by simpa using hrnp) (by simpa using hrpp), ?_, ?_, ?_⟩
          · have : gridF t0 p w (y + 1) = gridF t0 p w y ++ [rowF t0 p w y] := by
              unfold gridF
              rw [List.range_succ, List.map_append]
              rfl
            rw [this]
            exact hG10
          · refine List.nodup_append.mpr ⟨hAn, by simp, fun x hx x2 hx2 z => ?_⟩
            rw [List.mem_singleton] at hx2
            have := hG8.rlive x hx
            rw [z, hx2, hB] at this
            exact this rfl
          · intro r hr
            rcases List.mem_append.mp hr with hr | hr
            · exact hAf r hr
            · rw [List.mem_singleton.mp hr]
              exact (n7.trans n8.pure).fresh hB
      · rintro σ2 G7 H7 n7 ⟨y12', y20', A, rfl, W7, hG7, hAn, hAf⟩
        rw [rng_len, show ((h : Int)).toNat = h by omega] at hG7
        walk_at "sx"
        have n26 : Nx [pl] G2 H2 G3 H6 := n3.pure.trans n36
        have n27 : Nx [pl, rp] G2 H2 G7 H7 := (n26.mono fun b hb => by simp at hb; simp [hb]).trans (n7.mono fun b hb => by simp at hb; simp [hb])
        have hV7 := n27.fr vp _ (by simp [hvpl, hrvp.symm]) hV2
        have gV7 := n27.old vp gV2 ⟨_, hV2, fun _ z => nomatch z⟩
        have hH1v : H1 vp ≠ none := by rw [hV1]; exact fun z => nomatch z
        have hH1p : H1 pl ≠ none := W1.hp.live
        have hold : ∀ r ∈ (gs.flatMap fun g => g.1 :: g.2.1), r ≠ pl ∧ r ≠ vp ∧ H2 r ≠ none := fun r hr => by
          refine ⟨fun z => hH1p (z ▸ hgf r hr), fun z => hH1v (z ▸ hgf r hr), ?_⟩
          obtain ⟨g, hg, hrg⟩ := List.mem_flatMap.mp hr
          obtain ⟨j, hj⟩ := List.getElem?_of_mem hg
          obtain ⟨gg, _⟩ := hgs j g hj
          rcases List.mem_cons.mp hrg with rfl | hrg
          · exact gg.live
          · exact gg.rlive r hrg
        have n25 : Nx [pl] G2 H2 G3 H5 := n3.pure.trans (n4.trans n5)
        have holdr : ∀ r ∈ (gs.flatMap fun g => g.1 :: g.2.1), r ≠ rp := fun r hr z => n25.live r (hold r hr).2.2 (z ▸ hrp)
        have holdA : ∀ r ∈ (gs.flatMap fun g => g.1 :: g.2.1), r ∉ A := fun r hr z => n26.live r (hold r hr).2.2 (hAf r z)
        have hH6v : H6 vp ≠ none := by rw [n26.fr vp _ (by simpa using hvpl) hV2]; exact fun z => nomatch z
        have hH6r : H6 rp ≠ none := by rw [hR6]; exact fun z => nomatch z
        refine g_tyL hV7 ?_
        walk_at "sx"
        refine g_app hV7 (szl (by rw [List.length_map, hgl]; omega)) ?_
        have n8 : Nx [vp] G7 H7 G7 (L2.upd H7 vp (.lst (gs.map (fun g => V.ref g.1) ++ [V.ref rp]))) := Nx.set W7.ex gV7 (by simp)
        have n18 : Nx [pl, vp] G H1 G7 (L2.upd H7 vp (.lst (gs.map (fun g => V.ref g.1) ++ [V.ref rp]))) := by
          have h1 : Nx [pl, vp, rp] G H1 G7 (L2.upd H7 vp (.lst (gs.map (fun g => V.ref g.1) ++ [V.ref rp]))) := ((n2.mono fun b hb => by simp at hb; rcases hb with rfl | rfl <;> simp).trans (n27.mono fun b hb => by simp at hb; rcases hb with rfl | rfl <;> simp)).trans (n8.mono fun b hb => by simp at hb; simp [hb])
          refine h1.sub fun b hb => ?_
          simp only [List.mem_cons, List.not_mem_nil, or_false] at hb
          rcases hb with rfl | rfl | rfl
          · exact .inl (by simp)
          · exact .inl (by simp)
          · exact .inr ((n2.trans (n25.mono fun b hb => by simp at hb; simp [hb])).fresh hrp)
        have hflat : ((gs ++ [(rp, A, w, h)]).flatMap fun g => g.1 :: g.2.1) = (gs.flatMap fun g => g.1 :: g.2.1) ++ (rp :: A) := by rw [List.flatMap_append]; simp
        refine ⟨G7, n18, _, _, _, _, _, _, gs ++ [(rp, A, w, h)], rfl, W7.goM n8 (W7.hp.go n8 (by simpa using hvpl.symm)) (by simpa using hvtd) (by simpa using hvnp) (by simpa using hvpp), by rw [upd_same, List.map_append]; rfl, gV7, by rw [List.length_append, hgl]; rfl, fun j g hj => ?_, ?_, fun r hr => ?_⟩
        · by_cases hjl : j < gs.length
          · rw [List.getElem?_append_left hjl] at hj
            obtain ⟨gg, hd⟩ := hgs j g hj
            have hfm : ∀ r ∈ g.1 :: g.2.1, r ∈ (gs.flatMap fun g => g.1 :: g.2.1) := fun r hr => List.mem_flatMap.mpr ⟨g, List.mem_of_getElem? hj, hr⟩
            have hno : ∀ r ∈ g.1 :: g.2.1, r ∉ [pl, rp] := fun r hr => by
              have h1 := hold r (hfm r hr)
              have h2 := holdr r (hfm r hr)
              simp [h1.1, h2]
            exact ⟨(gg.go n27 (hno g.1 (by simp)) (fun r hr => hno r (by simp [hr]))).go n8 (by simpa using (hold _ (hfm g.1 (by simp))).2.1) (fun r hr => by simpa using (hold _ (hfm r (by simp [hr]))).2.1), hd⟩
          · have hjl2 := (List.getElem?_eq_some_iff.mp hj).1
            rw [List.length_append, List.length_singleton] at hjl2
            have e1 : j = gs.length := by omega
            subst e1
            rw [List.getElem?_append_right (Nat.le_refl _), Nat.sub_self] at hj
            cases hj
            rw [hgl, hpd]
            exact ⟨hG7.go n8 (by simpa using hrvp) (fun r hr => by
              simp only [List.mem_singleton]
              exact fun z => hH6v (z ▸ hAf r hr)), ⟨by show 2 ≤ w; omega, by show w ≤ 5; omega⟩, by show 2 ≤ h; omega, by show h ≤ 5; omega⟩
        · rw [hflat]
          refine List.nodup_append.mpr ⟨hgn, List.nodup_cons.mpr ⟨fun z => hH6r (hAf _ z), hAn⟩, fun x hx y hy z => ?_⟩
          rcases List.mem_cons.mp hy with e1 | hy
          · exact holdr x hx (z.trans e1)
          · exact holdA x hx (z ▸ hy)
        · rw [hflat] at hr
          have n16 : Nx [pl, vp] G H1 G3 H6 := n2.trans (n26.mono fun b hb => by simp at hb; simp [hb])
          have n15 : Nx [pl, vp] G H1 G3 H5 := n2.trans (n25.mono fun b hb => by simp at hb; simp [hb])
          rcases List.mem_append.mp hr with hr | hr
          · exact hgf r hr
          · rcases List.mem_cons.mp hr with rfl | hr
            · exact n15.fresh hrp
            · exact n16.fresh (hAf r hr)
    · rintro σ' G2 H2 n2 ⟨y3, y12, y17, y18, y19, y20, gs, rfl, W2, hV2, gV2, hgl, hgs, hgn, hgf⟩
      rw [rng_len] at hgl
      have hgl : gs.length = 2 := hgl
      obtain ⟨g0, g1, rfl⟩ : ∃ g0 g1, gs = [g0, g1] := by
        match gs, hgl with
        | [a, b], _ => exact ⟨a, b, rfl⟩
      obtain ⟨G0, d0⟩ := hgs 0 g0 rfl
      obtain ⟨G1', d1⟩ := hgs 1 g1 rfl
      obtain ⟨a0, A0, w0, h0⟩ := g0
      obtain ⟨a1, A1, w1, h1⟩ := g1
      have hfl : ([(a0, A0, w0, h0), (a1, A1, w1, h1)].flatMap fun g : Addr × List Addr × Nat × Nat => g.1 :: g.2.1) = a0 :: (A0 ++ (a1 :: A1)) := by simp
      rw [hfl] at hgn hgf
      obtain ⟨nn1, nn2⟩ := List.nodup_cons.mp hgn
      obtain ⟨nn3, nn4, nn5⟩ := List.nodup_append.mp nn2
      obtain ⟨nn6, nn7⟩ := List.nodup_cons.mp nn4
      have hH1v : H1 vp ≠ none := by rw [hV1]; exact fun z => nomatch z
      have hot : ∀ r, H1 r = none → r ≠ vp ∧ r ≠ pl ∧ r ≠ td ∧ r ≠ np ∧ r ≠ pp := fun r hr =>
        ⟨fun z => hH1v (z ▸ hr), fun z => W1.hp.live (z ▸ hr), fun z => by obtain ⟨m, hm, _⟩ := W1.hT; exact hm.live (z ▸ hr), fun z => W1.hN.live (z ▸ hr), fun z => W1.hP.live (z ▸ hr)⟩
      refine hR2 _ s0 pl td np pp vp s1 s2 t0 P (fun b => if b = true then a1 else a0) (fun b => if b = true then A1 else A0) (fun b => if b = true then w1 else w0) (fun b => if b = true then h1 else h0) _ _ _ _ _ _ G2 H2 W2 F ⟨hV2, gV2, fun b => ?_, fun b => ?_⟩ ⟨fun b b' i j r hi hj => ?_, fun b r hr => ?_, hvpl, fun b => ?_⟩ q
      · cases b
        · exact G0
        · exact G1'
      · cases b
        · refine ⟨by unfold gridF; simp; exact d0.2, d0.1, fun l hl => ?_⟩
          exact grid_ok F hl d0.1 d0.2
        · refine ⟨by unfold gridF; simp; exact d1.2, d1.1, fun l hl => ?_⟩
          exact grid_ok F hl d1.1 d1.2
      · cases b <;> cases b'
        · exact ⟨rfl, nodup_idx nn3 hi hj⟩
        · exact absurd rfl (nn5 r (List.mem_of_getElem? hi) r (List.mem_cons_of_mem _ (List.mem_of_getElem? hj)))
        · exact absurd rfl (nn5 r (List.mem_of_getElem? hj) r (List.mem_cons_of_mem _ (List.mem_of_getElem? hi)))
        · exact ⟨rfl, nodup_idx nn7 hi hj⟩
      · have hin : r ∈ A0 ++ (a1 :: A1) ∧ ∀ b', r ≠ if b' = true then a1 else a0 := by
          cases b
          · have hr : r ∈ A0 := hr
            refine ⟨List.mem_append_left _ hr, fun b' => ?_⟩
            cases b'
            · intro z
              have z : r = a0 := z
              exact nn1 (z ▸ List.mem_append_left _ hr)
            · exact fun z => nn5 r hr r (by rw [show r = a1 from z]; simp) rfl
          · have hr : r ∈ A1 := hr
            refine ⟨List.mem_append_right _ (List.mem_cons_of_mem _ hr), fun b' => ?_⟩
            cases b'
            · intro z
              have z : r = a0 := z
              exact nn1 (z ▸ List.mem_append_right _ (List.mem_cons_of_mem _ hr))
            · intro z
              have z : r = a1 := z
              exact nn6 (z ▸ hr)
        have := hot r (hgf r (List.mem_cons_of_mem _ hin.1))
        exact ⟨this.1, hin.2, this.2.1, this.2.2.1, this.2.2.2.1, this.2.2.2.2⟩
      · cases b
        · exact (hot a0 (hgf a0 (by simp))).2.1
        · exact (hot a1 (hgf a1 (by simp))).2.1
theorem ok_law (T : Tx fa fn bx K mg) : FnOk P w K mg base CX0 8 (He.ga K "law") (fdOf K (He.ga K "law")) ["script"] (sp_law K) := by
  refine FunD.ok (F_law T) sc_law (fun vs H Q E h => ?_) (fun cdv A outer s H vs Q E hr h => ?_)
  · obtain ⟨_, _, _, rfl, _⟩ := h
    rfl
  · obtain ⟨G, s0, ns, rfl, e, hl, q⟩ := h
    obtain ⟨tR, pR, hR⟩ := rest_law (P := P) (w := w) (base := base) (E := E) (cdv := cdv) (A := A) (outer := outer) (s := s) (H := H) T hr
    refine ⟨_, PSs.nox ((pss_cons (ps_set (i := 1) sc_law.nd rfl (Or.inr rfl) (Y.pe_callC (ok__law_pool T) (cal__law_pool T) (hr.mono (by decide)) (by rfl) pass0 (pa_cons (pv 0) pa_nil)))
      (pss_cons (ps_set (i := 2) sc_law.nd rfl (.inr rfl) pe_dnewT)
      (pss_cons (ps_for PassesOwn.never rfl (pi_range1 (by rfl) (T.free 35) (pa_cons pe_int pa_nil)) (pg_name (i := 3) sc_law.nd rfl (Or.inr rfl))
      (pss_one (ps_dput (hu_of hr) (pv 2) (pe_tup (pa_cons (pe_op op_modN (pv 3) pe_int) (pa_cons (pe_op op_fdivN (pv 3) pe_int) pa_nil))) (pe_op op_add pe_int (Y.pe_callC (ok__law_take T) (cal__law_take T) (hr.mono (by decide)) (by rfl) pass0 (pa_cons (pv 1) (pa_cons pe_int pa_nil)))) rfl)))
      (pss_cons (ps_set (i := 4) sc_law.nd rfl (Or.inl rfl) (Y.pe_callC (ok__law_names T) (cal__law_names T) (hr.mono (by decide)) (by rfl) pass0 (pa_cons (pv 1) (pa_cons pe_int pa_nil))))
      (pss_cons (ps_set (i := 5) sc_law.nd rfl (Or.inr rfl) (pe_lc (own := [("k", 3)]) (tt := tYes) rfl sc_law.nd (pi_range1 (by rfl) (T.free 35) (pa_cons pe_int pa_nil)) (blkOk_by (own := [("k", 3)]) (by kernel_rfl)) (fun _ _ _ _ _ => (pg_name (i := 3) sc_law.nd rfl (Or.inl rfl))) (fun _ _ _ _ _ => pts_nil) (fun _ _ _ _ _ => (pe_tup (pa_cons (Y.pe_callC (ok__law_take T) (cal__law_take T) (hr.mono (by decide)) (by rfl) pass0 (pa_cons (pv 1) (pa_cons pe_int pa_nil))) (pa_cons (Y.pe_callC (ok__law_take T) (cal__law_take T) (hr.mono (by decide)) (by rfl) pass0 (pa_cons (pv 1) (pa_cons pe_int pa_nil))) (pa_cons (pe_op op_sub (Y.pe_callC (ok__law_take T) (cal__law_take T) (hr.mono (by decide)) (by rfl) pass0 (pa_cons (pv 1) (pa_cons pe_int pa_nil))) pe_int) pa_nil)))))))
      pR)))))), ?_⟩
    walk_at "sx"
    refine ⟨G, s0, ns, rfl, e, hl, fun pl G1 H1 n1 hpl hp1 => ?_⟩
    walk_at "sx"
    refine g_pcNew n1.gh fun td H2 n2 htd hT2 => ?_
    have hp2 := hp1.go n2 (by simp)
    have htp : td ≠ pl := fun z => hp1.live (z ▸ htd)
    walk_at "sx"
    refine g_walkR (by decide) (by decide) ?_
    refine g_forS (K := K) (M := [pl, td]) (src_rng 0 _) n2.gh (fun i σ G' H' => ∃ y3 m, σ = [some (.ref s0), some (.ref pl), some (.ref td), y3, none, none, none, none, none, none, none, none, none, none, none, none, none, none, none, none, none, none, none, none, none] ∧ PoolAt K pl G' H' ∧ PicAt td G' H' m ∧ m.length ≤ i ∧ ∀ k : Nat, k < i → ∃ v, gtM m (((k % 11 : Nat) : Int), ((k / 11 : Nat) : Int)) = some v ∧ 200 ≤ v ∧ v ≤ 209) ⟨_, [], rfl, hp2, hT2, Nat.le_refl _, fun k hk => by omega⟩ ?_ ?_
    · rintro i z w' σ' G3 H3 G4 H4 hi n3 ⟨y3, m, rfl, hp3, hT3, hml, hm⟩ n4 dw
      obtain ⟨hic, rfl⟩ := rng_get hi
      cases dp_int dw
      have hp4 := hp3.go n4 (by simp)
      have hT4 := hT3.go n4 (by simp)
      walk_at "sx"
      refine ⟨G4, pl, 10, rfl, n4.gh, hp4, by decide, by decide, fun v H5 v0 v1 n5 hp5 => ?_⟩
      have hT5 := hT4.go n5 (by simpa using htp)
      walk_at "sx"
      refine ⟨_, _, rfl, rfl, (by show (11 : Int) ≠ 0; decide), ?_⟩
      walk_at "sx"
      refine ⟨_, _, rfl, rfl, ⟨by decide, by decide⟩, ?_⟩
      walk_at "sx"
      show MkT [V.int ((i : Int).fmod 11), V.int ((i : Int).fdiv 11)] _ _
      rw [Int.fmod_eq_emod_of_nonneg _ (by decide), Int.fdiv_eq_ediv_of_nonneg _ (by decide), show ((i : Int) % 11) = ((i % 11 : Nat) : Int) by omega, show ((i : Int) / 11) = ((i / 11 : Nat) : Int) by omega]
      refine g_cl n5.gh fun u G6 H6 n6 _ cu => ?_
      have hT6 := hT5.go n6 (by simp)
      walk_at "sx"
      refine g_pcPut n6.gh hT6 cu (by omega) fun H7 n7 hT7 => ?_
      have hp7 := (hp5.go n6 (by simp)).go n7 (by simpa using htp.symm)
      have n47 : Nx [pl, td] G4 H4 G6 H7 := ((n5.mono fun b hb => by simp at hb; simp [hb]).trans n6.pure).trans (n7.mono fun b hb => by simp at hb; simp [hb])
      refine ⟨G6, (n3.trans n4.pure).trans n47, _, ptM m (((i % 11 : Nat) : Int), ((i / 11 : Nat) : Int)) (200 + v), rfl, hp7, hT7, ?_, fun k hk => ?_⟩
      · unfold ptM
        split
        · rw [List.length_map]; omega
        · rw [List.length_append, List.length_singleton]; omega
      · rw [gtM_ptM]
        by_cases e : (((i % 11 : Nat) : Int), ((i / 11 : Nat) : Int)) = (((k % 11 : Nat) : Int), ((k / 11 : Nat) : Int))
        · rw [if_pos e]
          exact ⟨_, rfl, by omega, by omega⟩
        · rw [if_neg e]
          refine hm k ?_
          have : k ≠ i := fun z => e (by rw [z])
          omega
    · rintro σ' G3 H3 n3 ⟨y3, m, rfl, hp3, hT3, hml, hm⟩
      rw [rng_len] at hm
      walk_at "sx"
      refine ⟨G3, pl, 2, rfl, n3.gh, hp3, by omega, by omega, fun np nm G4 H4 hss ⟨hnl, hnd⟩ hnp hN n4 hp4 => ?_⟩
      obtain ⟨s1, s2, rfl⟩ : ∃ s1 s2, nm = [s1, s2] := by
        match nm, hnl with
        | [a, b], _ => exact ⟨a, b, rfl⟩
        | [], h | [_], h => simp at h
        | _ :: _ :: _ :: _, h => simp at h; omega
      have hnpp : np ≠ pl := fun z => hp3.live (z ▸ hnp)
      have hT4 := hT3.go n4 (by simpa using htp)
      walk_at "sx"
      refine g_walkR (by decide) (by decide) ?_
      intro A hA
      refine g_lcPool (K := K) (src_rng 0 _) n4.gh hA hp4 (by rw [rng_len]; decide) (fun i acc => ∃ ps : List P3, acc = ps.map p3D ∧ ps.length = i ∧ ∀ p ∈ ps, (0 ≤ p.1 ∧ p.1 ≤ 6) ∧ (0 ≤ p.2.1 ∧ p.2.1 ≤ 6) ∧ -4 ≤ p.2.2 ∧ p.2.2 ≤ 4) ⟨[], rfl, rfl, by simp⟩ (fun i d v acc G5 H5 hi dv n5 hp5 _ hj QE QN k1 k2 => ?_) (fun G5 H5 ys acc hj n5 hp5 g5 h5 da5 => ?_)
      · obtain ⟨ps, rfl, hpl2, hps⟩ := hj
        walk_at "sx"
        refine ⟨G5, pl, 7, rfl, n5.gh, hp5, by decide, by decide, fun a H6 a0 a1 n6 hp6 => ?_⟩
        walk_at "sx"
        refine ⟨G5, pl, 7, rfl, n6.gh, hp6, by decide, by decide, fun b H7 b0 b1 n7 hp7 => ?_⟩
        walk_at "sx"
        refine ⟨G5, pl, 9, rfl, n7.gh, hp7, by decide, by decide, fun c H8 c0 c1 n8 hp8 => ?_⟩
        walk_at "sx"
        refine g_tupD (K := K) (ds := [.int a, .int b, .int (c - 4)]) n8.gh (.cons (.int _) (.cons (.int _) (.cons (.int _) .nil))) (by show 3 ≤ sizeLine; decide) fun u G9 H9 n9 d9 => ?_
        refine k1 _ G9 H9 _ (((n6.trans n7).trans n8).trans n9.pure) (hp8.go n9 (by simp)) d9 ⟨ps ++ [(a, b, c - 4)], by rw [List.map_append]; rfl, by rw [List.length_append, hpl2]; rfl, fun p hp => ?_⟩
        rcases List.mem_append.mp hp with hp | hp
        · exact hps p hp
        · rw [List.mem_singleton.mp hp]
          exact ⟨⟨a0, by show a ≤ 6; omega⟩, ⟨b0, by show b ≤ 6; omega⟩, by show -4 ≤ c - 4; omega, by show c - 4 ≤ 4; omega⟩
      · obtain ⟨ps, rfl, hpl2, hps⟩ := hj
        rw [rng_len] at hpl2
        obtain ⟨p0, p1, rfl⟩ : ∃ p0 p1, ps = [p0, p1] := by
          match ps, hpl2 with
          | [a, b], _ => exact ⟨a, b, rfl⟩
        have hP5 : LstAt K A G5 H5 [p3D p0, p3D p1] := ⟨ys, h5, g5, da5⟩
        have hAp : A ≠ pl := fun z => hp4.live (z ▸ hA)
        walk_at "sx"
        refine hR _ s0 pl td np A s1 s2 (fun x y => (gtM m (x, y)).getD 0) (fun b => if b = true then p1 else p0) _ G5 H5 ⟨n5.gh, hp5, ⟨m, hT4.go n5 (by simpa using htp), fun x y x0 x1 y0 y1 => ?_⟩, hN.go n5 (by simpa using hnpp), hP5, htp, hnpp, hAp⟩ ⟨fun x y x0 x1 y0 y1 => ?_, fun b => ?_, ?_, (hss s1 (by simp)).1, (hss s2 (by simp)).1⟩ q
        · obtain ⟨v, hv, _⟩ := hm (y.toNat * 11 + x.toNat) (by have : ((121 : Int)).toNat = 121 := rfl; omega)
          rw [show (((y.toNat * 11 + x.toNat) % 11 : Nat) : Int) = x by omega, show (((y.toNat * 11 + x.toNat) / 11 : Nat) : Int) = y by omega] at hv
          show gtM m (x, y) = some ((gtM m (x, y)).getD 0)
          rw [hv]
          rfl
        · obtain ⟨v, hv, hv2⟩ := hm (y.toNat * 11 + x.toNat) (by have : ((121 : Int)).toNat = 121 := rfl; omega)
          rw [show (((y.toNat * 11 + x.toNat) % 11 : Nat) : Int) = x by omega, show (((y.toNat * 11 + x.toNat) / 11 : Nat) : Int) = y by omega] at hv
          show 200 ≤ (gtM m (x, y)).getD 0 ∧ (gtM m (x, y)).getD 0 ≤ 209
          rw [hv]
          exact hv2
        · cases b
          · exact hps p0 (by simp)
          · exact hps p1 (by simp)
        · intro z
          rw [z] at hnd
          simp at hnd
end
end A
set_option maxHeartbeats 0
namespace A
open PySem PySem.Spec PyProof.Rows L2 Y
theorem tx {K : PySem.W.Frag} {w : World} {h : Heap} {mg : Str → Option Value} (X : K.In h) (G : h.Ns mainGlobals mg) (c : He.SaysX fa fn [] [] bx w h K) : Tx fa fn bx K mg := ⟨congrArg Prod.fst c.t, c.more, h, X, G⟩
theorem bindsLaw {K : PySem.W.Frag} {mg : Str → Option Value} (T : Tx fa fn bx K mg) (s : Shared) (v : Value) : BindsTo s (fdOf K (He.ga K "law")) ⟨[v], []⟩ [("script", v)] :=
  FunD.bindsA (ps := ["script"]) (F_law T) (fun _ _ _ _ _ _ us hl => match us, hl with | [_], _ => rfl) s [v] rfl
end A
open PySem PySem.W PySem.Calls PyProof.Rows
theorem PySem.Challenge.cw_laidviews_k44_whole_true_shifts_holds : PySem.Challenge.rw_laidviews_k44_whole_true_shifts.Holds := by
  w_on; o_law
  refine HandSHeadRun.head_any (r := A.R) (q := view A.R.prog [55]) (H := A.hk) (ob := A.ob) (M := 6000) (loose := A.loose) (d := HandSHeadRun.topDef A.R.prog 55) (kwd := []) A.ob_eq
    (by kernel_rfl) (fun s => by kernel_rfl) A.run (by kernel_rfl) (by kernel_rfl) (by kernel_rfl) (by rfl) (by first | assumption | decide +kernel) (by decide +kernel) ⟨rfl, rfl, rfl, rfl, rfl, by decide +kernel⟩ ?hw ?hc
  case hw => w_witness2
  case hc =>
    refine L2.walk_ofE (l := PySem.Challenge.rw_laidviews_k44_whole_true_shifts) (n := 63) (k := 8) (x := "script") (CX := L2.CX0) rfl (by decide) (by kernel_rfl) ⟨rfl, by decide, by decide⟩ ?F (fun _ _ _ _ z => z)
    intro w mg f h Z G hmg0
    obtain ⟨K, KX, c⟩ := Z
    have T := A.tx KX G c
    have hmg : mg ("law" : PySem.Str) = some (.ref f) := by
      have e : (HandSHeadRun.topDef A.R.prog 55).name = ("law" : PySem.Str) := by kernel_rfl
      rw [← e]
      exact hmg0
    have e := hmg.symm.trans (A.cal_law T).g
    cases e
    exact ⟨K, _, A.sp_law K, KX, A.bindsLaw T, fun H a ns hl _ hS => ⟨H, a, ns, rfl, Y.Ex.refl H, hS,  fun _ => rfl⟩, fun base _ _ => A.ok_law T⟩

