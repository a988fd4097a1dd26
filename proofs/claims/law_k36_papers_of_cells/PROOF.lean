import PyProof.Rows.All
import Wide.All
import OpenK.AllK
import Wide.FinOn
import PySem.Challenge.RW_laidviews_k36_papers_of_cells
import HandS.ForMost
import HandS.Exc
import HandS.TryOnly
import HandS.TryMany
import HandS.ExcInit
import HandS.ExcInitHot
import HandS.ExcField
import HandS.ExcIs
import HandS.RaiseFrom
import HandS.SuiteRaise
import HandS.Style
import HandS.IsInst
import HandS.TupMul
import HandS.TupAny
import HandS.Flow
import HandS.FStr
import HandS.More
import HandS.Deep
import HandS.WordsExc
import HandS.Defaults
import HandS.Head0
import HandS.Head1
import HandS.Head2
import HandS.HeadEnd
import HandS.HeadHook1
import HandS.HeadHook2
import HandS.HeadHook3
import HandS.HeadHook4
import HandS.HeadWalk
import KE.GoesEnum
import KE.GoesMore
import HandS.SortInts
import HandS.Zip
import KE.GoesComp
import KE.GoesRaise
import HandS.Evl
import HandS.Conv
import HandS.Dict
import HandS.Iter
import HandS.ListItems
import HandS.Sort
import KE.KDictList
import HandS.WordsDict
import PyProof.StrLawsAffix
import PyProof.StrLawsTight
import PyProof.Rows.StrItems
import KE.IntText
import HandS.RaiseMore
import HandS.Star
import HandS.StrMore
import HandS.DictComp
import PyProof.DictUpdate
import HandS.SortKw
import HandS.Slots
import HandS.Rev
import KE.KMinBuiltin
import HandS.DictEq
import HandS.DeepEq
import HandS.OwnEq
import HandS.RevTup
import PyProof.ListNew
import PyProof.CollectWalk
import HandS.Strs
import HandS.Lambda
import KE.SortUse
import KE.SortKeyHeap
import KE.KDictCopyH
import HandS.TupLen
import HandS.EndTab
import KE.KDictWalk
import HandS.DictTup
set_option Elab.async false
set_option linter.all false
set_option maxRecDepth 100000
set_option maxHeartbeats 4000000
namespace Y
open PySem PySem.Spec PyProof.Rows L2
/-- what the text says of such a class -/
def exB (K : PySem.W.Frag) (C : Addr) (f : Str) : Bool :=
  (match K.lookup C with
    | some ⟨.type "type", _, .cls cd, sl⟩ => (match cd.mro, sl.toList with
      | .ref D :: bm, [_, _, _, _, some (.builtin n), _] => D == C && n == "ValueError.__new__" && !cd.hasDel && cd.hasDict && HandSPX.refsVE bm
      | _, _ => false)
    | _ => false) &&
  (decide (PySem.W.findIn K (.ref C) "__setattr__" = some (some (.builtin "object.__setattr__"))) && decide (PySem.W.subIn K (.ref C) (.type "BaseException") = some true) && decide (PySem.W.typeIn K (.ref C) = some (.type "type")) && PySem.W.keepIn K (.ref C)) &&
  (decide (PySem.W.findIn K (.ref C) "__getattribute__" = some (some (.builtin "BaseException.__getattribute__"))) && decide (PySem.W.findIn K (.ref C) "__getattr__" = some none) && PySem.W.hasDictIn K C) &&
  (decide (PySem.W.findIn K (.ref C) f = some none) && decide (PySem.W.findIn K (.ref C) "__init__" = some (some (.ref (He.ma K C "__init__")))) && decide (PySem.W.typeIn K (.ref (He.ma K C "__init__")) = some (.type "function"))) &&
  (decide (PySem.W.findIn K (.ref C) "__class__" = some (some (.builtin "object.__class__"))) && decide (PySem.W.specialIn K (.builtin "object.__class__") "__get__" = some (some (.builtin "getset_descriptor.__get__"))) &&
    decide (PySem.W.takesIn K (.builtin "object.__class__") = some true) && decide (PySem.W.mroIn K C (.type "object") = some true))

def tupB (K : PySem.W.Frag) (a : Addr) (ns : List Int) : Bool := match K.lookup a with
  | some ⟨.type "tuple", none, .seq its _, _⟩ => decide (its.toList.map (fun v => match v with | .int i _ => some i | _ => none) = ns.map some)
  | _ => false
end Y
namespace A
open PySem PySem.Spec PyProof.Rows L2 Y
def topS (i : Nat) : Stmt := PySem.Challenge.pw_laidviews_k36_papers_of_cells.main.body.getD i (.Pass ⟨0, 0, 0, 0⟩)
abbrev s__tally : Stmt := topS 10
theorem sc__tally : FnScope ["ground", "cell", "tally", "_", "told"] ["ground", "cell"] (defScope s__tally) := ⟨rfl, rfl, rfl, by decide +kernel, rfl, by decide +kernel, by decide +kernel⟩
def d__tally : He.DefD := ⟨("_tally", none), "_tally", "_tally", defArgs s__tally, defBody s__tally, defScope s__tally, [], []⟩
abbrev s__least_untold : Stmt := topS 13
theorem sc__least_untold : FnScope ["tally", "value"] ["tally"] (defScope s__least_untold) := ⟨rfl, rfl, rfl, by decide +kernel, rfl, by decide +kernel, by decide +kernel⟩
def d__least_untold : He.DefD := ⟨("_least_untold", none), "_least_untold", "_least_untold", defArgs s__least_untold, defBody s__least_untold, defScope s__least_untold, [], []⟩
abbrev s__law_candidates : Stmt := topS 34
theorem sc__law_candidates : FnScope ["ground", "cell", "told", "row", "value"] ["ground", "cell"] (defScope s__law_candidates) := ⟨rfl, rfl, rfl, by decide +kernel, rfl, by decide +kernel, by decide +kernel⟩
def d__law_candidates : He.DefD := ⟨("_law_candidates", none), "_law_candidates", "_law_candidates", defArgs s__law_candidates, defBody s__law_candidates, defScope s__law_candidates, [], []⟩
abbrev s__law_cost : Stmt := topS 33
theorem sc__law_cost : FnScope ["ground", "cell", "value", "row"] ["ground", "cell", "value"] (defScope s__law_cost) := ⟨rfl, rfl, rfl, by decide +kernel, rfl, by decide +kernel, by decide +kernel⟩
def d__law_cost : He.DefD := ⟨("_law_cost", none), "_law_cost", "_law_cost", defArgs s__law_cost, defBody s__law_cost, defScope s__law_cost, [], []⟩
abbrev s__law_wide : Stmt := topS 29
theorem sc__law_wide : FnScope ["script", "k", "cell", "mixed"] ["script", "k"] (defScope s__law_wide) := ⟨rfl, rfl, rfl, by decide +kernel, rfl, by decide +kernel, by decide +kernel⟩
def d__law_wide : He.DefD := ⟨("_law_wide", none), "_law_wide", "_law_wide", defArgs s__law_wide, defBody s__law_wide, defScope s__law_wide, [], []⟩
abbrev s__law_take : Stmt := topS 30
theorem sc__law_take : FnScope ["pool", "most", "taken"] ["pool", "most"] (defScope s__law_take) := ⟨rfl, rfl, rfl, by decide +kernel, rfl, by decide +kernel, by decide +kernel⟩
def d__law_take : He.DefD := ⟨("_law_take", none), "_law_take", "_law_take", defArgs s__law_take, defBody s__law_take, defScope s__law_take, [], []⟩
abbrev s_least_cost : Stmt := topS 16
theorem sc_least_cost : FnScope ["ground", "cell"] ["ground"] (defScope s_least_cost) := ⟨rfl, rfl, rfl, by decide +kernel, rfl, by decide +kernel, by decide +kernel⟩
def d_least_cost : He.DefD := ⟨("least_cost", none), "least_cost", "least_cost", defArgs s_least_cost, defBody s_least_cost, defScope s_least_cost, [], []⟩
abbrev s__law_ground : Stmt := topS 32
theorem sc__law_ground : FnScope ["pool", "cells", "most", "ground", "k", "told", "j"] ["pool", "cells", "most"] (defScope s__law_ground) := ⟨rfl, rfl, rfl, by decide +kernel, rfl, by decide +kernel, by decide +kernel⟩
def d__law_ground : He.DefD := ⟨("_law_ground", none), "_law_ground", "_law_ground", defArgs s__law_ground, defBody s__law_ground, defScope s__law_ground, [], []⟩
abbrev s__law_all : Stmt := topS 35
theorem sc__law_all : FnScope ["ground", "faults", "found", "cell", "more", "pair", "value", "paid", "values"] ["ground", "faults"] (defScope s__law_all) := ⟨rfl, rfl, rfl, by decide +kernel, rfl, by decide +kernel, by decide +kernel⟩
def d__law_all : He.DefD := ⟨("_law_all", none), "_law_all", "_law_all", defArgs s__law_all, defBody s__law_all, defScope s__law_all, [], []⟩
abbrev s__law_drawn : Stmt := topS 36
theorem sc__law_drawn : FnScope ["pool", "ground", "values", "cell", "candidates"] ["pool", "ground"] (defScope s__law_drawn) := ⟨rfl, rfl, rfl, by decide +kernel, rfl, by decide +kernel, by decide +kernel⟩
def d__law_drawn : He.DefD := ⟨("_law_drawn", none), "_law_drawn", "_law_drawn", defArgs s__law_drawn, defBody s__law_drawn, defScope s__law_drawn, [], []⟩
abbrev s__law_explains : Stmt := topS 37
theorem sc__law_explains : FnScope ["ground", "faults", "values", "cell"] ["ground", "faults", "values"] (defScope s__law_explains) := ⟨rfl, rfl, rfl, by decide +kernel, rfl, by decide +kernel, by decide +kernel⟩
def d__law_explains : He.DefD := ⟨("_law_explains", none), "_law_explains", "_law_explains", defArgs s__law_explains, defBody s__law_explains, defScope s__law_explains, [], []⟩
abbrev s__law_pool : Stmt := topS 31
theorem sc__law_pool : FnScope ["script"] ["script"] (defScope s__law_pool) := ⟨rfl, rfl, rfl, by decide +kernel, rfl, by decide +kernel, by decide +kernel⟩
def d__law_pool : He.DefD := ⟨("_law_pool", none), "_law_pool", "_law_pool", defArgs s__law_pool, defBody s__law_pool, defScope s__law_pool, [], []⟩
abbrev s__law_turned : Stmt := topS 38
theorem sc__law_turned : FnScope ["row", "found", "key"] ["row"] (defScope s__law_turned) := ⟨rfl, rfl, rfl, by decide +kernel, rfl, by decide +kernel, by decide +kernel⟩
def d__law_turned : He.DefD := ⟨("_law_turned", none), "_law_turned", "_law_turned", defArgs s__law_turned, defBody s__law_turned, defScope s__law_turned, [], []⟩
abbrev s__most_told : Stmt := topS 11
theorem sc__most_told : FnScope ["tally"] ["tally"] (defScope s__most_told) := ⟨rfl, rfl, rfl, by decide +kernel, rfl, by decide +kernel, by decide +kernel⟩
def d__most_told : He.DefD := ⟨("_most_told", none), "_most_told", "_most_told", defArgs s__most_told, defBody s__most_told, defScope s__most_told, [], []⟩
abbrev s_best : Stmt := topS 12
theorem sc_best : FnScope ["ground", "cell"] ["ground", "cell"] (defScope s_best) := ⟨rfl, rfl, rfl, by decide +kernel, rfl, by decide +kernel, by decide +kernel⟩
def d_best : He.DefD := ⟨("best", none), "best", "best", defArgs s_best, defBody s_best, defScope s_best, [], []⟩
abbrev s_cost : Stmt := topS 9
theorem sc_cost : FnScope ["ground", "cell", "value", "_", "told"] ["ground", "cell", "value"] (defScope s_cost) := ⟨rfl, rfl, rfl, by decide +kernel, rfl, by decide +kernel, by decide +kernel⟩
def d_cost : He.DefD := ⟨("cost", none), "cost", "cost", defArgs s_cost, defBody s_cost, defScope s_cost, [], []⟩
abbrev s_other : Stmt := topS 14
theorem sc_other : FnScope ["ground", "cell", "tally"] ["ground", "cell"] (defScope s_other) := ⟨rfl, rfl, rfl, by decide +kernel, rfl, by decide +kernel, by decide +kernel⟩
def d_other : He.DefD := ⟨("other", none), "other", "other", defArgs s_other, defBody s_other, defScope s_other, [], []⟩
abbrev s__added_cost : Stmt := topS 15
theorem sc__added_cost : FnScope ["ground", "cell"] ["ground", "cell"] (defScope s__added_cost) := ⟨rfl, rfl, rfl, by decide +kernel, rfl, by decide +kernel, by decide +kernel⟩
def d__added_cost : He.DefD := ⟨("_added_cost", none), "_added_cost", "_added_cost", defArgs s__added_cost, defBody s__added_cost, defScope s__added_cost, [], []⟩
abbrev s_is_sure : Stmt := topS 17
theorem sc_is_sure : FnScope ["ground", "faults", "cell"] ["ground", "faults", "cell"] (defScope s_is_sure) := ⟨rfl, rfl, rfl, by decide +kernel, rfl, by decide +kernel, by decide +kernel⟩
def d_is_sure : He.DefD := ⟨("is_sure", none), "is_sure", "is_sure", defArgs s_is_sure, defBody s_is_sure, defScope s_is_sure, [], []⟩
abbrev s_Misused___init__ : Stmt := inClass (topS 7) 0
theorem sc_Misused___init__ : FnScope ["self", "why"] ["self", "why"] (defScope s_Misused___init__) := ⟨rfl, rfl, rfl, by decide +kernel, rfl, by decide +kernel, by decide +kernel⟩
def d_Misused___init__ : He.DefD := ⟨("Misused", some "__init__"), "__init__", "Misused.__init__", defArgs s_Misused___init__, defBody s_Misused___init__, defScope s_Misused___init__, [], []⟩
abbrev s_plain_ground : Stmt := topS 18
theorem sc_plain_ground : FnScope ["ground", "cell"] ["ground"] (defScope s_plain_ground) := ⟨rfl, rfl, rfl, by decide +kernel, rfl, by decide +kernel, by decide +kernel⟩
def d_plain_ground : He.DefD := ⟨("plain_ground", none), "plain_ground", "plain_ground", defArgs s_plain_ground, defBody s_plain_ground, defScope s_plain_ground, [], []⟩
abbrev s_two_grounds : Stmt := topS 19
theorem sc_two_grounds : FnScope ["ground", "faults", "cell", "second"] ["ground", "faults", "cell"] (defScope s_two_grounds) := ⟨rfl, rfl, rfl, by decide +kernel, rfl, by decide +kernel, by decide +kernel⟩
def d_two_grounds : He.DefD := ⟨("two_grounds", none), "two_grounds", "two_grounds", defArgs s_two_grounds, defBody s_two_grounds, defScope s_two_grounds, [], []⟩
abbrev s_cell_paper : Stmt := topS 27
theorem sc_cell_paper : FnScope ["ground", "faults", "cell"] ["ground", "faults", "cell"] (defScope s_cell_paper) := ⟨rfl, rfl, rfl, by decide +kernel, rfl, by decide +kernel, by decide +kernel⟩
def d_cell_paper : He.DefD := ⟨("cell_paper", none), "cell_paper", "cell_paper", defArgs s_cell_paper, defBody s_cell_paper, defScope s_cell_paper, [], []⟩
abbrev s_false_readings : Stmt := topS 20
theorem sc_false_readings : FnScope ["ground", "values", "cell", "pairs", "name", "told"] ["ground", "values"] (defScope s_false_readings) := ⟨rfl, rfl, rfl, by decide +kernel, rfl, by decide +kernel, by decide +kernel⟩
def d_false_readings : He.DefD := ⟨("false_readings", none), "false_readings", "false_readings", defArgs s_false_readings, defBody s_false_readings, defScope s_false_readings, [], []⟩
abbrev s_is_tuple_of : Stmt := topS 2
theorem sc_is_tuple_of : FnScope ["value", "length"] ["value", "length"] (defScope s_is_tuple_of) := ⟨rfl, rfl, rfl, by decide +kernel, rfl, by decide +kernel, by decide +kernel⟩
def d_is_tuple_of : He.DefD := ⟨("is_tuple_of", none), "is_tuple_of", "is_tuple_of", defArgs s_is_tuple_of, defBody s_is_tuple_of, defScope s_is_tuple_of, [], []⟩
abbrev s_is_whole : Stmt := topS 1
theorem sc_is_whole : FnScope ["value"] ["value"] (defScope s_is_whole) := ⟨rfl, rfl, rfl, by decide +kernel, rfl, by decide +kernel, by decide +kernel⟩
def d_is_whole : He.DefD := ⟨("is_whole", none), "is_whole", "is_whole", defArgs s_is_whole, defBody s_is_whole, defScope s_is_whole, [], []⟩
abbrev s_is_cell : Stmt := topS 3
theorem sc_is_cell : FnScope ["value"] ["value"] (defScope s_is_cell) := ⟨rfl, rfl, rfl, by decide +kernel, rfl, by decide +kernel, by decide +kernel⟩
def d_is_cell : He.DefD := ⟨("is_cell", none), "is_cell", "is_cell", defArgs s_is_cell, defBody s_is_cell, defScope s_is_cell, [], []⟩
abbrev s_has_cells : Stmt := topS 4
theorem sc_has_cells : FnScope ["value", "cells", "key"] ["value", "cells"] (defScope s_has_cells) := ⟨rfl, rfl, rfl, by decide +kernel, rfl, by decide +kernel, by decide +kernel⟩
def d_has_cells : He.DefD := ⟨("has_cells", none), "has_cells", "has_cells", defArgs s_has_cells, defBody s_has_cells, defScope s_has_cells, [], []⟩
abbrev s__is_explanation : Stmt := topS 23
theorem sc__is_explanation : FnScope ["ground", "faults", "integers", "cell"] ["ground", "faults", "integers"] (defScope s__is_explanation) := ⟨rfl, rfl, rfl, by decide +kernel, rfl, by decide +kernel, by decide +kernel⟩
def d__is_explanation : He.DefD := ⟨("_is_explanation", none), "_is_explanation", "_is_explanation", defArgs s__is_explanation, defBody s__is_explanation, defScope s__is_explanation, [], []⟩
abbrev s__is_open : Stmt := topS 25
theorem sc__is_open : FnScope ["ground", "faults", "cell", "pair", "first", "second", "integers"] ["ground", "faults", "cell", "pair"] (defScope s__is_open) := ⟨rfl, rfl, rfl, by decide +kernel, rfl, by decide +kernel, by decide +kernel⟩
def d__is_open : He.DefD := ⟨("_is_open", none), "_is_open", "_is_open", defArgs s__is_open, defBody s__is_open, defScope s__is_open, [], []⟩
abbrev s__is_paper : Stmt := topS 22
theorem sc__is_paper : FnScope ["value", "kind", "length"] ["value", "kind", "length"] (defScope s__is_paper) := ⟨rfl, rfl, rfl, by decide +kernel, rfl, by decide +kernel, by decide +kernel⟩
def d__is_paper : He.DefD := ⟨("_is_paper", none), "_is_paper", "_is_paper", defArgs s__is_paper, defBody s__is_paper, defScope s__is_paper, [], []⟩
abbrev s__is_surely : Stmt := topS 24
theorem sc__is_surely : FnScope ["ground", "faults", "cell", "value"] ["ground", "faults", "cell", "value"] (defScope s__is_surely) := ⟨rfl, rfl, rfl, by decide +kernel, rfl, by decide +kernel, by decide +kernel⟩
def d__is_surely : He.DefD := ⟨("_is_surely", none), "_is_surely", "_is_surely", defArgs s__is_surely, defBody s__is_surely, defScope s__is_surely, [], []⟩
abbrev s_judges_cell : Stmt := topS 26
theorem sc_judges_cell : FnScope ["ground", "faults", "value"] ["ground", "faults", "value"] (defScope s_judges_cell) := ⟨rfl, rfl, rfl, by decide +kernel, rfl, by decide +kernel, by decide +kernel⟩
def d_judges_cell : He.DefD := ⟨("judges_cell", none), "judges_cell", "judges_cell", defArgs s_judges_cell, defBody s_judges_cell, defScope s_judges_cell, [], []⟩
abbrev s_law : Stmt := topS 39
theorem sc_law : FnScope ["script", "pool", "ground", "cells", "faults", "found", "cell", "plain", "less", "values", "value", "seen", "paper", "kind", "k", "pair", "due"] ["script"] (defScope s_law) := ⟨rfl, rfl, rfl, by decide +kernel, rfl, by decide +kernel, by decide +kernel⟩
def d_law : He.DefD := ⟨("law", none), "law", "law", defArgs s_law, defBody s_law, defScope s_law, [], []⟩
def fn : List He.DefD := [d__tally, d__least_untold, d__law_candidates, d__law_cost, d__law_wide, d__law_take, d_least_cost, d__law_ground, d__law_all, d__law_drawn, d__law_explains, d__law_pool, d__law_turned, d__most_told, d_best, d_cost, d_other, d__added_cost, d_is_sure, d_Misused___init__, d_plain_ground, d_two_grounds, d_cell_paper, d_false_readings, d_is_tuple_of, d_is_whole, d_is_cell, d_has_cells, d__is_explanation, d__is_open, d__is_paper, d__is_surely, d_judges_cell, d_law]
def fa : List He.Fa := [He.Fa.free "isinstance", He.Fa.free "bool", He.Fa.free "int", He.Fa.free "len", He.Fa.free "tuple", He.Fa.free "dict", He.Fa.free "all", He.Fa.free "min", He.Fa.free "sum", He.Fa.free "max", He.Fa.glo "Misused", He.Fa.free "str", He.Fa.free "abs", He.Fa.free "list", He.Fa.free "range", He.Fa.free "reversed", He.Fa.glo "_tally", He.Fa.glo "_least_untold", He.Fa.glo "_law_candidates", He.Fa.glo "_law_cost", He.Fa.glo "_law_wide", He.Fa.glo "_law_take", He.Fa.glo "least_cost", He.Fa.glo "_law_ground", He.Fa.glo "_law_all", He.Fa.glo "_law_drawn", He.Fa.glo "_law_explains", He.Fa.glo "_law_pool", He.Fa.glo "_law_turned", He.Fa.glo "_most_told", He.Fa.glo "best", He.Fa.glo "cost", He.Fa.glo "other", He.Fa.glo "_added_cost", He.Fa.glo "is_sure", He.Fa.glo "plain_ground", He.Fa.glo "two_grounds", He.Fa.glo "cell_paper", He.Fa.glo "false_readings", He.Fa.glo "is_tuple_of", He.Fa.glo "is_whole", He.Fa.glo "is_cell", He.Fa.glo "has_cells", He.Fa.glo "_is_explanation", He.Fa.glo "_is_open", He.Fa.glo "_is_paper", He.Fa.glo "_is_surely", He.Fa.glo "judges_cell", He.Fa.glo "law"]
def bxs (K : PySem.W.Frag) : List Bool := [exB K (He.ga K "Misused") "why"]
def bx (K : PySem.W.Frag) : Bool := (bxs K).all id
set_option maxHeartbeats 0
abbrev R : PySem.W.OpenRow := PySem.W.OpenLaw.row PySem.Challenge.rw_laidviews_k36_papers_of_cells
abbrev hk : PySem.W.Hook := He.hookX 4 fa fn [] [("_most_told", none)] bx
def ob (s : PySem.W.SharedT) : He.AlX := He.obsX 4 fa fn [] [("_most_told", none)] bx (HandSHeadRun.getT s)
theorem ob_eq (s : PySem.W.SharedT) : ob s = hk.obs s.abs := He.obsX_eq (HandSHeadRun.getT_eq s)
def loose : List Str := (["is_whole", "is_tuple_of", "is_cell", "has_cells", "Refused", "Misused", "cost", "_tally", "_most_told", "best", "_least_untold", "other", "_added_cost", "least_cost", "is_sure"] : List Str) ++ (["plain_ground", "two_grounds", "false_readings", "_is_paper", "_is_explanation", "_is_surely", "_is_open", "judges_cell", "cell_paper", "_law_wide", "_law_take", "_law_pool", "_law_ground", "_law_cost", "_law_candidates"] : List Str) ++ (["_law_all", "_law_drawn", "_law_explains", "_law_turned"] : List Str)
theorem run (w : World) : HandSHeadRun.RunEq R (PySem.W.view R.prog [39]) hk ob 6000 loose w := by
  intro os
  kernel_rfl
set_option maxHeartbeats 4000000
end A

namespace Y
open PySem PySem.Spec PyProof.Rows L2

/-! ### what is known, and the heap -/
abbrev Ex (G H : Hp) : Prop := ∀ a o, G a = some o → H a = some o
theorem Ex.refl (H : Hp) : Ex H H := fun _ _ h => h
theorem Ex.trans {A B C : Hp} (a : Ex A B) (b : Ex B C) : Ex A C := fun x o h => b x o (a x o h)
theorem Ex.new {H : Hp} {p : Addr} {o : HO} (h : H p = none) : Ex H (upd H p o) := fun a u e => by
  rw [upd_ne (ne_of_none e h)]; exact e
theorem Ex.both {G H : Hp} {p : Addr} {o : HO} (e : Ex G H) : Ex (upd G p o) (upd H p o) := fun a u h => by
  by_cases q : a = p
  · subst q; rw [upd_same] at h ⊢; exact h
  · rw [upd_ne q] at h ⊢; exact e a u h
theorem Ex.out {G H : Hp} {p : Addr} {o : HO} (e : Ex G H) (h : G p = none) : Ex G (upd H p o) := fun a u q => by
  rw [upd_ne (ne_of_none q h)]; exact e a u q
theorem Ex.put {G H : Hp} {p : Addr} {o : HO} (e : Ex G H) (h : H p = some o) : Ex (upd G p o) H := fun a u q => by
  by_cases z : a = p
  · subst z; rw [upd_same] at q; rw [h]; exact q
  · rw [upd_ne z] at q; exact e a u q
theorem Ex.free {G H : Hp} (e : Ex G H) {p : Addr} (h : H p = none) : G p = none := by
  cases q : G p with
  | none => rfl
  | some o => rw [e p o q] at h; cases h
theorem Ex.seqL {K : PySem.W.Frag} {G H : Hp} (e : Ex G H) {a : Addr} {xs : List V} (h : SqL K G a xs) : SqL K H a xs := by
  rcases h with (h | ⟨o, h⟩) | h
  · exact .inl (.inl (e _ _ h))
  · exact .inl (.inr ⟨o, e _ _ h⟩)
  · exact .inr h
theorem Ex.seqT {K : PySem.W.Frag} {G H : Hp} (e : Ex G H) {a : Addr} {xs : List V} (h : SqT K G a xs) : SqT K H a xs := by
  rcases h with (h | ⟨o, h⟩) | h
  · exact .inl (.inl (e _ _ h))
  · exact .inl (.inr ⟨o, e _ _ h⟩)
  · exact .inr h

/-- a thing that may change: no tuple -/
def Own (H : Hp) (b : Addr) : Prop := ∃ o, H b = some o ∧ ∀ xs, o ≠ .tup xs
/-- a step: known part and heap, before and after; M: the cells that may change. What may change stays unknown; tuples may become known at any time. -/
structure Nx (M : List Addr) (G H G' H' : Hp) : Prop where
  gg : Ex G G'
  gh : Ex G' H'
  old : ∀ b, G b = none → Own H b → G' b = none
  live : ∀ b, H b ≠ none → H' b ≠ none
  fr : ∀ b o, b ∉ M → H b = some o → H' b = some o
  nt : ∀ b, Own H b → Own H' b
section
variable {M M' : List Addr} {G H G' H' G1 H1 G2 H2 : Hp} {p : Addr} {o : HO}
theorem Own.live (h : Own H p) : H p ≠ none := by
  obtain ⟨o, e, _⟩ := h
  rw [e]; exact fun z => nomatch z
theorem Own.ne (h : Own H p) {b : Addr} (hb : H b = none) : p ≠ b := fun z => h.live (by rw [z]; exact hb)
theorem Nx.refl (e : Ex G H) : Nx M G H G H := ⟨Ex.refl _, e, fun _ h _ => h, fun _ h => h, fun _ _ _ h => h, fun _ h => h⟩
theorem Nx.trans (a : Nx M G H G1 H1) (b : Nx M G1 H1 G2 H2) : Nx M G H G2 H2 :=
  ⟨a.gg.trans b.gg, b.gh, fun c h1 h2 => b.old c (a.old c h1 h2) (a.nt c h2), fun c h => b.live c (a.live c h), fun c o hc h => b.fr c o hc (a.fr c o hc h), fun c h => b.nt c (a.nt c h)⟩
theorem Nx.mono (a : Nx M G H G' H') (h : ∀ x, x ∈ M → x ∈ M') : Nx M' G H G' H' := ⟨a.gg, a.gh, a.old, a.live, fun c o hc q => a.fr c o (fun z => hc (h c z)) q, a.nt⟩
theorem Nx.pure (a : Nx [] G H G' H') : Nx M G H G' H' := a.mono fun _ z => absurd z (by simp)
theorem live_new (h : H p = none) : ∀ b, H b ≠ none → (upd H p o) b ≠ none := fun b q => by
  have z : b ≠ p := fun z => q (by rw [z]; exact h)
  rw [upd_ne z]; exact q
theorem own_new (h : H p = none) : ∀ b, Own H b → Own (upd H p o) b := fun b ⟨u, e, k⟩ => ⟨u, by rw [upd_ne (ne_of_none e h)]; exact e, k⟩
/-- a new object that is known from then on -/
theorem Nx.new (e : Ex G H) (h : H p = none) : Nx [] G H (upd G p o) (upd H p o) :=
  ⟨Ex.new (e.free h), e.both, fun b q1 q2 => by rw [upd_ne (q2.ne h)]; exact q1, live_new h, fun c u _ q => by rw [upd_ne (ne_of_none q h)]; exact q, own_new h⟩
/-- a new object that may change -/
theorem Nx.own (e : Ex G H) (h : H p = none) : Nx [] G H G (upd H p o) :=
  ⟨Ex.refl _, e.out (e.free h), fun _ q _ => q, live_new h, fun c u _ q => by rw [upd_ne (ne_of_none q h)]; exact q, own_new h⟩
/-- a change -/
theorem Nx.set (e : Ex G H) (h : G p = none) (hp : p ∈ M) (ho : ∀ xs, o ≠ .tup xs := by exact fun _ z => nomatch z) : Nx M G H G (upd H p o) :=
  ⟨Ex.refl _, e.out h, fun _ q _ => q, fun b q => by
    by_cases z : b = p
    · subst z; rw [upd_same]; exact fun w => nomatch w
    · rw [upd_ne z]; exact q, fun c u hc q => by rw [upd_ne (fun z => hc (by rw [z]; exact hp))]; exact q, fun b ⟨u, e1, k⟩ => by
    by_cases z : b = p
    · subst z; exact ⟨o, upd_same, ho⟩
    · exact ⟨u, by rw [upd_ne z]; exact e1, k⟩⟩
/-- a cell that was new need not be told -/
theorem Nx.drop (a : Nx (p :: M) G H G' H') (h : H p = none) : Nx M G H G' H' := ⟨a.gg, a.gh, a.old, a.live, fun c u hc q => a.fr c u (fun z => by
  rcases List.mem_cons.mp z with z | z
  · rw [z, h] at q; cases q
  · exact hc z) q, a.nt⟩
/-- what stands is known from now on -/
theorem Nx.know (a : Nx M G H G' H') (h : H p = none) (q : H' p = some o) (g : G' p = none) : Nx M G H (upd G' p o) H' :=
  ⟨a.gg.trans (Ex.new g), a.gh.put q, fun b h1 h2 => by rw [upd_ne (h2.ne h)]; exact a.old b h1 h2, a.live, a.fr, a.nt⟩
/-- a tuple is known from now on -/
theorem Nx.knowT {xs : List V} (a : Nx M G H G' H') (q : H' p = some (.tup xs)) (g : G' p = none) : Nx M G H (upd G' p (.tup xs)) H' :=
  ⟨a.gg.trans (Ex.new g), a.gh.put q, fun b h1 h2 => by
    have z : b ≠ p := fun z => by
      obtain ⟨u, e, k⟩ := a.nt b h2
      rw [z, q] at e
      cases e
      exact k _ rfl
    rw [upd_ne z]; exact a.old b h1 h2, a.live, a.fr, a.nt⟩
theorem Nx.fresh (a : Nx M G H G' H') (h : H' p = none) : H p = none := by
  cases q : H p with
  | none => rfl
  | some o => exact absurd h (a.live p (by rw [q]; exact fun z => nomatch z))
end

/-! ### data -/
section
variable {K : PySem.W.Frag} {G G' H : Hp} {v : V} {vs ws : List V} {d : PyData} {ds es : List PyData}
mutual
theorem dp_mono (e : Ex G G') : ∀ {v : V} {d : PyData}, Dp K G v d → Dp K G' v d
  | _, _, .non => .non
  | _, _, .bl b => .bl b
  | _, _, .int i => .int i
  | _, _, .str x => .str x
  | _, _, .lst h a => .lst (e.seqL h) (dpAll_mono e a)
  | _, _, .tup h a => .tup (e.seqT h) (dpAll_mono e a)
theorem dpAll_mono (e : Ex G G') : ∀ {vs : List V} {ds : List PyData}, DpAll K G vs ds → DpAll K G' vs ds
  | _, _, .nil => .nil
  | _, _, .cons h t => .cons (dp_mono e h) (dpAll_mono e t)
end
theorem dpAll_len : ∀ {vs : List V} {ds : List PyData}, DpAll K G vs ds → vs.length = ds.length
  | _, _, .nil => rfl
  | _, _, .cons _ t => congrArg (· + 1) (dpAll_len t)
theorem dpAll_get : ∀ {vs : List V} {ds : List PyData} {i : Nat} {d : PyData}, DpAll K G vs ds → ds[i]? = some d → ∃ v, vs[i]? = some v ∧ Dp K G v d
  | _, _, 0, _, .cons h _, e => ⟨_, rfl, by cases (Option.some.inj e); exact h⟩
  | _, _, i + 1, _, .cons _ t, e => dpAll_get (i := i) t e
  | _, _, i, _, .nil, e => by simp at e
theorem dpAll_got : ∀ {vs : List V} {ds : List PyData} {i : Nat} {v : V}, DpAll K G vs ds → vs[i]? = some v → ∃ d, ds[i]? = some d ∧ Dp K G v d
  | _, _, 0, _, .cons h _, e => ⟨_, rfl, by cases (Option.some.inj e); exact h⟩
  | _, _, i + 1, _, .cons _ t, e => dpAll_got (i := i) t e
  | _, _, i, _, .nil, e => by simp at e
theorem dpAll_app : ∀ {vs ws : List V} {ds es : List PyData}, DpAll K G vs ds → DpAll K G ws es → DpAll K G (vs ++ ws) (ds ++ es)
  | _, _, _, _, .nil, h => h
  | _, _, _, _, .cons a t, h => .cons a (dpAll_app t h)
theorem dpAll_snoc (h : DpAll K G vs ds) (hv : Dp K G v d) : DpAll K G (vs ++ [v]) (ds ++ [d]) := dpAll_app h (.cons hv .nil)
theorem dpAll_take : ∀ {vs : List V} {ds : List PyData} (n : Nat), DpAll K G vs ds → DpAll K G (vs.take n) (ds.take n)
  | _, _, 0, _ => .nil
  | _, _, _ + 1, .nil => .nil
  | _, _, n + 1, .cons a t => .cons a (dpAll_take n t)
theorem dpAll_drop : ∀ {vs : List V} {ds : List PyData} (n : Nat), DpAll K G vs ds → DpAll K G (vs.drop n) (ds.drop n)
  | _, _, 0, h => h
  | _, _, _ + 1, .nil => .nil
  | _, _, n + 1, .cons _ t => dpAll_drop n t
theorem dp_int {i : Int} (h : Dp K G v (.int i)) : v = .int i := by cases h; rfl
theorem dp_bl {b : Bool} (h : Dp K G v (.bool b)) : v = .bl b := by cases h; rfl
theorem dp_str {x : Str} (h : Dp K G v (.str x)) : v = .str x := by cases h; rfl
theorem dp_non (h : Dp K G v .none) : v = .non := by cases h; rfl
theorem dp_tup (h : Dp K G v (.tuple ds)) : ∃ a vs, v = .ref a ∧ SqT K G a vs ∧ DpAll K G vs ds := by cases h; exact ⟨_, _, rfl, ‹_›, ‹_›⟩
theorem dp_lst (h : Dp K G v (.list ds)) : ∃ a vs, v = .ref a ∧ SqL K G a vs ∧ DpAll K G vs ds := by cases h; exact ⟨_, _, rfl, ‹_›, ‹_›⟩
theorem dp_nodict {kvs : List (PyData × PyData)} (h : Dp K G v (.dict kvs)) : False := by cases h
theorem dpAll_ints : ∀ ns : List Int, DpAll K G (ns.map V.int) (ns.map PyData.int)
  | [] => .nil
  | n :: r => .cons (.int n) (dpAll_ints r)
theorem dpAll_ints_inv : ∀ {ns : List Int} {vs : List V}, DpAll K G vs (ns.map PyData.int) → vs = ns.map V.int
  | [], _, h => by cases h; rfl
  | n :: r, _, h => by
    cases h with
    | cons a t =>
      cases a
      rw [dpAll_ints_inv t]; rfl
theorem dpAll_bools_inv : ∀ {ns : List Bool} {vs : List V}, DpAll K G vs (ns.map PyData.bool) → vs = ns.map V.bl
  | [], _, h => by cases h; rfl
  | n :: r, _, h => by
    cases h with
    | cons a t =>
      cases a
      rw [dpAll_bools_inv t]; rfl
/-- the type's name -/
def tyN : PyData → String
  | .none => "NoneType"
  | .bool _ => "bool"
  | .int _ => "int"
  | .str _ => "str"
  | .list _ => "list"
  | .tuple _ => "tuple"
  | .dict _ => "dict"
/-- isinstance with a built-in type -/
def isA (d : PyData) (n : String) : Bool := (kitB (tyN d) n).getD false
theorem ty_dp (h : Dp K H v d) : TyX K H v (.type (tyN d)) := by
  cases h with
  | non => exact .base .non
  | bl b => exact .base (.bl b)
  | int i => exact .base (.int i)
  | str x => exact .base (.str x)
  | lst hs _ =>
    rcases hs with (hs | ⟨o, hs⟩) | ⟨o, its, n, hs, hc, _⟩
    · exact .base (.lst hs)
    · exact .base (.frz hs)
    · exact .kList hs hc
  | tup hs _ =>
    rcases hs with (hs | ⟨o, hs⟩) | ⟨o, its, n, hs, hc, _⟩
    · exact .base (.tup hs)
    · exact .fTuple hs
    · exact .kTuple hs hc
end
end Y

namespace Y
open PySem PySem.Spec PyProof.Rows L2
section
variable {K : PySem.W.Frag} {σ : L2.St} {G H H' : Hp} {Q : VK} {D : Ends} {v x y : V} {d e : PyData} {ds es : List PyData} {ta tb te tc : TE} {ts tu tw : TS} {tt uu : TT} {ar : TA} {QA : List V → Hp → Prop} {QT : Bool → Hp → Prop} {i j : Int} {n : Nat}
/-! names, constants, statements -/
theorem g_var {k : Nat} (h : σ[k]? = some (some v)) (q : Q v H) : tVar k σ H Q := ⟨v, h, q⟩
theorem g_c (q : Q v H) : tC v σ H Q := q
theorem g_seq (q : ts { D with nx := tu D } σ H) : tSeq ts tu D σ H := q
theorem g_asg {g : TG} (q : te σ H fun x H1 => g x σ H1 D.nx) : tAsg te g D σ H := q
theorem g_name {k : Nat} {R : L2.St → Hp → Prop} (q : R (σ.set k (some v)) H) : gName k v σ H R := q
theorem g_ret (q : te σ H D.rt) : tRet te D σ H := q
theorem g_retN (q : D.rt .non H) : tRetN D σ H := q
theorem g_drop (q : te σ H fun _ H1 => D.nx σ H1) : tDrop te D σ H := q
theorem g_next (q : D.nx σ H) : tNext D σ H := q
theorem g_ifS (q : tt σ H fun b H1 => if b = true then ts D σ H1 else tu D σ H1) : tIfS tt ts tu D σ H := q
theorem g_ifE (q : tt σ H fun b H1 => if b = true then ta σ H1 Q else tb σ H1 Q) : tIf tt ta tb σ H Q := q
theorem g_nil (q : QA [] H) : tNil σ H QA := q
theorem g_cons (q : ta σ H fun x H1 => ar σ H1 fun xs H2 => QA (x :: xs) H2) : tCons ta ar σ H QA := q
theorem g_op {r : R2} (q : ta σ H fun x H1 => tb σ H1 fun y H2 => r x y H2 Q) : tOp r ta tb σ H Q := q
theorem g_un {r : V → Hp → VK → Prop} (q : ta σ H fun x H1 => r x H1 Q) : tUn r ta σ H Q := q
theorem g_cb {r : List V → Hp → VK → Prop} (q : ar σ H fun vs H1 => r vs H1 Q) : tCB r ar σ H Q := q
theorem g_call {sp : Sp} {dvs : List V} {E : XK} (q : ar σ H fun vs H1 => sp (vs ++ dvs) H1 Q E) : tCall sp dvs E ar σ H Q := q
/-! tests -/
theorem g_test (q : te σ H fun x H' => ∃ k, x = .bl k ∧ QT k H') : tTest te σ H QT := q
theorem g_tB (q : te σ H fun x H' => ∃ k, x = .bl k ∧ QT k H') : tB te σ H QT := q
theorem g_isbl {b : Bool} {P : Bool → Prop} (q : P b) : ∃ k, V.bl b = .bl k ∧ P k := ⟨b, rfl, q⟩
theorem g_and (q : tt σ H fun c H1 => if c = true then uu σ H1 QT else QT false H1) : tAnd tt uu σ H QT := q
theorem g_or (q : tt σ H fun c H1 => if c = true then QT true H1 else uu σ H1 QT) : tOr tt uu σ H QT := q
theorem g_not (q : tt σ H fun c H1 => QT (!c) H1) : tNot tt σ H QT := q
theorem g_andV (q : ta σ H fun x H1 => ∃ c, x = .bl c ∧ if c = true then tb σ H1 Q else Q (.bl false) H1) : tAndV ta tb σ H Q := q
theorem g_orV (q : ta σ H fun x H1 => ∃ c, x = .bl c ∧ if c = true then Q (.bl true) H1 else tb σ H1 Q) : tOrV ta tb σ H Q := q
theorem g_notV (q : ta σ H fun x H1 => ∃ c, x = .bl c ∧ Q (.bl (!c)) H1) : tNotV ta σ H Q := q
theorem g_chain {r r' : R2} (q : ta σ H fun x H1 => tb σ H1 fun y H2 => r x y H2 fun z H3 => ∃ k, z = .bl k ∧ (if k = true then tc σ H3 fun w' H4 => r' y w' H4 Q else Q (.bl false) H3)) : tChain r r' ta tb tc σ H Q := q
theorem g_isN (q : ta σ H fun x H1 => Q (.bl (decide (x = .non))) H1) : tIsN ta σ H Q := q
theorem g_notN (q : ta σ H fun x H1 => Q (.bl (!decide (x = .non))) H1) : tNotN ta σ H Q := q
theorem g_I0 {g : Int → Int → V} (q : Q (g i j) H) : rI0 g (.int i) (.int j) H Q := ⟨i, j, rfl, rfl, q⟩
theorem g_I {C : Int → Int → Prop} {g : Int → Int → V} (c : C i j) (q : Q (g i j) H) : rI C g (.int i) (.int j) H Q := ⟨i, j, rfl, rfl, c, q⟩
theorem g_U {g : Int → V} (q : Q (g i) H) : rU g (.int i) H Q := ⟨i, rfl, q⟩
theorem g_eq (h : scal x y = true) (q : Q (.bl (decide (x = y))) H) : rEq x y H Q := ⟨h, q⟩
theorem g_ne (h : scal x y = true) (q : Q (.bl (!decide (x = y))) H) : rNe x y H Q := ⟨h, q⟩
theorem g_eqII (q : Q (.bl (decide (i = j))) H) : rEq (.int i) (.int j) H Q := ⟨rfl, by
  have z : decide (V.int i = V.int j) = decide (i = j) := by simp
  rw [z]; exact q⟩
theorem g_eqSS {a b : Str} (q : Q (.bl (decide (a = b))) H) : rEq (.str a) (.str b) H Q := ⟨rfl, by
  have z : decide (V.str a = V.str b) = decide (a = b) := by simp
  rw [z]; exact q⟩
theorem g_neII (q : Q (.bl (!decide (i = j))) H) : rNe (.int i) (.int j) H Q := ⟨rfl, by
  have z : decide (V.int i = V.int j) = decide (i = j) := by simp
  rw [z]; exact q⟩
theorem g_neSS {a b : Str} (q : Q (.bl (!decide (a = b))) H) : rNe (.str a) (.str b) H Q := ⟨rfl, by
  have z : decide (V.str a = V.str b) = decide (a = b) := by simp
  rw [z]; exact q⟩
/-! over data -/
theorem g_isi {nm : String} {b : Bool} (e : Ex G H) (h : Dp K G x d) (hb : kitB (tyN d) nm = some b) (q : Q (.bl b) H) : rIsi K [x, .ty nm] H Q :=
  ⟨x, .ty nm, _, _, b, rfl, .ty nm, ty_dp (dp_mono e h), kit_ty hb, q⟩
theorem g_eqD (e : Ex G H) (hx : Dp K G x d) (hy : Dp K G y d') (s1 : SeqAt.shaped d = true) (s2 : SeqAt.shaped d' = true) (q : Q (.bl (PyData.eqv d d')) H) : rEqD K x y H Q :=
  ⟨d, d', dp_mono e hx, dp_mono e hy, s1, s2, q⟩
theorem g_neD (e : Ex G H) (hx : Dp K G x d) (hy : Dp K G y d') (s1 : SeqAt.shaped d = true) (s2 : SeqAt.shaped d' = true) (q : Q (.bl (!PyData.eqv d d')) H) : rNeD K x y H Q :=
  ⟨d, d', dp_mono e hx, dp_mono e hy, s1, s2, q⟩
theorem g_ixT {k : Nat} (e : Ex G H) (h : Dp K G x (.tuple ds)) (hi : ds[k]? = some d) (hj : i = (k : Int)) (q : ∀ v, Dp K G v d → Q v H) : rIxT K x (.int i) H Q := by
  obtain ⟨a, vs, rfl, hs, hd⟩ := dp_tup h
  obtain ⟨v, hv, hD⟩ := dpAll_get hd hi
  subst hj
  exact ⟨a, vs, _, v, rfl, rfl, e.seqT hs, atI_nat hv, q v hD⟩
theorem g_ixL {k : Nat} (e : Ex G H) (h : Dp K G x (.list ds)) (hi : ds[k]? = some d) (hj : i = (k : Int)) (q : ∀ v, Dp K G v d → Q v H) : rIxL K x (.int i) H Q := by
  obtain ⟨a, vs, rfl, hs, hd⟩ := dp_lst h
  obtain ⟨v, hv, hD⟩ := dpAll_get hd hi
  subst hj
  exact ⟨a, vs, _, v, rfl, rfl, e.seqL hs, atI_nat hv, q v hD⟩
end
end Y
namespace Y
open PySem PySem.Spec PyProof.Rows L2
theorem g_dec {p A B : Prop} {d : Decidable p} {i : Decidable (decide p = true)} (h1 : p → A) (h2 : ¬ p → B) : @ite Prop (decide p = true) i A B := by
  by_cases h : p
  · rw [if_pos (decide_eq_true h)]; exact h1 h
  · rw [if_neg (by simp [h])]; exact h2 h
theorem g_ndec {p A B : Prop} {d : Decidable p} {i : Decidable ((!decide p) = true)} (h1 : ¬ p → A) (h2 : p → B) : @ite Prop ((!decide p) = true) i A B := by
  by_cases h : p
  · rw [if_neg (by simp [h])]; exact h2 h
  · rw [if_pos (by simp [h])]; exact h1 h
theorem g_iT {A B : Prop} {i : Decidable (true = true)} (h : A) : @ite Prop (true = true) i A B := by rw [if_pos rfl]; exact h
theorem g_iF {A B : Prop} {i : Decidable (false = true)} (h : B) : @ite Prop (false = true) i A B := by rw [if_neg (by simp)]; exact h
theorem g_inT {A B : Prop} {i : Decidable ((!true) = true)} (h : B) : @ite Prop ((!true) = true) i A B := by rw [if_neg (by simp)]; exact h
theorem g_inF {A B : Prop} {i : Decidable ((!false) = true)} (h : A) : @ite Prop ((!false) = true) i A B := by rw [if_pos (by simp)]; exact h
theorem g_bool {b : Bool} {A B : Prop} {i : Decidable (b = true)} (h1 : b = true → A) (h2 : b = false → B) : @ite Prop (b = true) i A B := by
  cases b with
  | true => rw [if_pos rfl]; exact h1 rfl
  | false => rw [if_neg (by simp)]; exact h2 rfl
theorem q_bl {Q : VK} {H : Hp} {a b : Bool} (q : Q (.bl a) H) (e : a = b) : Q (.bl b) H := e ▸ q
theorem q_int {Q : VK} {H : Hp} {a b : Int} (q : Q (.int a) H) (e : a = b) : Q (.int b) H := e ▸ q
theorem q_str {Q : VK} {H : Hp} {a b : Str} (q : Q (.str a) H) (e : a = b) : Q (.str b) H := e ▸ q
end Y

namespace Y
open PySem PySem.Spec PyProof.Rows L2
/-! ### what the head tells, by names -/
def fdOf (K : PySem.W.Frag) (a : Addr) : FuncData := match K.lookup a with
  | some ⟨_, _, .func fd, _⟩ => fd
  | _ => PySem.W.fnOf "" "" (defArgs (.Pass ⟨0, 0, 0, 0⟩)) [] (defScope (.Pass ⟨0, 0, 0, 0⟩)) .none .none .none .none none .none .none
structure Tx (fa : List He.Fa) (fn : List He.DefD) (bx : PySem.W.Frag → Bool) (K : PySem.W.Frag) (mg : Str → Option Value) : Prop where
  says : He.SaysD fa fn K
  more : bx K = true
  ex : ∃ h : Heap, K.In h ∧ h.Ns mainGlobals mg
section
variable {fa : List He.Fa} {fl : List He.DefD} {bx : PySem.W.Frag → Bool} {K : PySem.W.Frag} {mg : Str → Option Value}
theorem Tx.fn (T : Tx fa fl bx K mg) (i : Nat) {d : He.DefD} (h : fl[i]? = some d) : FunD K d.name d.qual d.params d.body d.scope (d.dvs K) (d.kws K) (He.fAd K d.at_) (fdOf K (He.fAd K d.at_)) := by
  obtain ⟨fd, F⟩ := T.says.def_ i h
  have e : fdOf K (He.fAd K d.at_) = fd := by
    obtain ⟨oc, od, dV, kV, doc, pm, an, cdv, ct, osl, rfl, lk, _⟩ := F.ex
    unfold fdOf
    rw [lk]
  rw [e]
  exact F
theorem Tx.glo (T : Tx fa fl bx K mg) (i : Nat) {x : Str} (h : fa[i]? = some (.glo x) := by rfl) : mg x = some (.ref (He.ga K x)) := let ⟨_, X, G⟩ := T.ex; He.glo_ok X G (T.says.fact i h)
theorem Tx.free (T : Tx fa fl bx K mg) (i : Nat) {x : Str} (h : fa[i]? = some (.free x) := by rfl) : mg x = none := let ⟨_, X, G⟩ := T.ex; He.free_ok X G (T.says.fact i h)
theorem Tx.int (T : Tx fa fl bx K mg) (i : Nat) {x : Str} {n : Int} (h : fa[i]? = some (.int x n) := by rfl) : ∃ t, mg x = some (.int n t) := let ⟨_, X, G⟩ := T.ex; He.int_ok X G (T.says.fact i h)
theorem Tx.str (T : Tx fa fl bx K mg) (i : Nat) {x z : Str} (h : fa[i]? = some (.str x z) := by rfl) : ∃ t, mg x = some (.str z t) := let ⟨_, X, G⟩ := T.ex; He.str_ok X G (T.says.fact i h)
theorem Tx.cls (T : Tx fa fl bx K mg) (i : Nat) {x : Str} (h : fa[i]? = some (.cls x) := by rfl) : Cls K (He.ga K x) := He.cls_ok (T.says.fact i h)
theorem Tx.noat (T : Tx fa fl bx K mg) (i : Nat) {x f : Str} (h : fa[i]? = some (.noat x f) := by rfl) : NoAttr K (He.ga K x) f := He.noat_ok (T.says.fact i h)
theorem Tx.meth (T : Tx fa fl bx K mg) (i : Nat) {x m : Str} (h : fa[i]? = some (.meth x m) := by rfl) : Meth K (He.ga K x) m (He.ma K (He.ga K x) m) := He.meth_ok (T.says.fact i h)
theorem Tx.mkr (T : Tx fa fl bx K mg) (i : Nat) {x : Str} (h : fa[i]? = some (.mkr x) := by rfl) : Mk K (He.ga K x) (He.ma K (He.ga K x) "__init__") := He.mkr_ok (T.says.fact i h)
theorem Tx.exm (T : Tx fa fl bx K mg) (i : Nat) {x y : Str} {b : Bool} (h : fa[i]? = some (.exm x y b) := by rfl) : PySem.W.exmOne K (.ref (He.ga K x)) (.ref (He.ga K y)) = some b := He.exm_ok (T.says.fact i h)
theorem Tx.keep (T : Tx fa fl bx K mg) (i : Nat) {x : Str} (h : fa[i]? = some (.keep x) := by rfl) : PySem.W.keepIn K (.ref (He.ga K x)) = true := He.keep_ok (T.says.fact i h)
end
/-- what a call by name wants -/
structure Cal (K : PySem.W.Frag) (mg : Str → Option Value) (x : Str) (ps : List Str) : Prop where
  g : mg x = some (.ref (He.ga K x))
  k : PySem.W.keepIn K (.ref (He.ga K x)) = true
  b : Binds K (fdOf K (He.ga K x)) ps []
structure CalM (K : PySem.W.Frag) (a : Addr) (ps : List Str) : Prop where
  k : PySem.W.keepIn K (.ref a) = true
  b : Binds K (fdOf K a) ps []
/-- a call of a def without defaults -/
def tCall1 (sp : Sp) (E : XK) (t : TA) : TE := fun σ H Q => t σ H fun vs H1 => sp vs H1 Q E
section
variable {X : Cx} {CX : CXT} {k : Nat} {C : Addr} {ps : List Str} {sp : Sp} {E : XK} {x m : Str} {p pos apos : Pos} {e o : Expr} {es : List Expr} {ta : TE} {t : TA}
theorem pe_callC (F : FnOk X.prog X.w X.K X.mg X.base CX k (He.ga X.K x) (fdOf X.K (He.ga X.K x)) ps sp) (c : Cal X.K X.mg x ps) (hr : Room k X.A) (hg : Gl X x) (hx : Passes CX X E)
    (ha : PA X (e :: es) t) (hdb : (x == ("__debug__" : Str)) = false := by decide) (he : starEach (e :: es) X.env = (false, eval e X.env) :: starEach es X.env := by rfl) (hpl : (backTo pos (starEach es X.env)).any (·.1) = false := by rfl) :
    PE X (.Call (.Name x p) (e :: es) [] pos) (tCall1 sp E t) := by
  have h := pe_call (p := p) (pos := pos) (dvs := []) F hr hg c.g c.k c.b .nil hx ha hdb he hpl
  have e1 : tCall sp [] E t = tCall1 sp E t := by
    unfold tCall tCall1
    simp only [List.append_nil]
  rw [← e1]
  exact h
theorem pe_call0C (F : FnOk X.prog X.w X.K X.mg X.base CX k (He.ga X.K x) (fdOf X.K (He.ga X.K x)) ps sp) (c : Cal X.K X.mg x ps) (hr : Room k X.A) (hg : Gl X x) (hx : Passes CX X E)
    (hdb : (x == ("__debug__" : Str)) = false := by decide) : PE X (.Call (.Name x p) [] [] pos) (tCall1 sp E tNil) := pe_call0 (dvs := []) F hr hg c.g c.k c.b .nil hx hdb
/-- o.m(..) -/
def tMeth1 (C : Addr) (m : Str) (sp : Sp) (E : XK) (ta : TE) (t : TA) : TE := fun σ H Q => ta σ H fun x H1 => ∃ a dx fs, x = .ref a ∧ H1 a = some (.ins C dx fs) ∧ fs.lookup m = none ∧ t σ H1 fun vs H2 => sp (.ref a :: vs) H2 Q E
theorem pe_gint {i : Int} {pos : Pos} (h : ∃ t, X.mg x = some (.int i t)) (hg : Gl X x := by rfl) (hd : (x == ("__debug__" : Str)) = false := by decide) : PE X (.Name x pos) (tC (.int i)) := let ⟨t, h⟩ := h; pe_glob hg h ⟨t, rfl⟩ hd
theorem pe_gstr {i : Str} {pos : Pos} (h : ∃ t, X.mg x = some (.str i t)) (hg : Gl X x := by rfl) (hd : (x == ("__debug__" : Str)) = false := by decide) : PE X (.Name x pos) (tC (.str i)) := let ⟨t, h⟩ := h; pe_glob hg h ⟨t, rfl⟩ hd
end
section
variable {σ : L2.St} {H : Hp} {Q : VK}
theorem g_call1 {sp : Sp} {E : XK} {ar : TA} (q : ar σ H fun vs H1 => sp vs H1 Q E) : tCall1 sp E ar σ H Q := q
end
end Y

namespace Y
open PySem PySem.Spec PyProof.Rows L2
/-! ### readings by name -/
def rLen (K : PySem.W.Frag) : List V → Hp → VK → Prop := fun xs H Q => ∃ p ys, xs = [.ref p] ∧ (SqL K H p ys ∨ SqT K H p ys) ∧ Q (.int ys.length) H
def rLenS : List V → Hp → VK → Prop := fun xs H Q => ∃ z, xs = [.str z] ∧ z.length ≤ sizeLine ∧ Q (.int z.length) H
def rAbs : List V → Hp → VK → Prop := fun xs H Q => ∃ i, xs = [.int i] ∧ Q (.int (if i < 0 then -i else i)) H
def rInt1 : List V → Hp → VK → Prop := fun xs H Q => (∃ i, xs = [.int i] ∧ Q (.int i) H) ∨ ∃ k, xs = [.bl k] ∧ Q (.int (if k then 1 else 0)) H
def rStrI : List V → Hp → VK → Prop := fun xs H Q => ∃ i, xs = [.int i] ∧ i.natAbs.log2 < 1920 ∧ Q (.str (toString i)) H
def rListOf (K : PySem.W.Frag) : List V → Hp → VK → Prop := fun xs H Q => ∃ p ys, xs = [.ref p] ∧ (SqL K H p ys ∨ SqT K H p ys) ∧ ∀ l, H l = none → Q (.ref l) (upd H l (.lst ys))
def rTupOf (K : PySem.W.Frag) : List V → Hp → VK → Prop := fun xs H Q => ∃ p ys, xs = [.ref p] ∧ ((SqL K H p ys ∧ ∀ l, H l = none → Q (.ref l) (upd H l (.tup ys))) ∨ (SqT K H p ys ∧ Q (.ref p) H))
def rAddS : R2 := fun x y H Q => ∃ i j, x = .str i ∧ y = .str j ∧ i.length + j.length ≤ sizeLine ∧ Q (.str (i ++ j)) H
def rMin2 : List V → Hp → VK → Prop := fun xs H Q => ∃ i j, xs = [.int i, .int j] ∧ Q (.int (if j < i then j else i)) H
def rMax2 : List V → Hp → VK → Prop := fun xs H Q => ∃ i j, xs = [.int i, .int j] ∧ Q (.int (if j > i then j else i)) H
def rInSign : R2 := fun x y H Q => ∃ (c : Nat) (z : Str), x = .str ⟨#[c]⟩ ∧ y = .str z ∧ Q (.bl (decide (c ∈ z.cps.toList))) H
def rLenD : List V → Hp → VK → Prop := fun xs H Q => ∃ a kvs, xs = [V.ref a] ∧ H a = some (.dK kvs) ∧ Q (.int kvs.length) H
def MkT (xs : List V) (H1 : Hp) (Q : VK) : Prop := xs.length ≤ sizeLine ∧ ∀ p, H1 p = none → Q (.ref p) (upd H1 p (.tup xs))
def MkL (xs : List V) (H1 : Hp) (Q : VK) : Prop := xs.length ≤ sizeLine ∧ ∀ p, H1 p = none → Q (.ref p) (upd H1 p (.lst xs))
section
variable {X : Cx}
theorem call_len : CallR X (.builtin "len") (rLen X.K) := call_len_seq
theorem call_lenS : CallR X (.builtin "len") rLenS := call_len_str
theorem call_lenDk : CallR X (.builtin "len") rLenD := call_lenD
theorem call_abs : CallR X (.builtin "abs") rAbs := L2.call_abs
theorem call_int1 : CallR X (.type "int") rInt1 := L2.call_int1
theorem call_strI : CallR X (.type "str") rStrI := L2.call_str_int
theorem call_list : CallR X (.type "list") (rListOf X.K) := call_list_of
theorem call_tuple : CallR X (.type "tuple") (rTupOf X.K) := call_tuple_of
theorem op_addS : OpR X (binaryOp .Add) rAddS := op_add_str
theorem op_inSign : OpR X (compareOp .In) rInSign := op_in_sign
theorem call_min (hc : X.calm = true) : CallR X (.builtin "min") rMin2 := call_min2 hc
theorem call_max (hc : X.calm = true) : CallR X (.builtin "max") rMax2 := call_max2 hc
end
section
variable {K : PySem.W.Frag} {σ : L2.St} {G H H' : Hp} {Q : VK} {D : Ends} {v x y : V} {d e' : PyData} {ds es : List PyData} {ta tb te tc : TE} {ts tu tw : TS} {tt uu : TT} {ar : TA} {QA : List V → Hp → Prop} {i j : Int} {n : Nat}
theorem g_lenT (e : Ex G H) (h : Dp K G x (.tuple ds)) (q : Q (.int (ds.length : Int)) H) : rLen K [x] H Q := by
  obtain ⟨a, vs, rfl, hs, hd⟩ := dp_tup h
  exact ⟨a, vs, rfl, .inr (e.seqT hs), by rw [dpAll_len hd]; exact q⟩
theorem g_lenL (e : Ex G H) (h : Dp K G x (.list ds)) (q : Q (.int (ds.length : Int)) H) : rLen K [x] H Q := by
  obtain ⟨a, vs, rfl, hs, hd⟩ := dp_lst h
  exact ⟨a, vs, rfl, .inl (e.seqL hs), by rw [dpAll_len hd]; exact q⟩
theorem g_lenM {p : Addr} {xs : List V} (h : H p = some (.lst xs)) (q : Q (.int (xs.length : Int)) H) : rLen K [.ref p] H Q := ⟨p, xs, rfl, .inl (.of h), q⟩
theorem g_lenS {s : Str} (h : s.length ≤ sizeLine) (q : Q (.int (s.length : Int)) H) : rLenS [.str s] H Q := ⟨s, rfl, h, q⟩
theorem g_abs (q : Q (.int (if i < 0 then -i else i)) H) : rAbs [.int i] H Q := ⟨i, rfl, q⟩
theorem g_int1 (q : Q (.int i) H) : rInt1 [.int i] H Q := .inl ⟨i, rfl, q⟩
theorem g_int1b {k : Bool} (q : Q (.int (if k then 1 else 0)) H) : rInt1 [.bl k] H Q := .inr ⟨k, rfl, q⟩
theorem g_addS {a b : Str} (h : a.length + b.length ≤ sizeLine) (q : Q (.str (a ++ b)) H) : rAddS (.str a) (.str b) H Q := ⟨a, b, rfl, rfl, h, q⟩
theorem g_inSign {c : Nat} {z : Str} (q : Q (.bl (decide (c ∈ z.cps.toList))) H) : rInSign (.str ⟨#[c]⟩) (.str z) H Q := ⟨c, z, rfl, rfl, q⟩
theorem g_isB {a b : Bool} (q : Q (.bl (decide (a = b))) H) : rIsB (.bl a) (.bl b) H Q := ⟨a, b, rfl, rfl, q⟩
theorem g_notB {a b : Bool} (q : Q (.bl (!decide (a = b))) H) : rNotB (.bl a) (.bl b) H Q := ⟨a, b, rfl, rfl, q⟩
theorem g_ixS {s : Str} {c k : Nat} (hs : s.length ≤ sizeLine) (hc : s.cps.toList[k]? = some c) (hj : i = (k : Int)) (q : Q (.str ⟨#[c]⟩) H) : rIxS (.str s) (.int i) H Q := by
  subst hj
  exact ⟨s, _, c, rfl, rfl, hs, atI_nat hc, q⟩
/-- a new tuple | a new list -/
theorem g_tup (q : ar σ H fun xs H1 => MkT xs H1 Q) : tTup ar σ H Q := q
theorem g_lst (q : ar σ H fun xs H1 => MkL xs H1 Q) : tLst ar σ H Q := q
theorem nx_tup {G H : Hp} {p : Addr} {xs : List V} (e : Ex G H) (h : DpAll K G xs ds) (hp : H p = none) : Nx [] G H (upd G p (.tup xs)) (upd H p (.tup xs)) ∧ Dp K (upd G p (.tup xs)) (.ref p) (.tuple ds) :=
  ⟨Nx.new e hp, .tup (.of upd_same) (dpAll_mono (Ex.new (e.free hp)) h)⟩
theorem nx_lst {G H : Hp} {p : Addr} {xs : List V} (e : Ex G H) (h : DpAll K G xs ds) (hp : H p = none) : Nx [] G H (upd G p (.lst xs)) (upd H p (.lst xs)) ∧ Dp K (upd G p (.lst xs)) (.ref p) (.list ds) :=
  ⟨Nx.new e hp, .lst (.of upd_same) (dpAll_mono (Ex.new (e.free hp)) h)⟩
/-- a tuple is made and known: what follows, by G' -/
theorem g_tupD {xs : List V} (e : Ex G H) (h : DpAll K G xs ds) (hl : ds.length ≤ sizeLine) (q : ∀ p G' H', Nx [] G H G' H' → Dp K G' (.ref p) (.tuple ds) → Q (.ref p) H') : MkT xs H Q :=
  ⟨by rw [dpAll_len h]; exact hl, fun p hp => let ⟨a, b⟩ := nx_tup e h hp; q p _ _ a b⟩
theorem g_lstD {xs : List V} (e : Ex G H) (h : DpAll K G xs ds) (hl : ds.length ≤ sizeLine) (q : ∀ p G' H', Nx [] G H G' H' → Dp K G' (.ref p) (.list ds) → Q (.ref p) H') : MkL xs H Q :=
  ⟨by rw [dpAll_len h]; exact hl, fun p hp => let ⟨a, b⟩ := nx_lst e h hp; q p _ _ a b⟩
/-- a list is made that may change -/
theorem g_lstM {xs : List V} (e : Ex G H) (hl : xs.length ≤ sizeLine) (q : ∀ p H', Nx [] G H G H' → H p = none → H' p = some (.lst xs) → G p = none → Q (.ref p) H') : MkL xs H Q :=
  ⟨hl, fun p hp => q p _ (Nx.own e hp) hp upd_same (e.free hp)⟩
/-- tuple(list that was just made) -/
theorem g_tupOfM {p : Addr} {ys : List V} (e : Ex G H) (hp : H p = some (.lst ys)) (h : DpAll K G ys ds) (q : ∀ p G' H', Nx [] G H G' H' → Dp K G' (.ref p) (.tuple ds) → Q (.ref p) H') : rTupOf K [.ref p] H Q :=
  ⟨p, ys, rfl, .inl ⟨.of hp, fun l hl => let ⟨a, b⟩ := nx_tup e h hl; q l _ _ a b⟩⟩
theorem g_tupOfL (e : Ex G H) (h : Dp K G x (.list ds)) (q : ∀ p G' H', Nx [] G H G' H' → Dp K G' (.ref p) (.tuple ds) → Q (.ref p) H') : rTupOf K [x] H Q := by
  obtain ⟨a, vs, rfl, hs, hd⟩ := dp_lst h
  exact ⟨a, vs, rfl, .inl ⟨e.seqL hs, fun l hl => let ⟨a, b⟩ := nx_tup e hd hl; q l _ _ a b⟩⟩
theorem g_tupOfT (e : Ex G H) (h : Dp K G x (.tuple ds)) (q : Q x H) : rTupOf K [x] H Q := by
  obtain ⟨a, vs, rfl, hs, hd⟩ := dp_tup h
  exact ⟨a, vs, rfl, .inr ⟨e.seqT hs, q⟩⟩
theorem g_listOf (e : Ex G H) (h : Dp K G x (.list ds) ∨ Dp K G x (.tuple ds)) (q : ∀ p G' H', Nx [] G H G' H' → Dp K G' (.ref p) (.list ds) → Q (.ref p) H') : rListOf K [x] H Q := by
  rcases h with h | h
  · obtain ⟨a, vs, rfl, hs, hd⟩ := dp_lst h
    exact ⟨a, vs, rfl, .inl (e.seqL hs), fun l hl => let ⟨a, b⟩ := nx_lst e hd hl; q l _ _ a b⟩
  · obtain ⟨a, vs, rfl, hs, hd⟩ := dp_tup h
    exact ⟨a, vs, rfl, .inr (e.seqT hs), fun l hl => let ⟨a, b⟩ := nx_lst e hd hl; q l _ _ a b⟩
theorem g_allM {p : Addr} {ys : List V} {bs : List Bool} (hp : H p = some (.lst ys)) (h : DpAll K G ys (bs.map .bool)) (q : Q (.bl (bs.all id)) H) : rAll K [.ref p] H Q :=
  ⟨p, bs, rfl, by rw [dpAll_bools_inv h] at hp; exact .of hp, q⟩
/-- xs.append(e) -/
theorem g_app {p : Addr} {xs : List V} (hp : H p = some (.lst xs)) (hl : xs.length < sizeLine) (q : Q .non (upd H p (.lst (xs ++ [y])))) : rAppend (.ref p) [y] H Q := ⟨p, xs, y, rfl, rfl, hp, hl, q⟩
theorem g_bm {T : String} {r : V → List V → Hp → VK → Prop} (q : ta σ H fun x H1 => tyV K T x H1 ∧ ar σ H1 fun xs H2 => r x xs H2 Q) : tBM K T r ta ar σ H Q := q
theorem g_bm0 {T : String} {r : V → List V → Hp → VK → Prop} (q : ta σ H fun x H1 => tyV K T x H1 ∧ r x [] H1 Q) : tBM0 K T r ta σ H Q := q
theorem g_tyL {p : Addr} {xs : List V} {P : Prop} (hp : H p = some (.lst xs)) (q : P) : tyV K "list" (.ref p) H ∧ P := ⟨.inl ⟨rfl, _, .of hp⟩, q⟩

/-! ### what is walked -/
structure Src (K : PySem.W.Frag) (M : List Addr) (J : It) (G H : Hp) (ds : List PyData) : Prop where
  go : ∀ i G' H', Nx M G H G' H' → i < ds.length → J.go i H'
  stop : ∀ i G' H', Nx M G H G' H' → ds.length ≤ i → J.stop i H'
  yld : ∀ i d G' H' x H'', Nx M G H G' H' → ds[i]? = some d → J.yld i H' x H'' → ∃ G'', Nx [] G' H' G'' H'' ∧ Dp K G'' x d
theorem src_tup {M : List Addr} {a : Addr} {xs : List V} (hs : SqT K G a xs) (hd : DpAll K G xs ds) : Src K M (Itt K a) G H ds where
  go := fun i G' H' n hi => ⟨xs, xs[i]'(by rw [dpAll_len hd]; exact hi), n.gh.seqT (n.gg.seqT hs), by simp [dpAll_len hd, hi]⟩
  stop := fun i G' H' n hi => ⟨xs, n.gh.seqT (n.gg.seqT hs), by rw [dpAll_len hd]; exact hi⟩
  yld := fun i d G' H' x H'' n hi y => by
    obtain ⟨rfl, f⟩ := y
    have hx := f xs (n.gh.seqT (n.gg.seqT hs))
    obtain ⟨v, hv, dv⟩ := dpAll_get hd hi
    rw [hx] at hv
    cases hv
    exact ⟨G', Nx.refl n.gh, dp_mono n.gg dv⟩
theorem src_lst {M : List Addr} {a : Addr} {xs : List V} (hs : SqL K G a xs) (hd : DpAll K G xs ds) : Src K M (Itl K a) G H ds where
  go := fun i G' H' n hi => ⟨xs, xs[i]'(by rw [dpAll_len hd]; exact hi), n.gh.seqL (n.gg.seqL hs), by simp [dpAll_len hd, hi]⟩
  stop := fun i G' H' n hi => ⟨xs, n.gh.seqL (n.gg.seqL hs), by rw [dpAll_len hd]; exact hi⟩
  yld := fun i d G' H' x H'' n hi y => by
    obtain ⟨rfl, f⟩ := y
    have hx := f xs (n.gh.seqL (n.gg.seqL hs))
    obtain ⟨v, hv, dv⟩ := dpAll_get hd hi
    rw [hx] at hv
    cases hv
    exact ⟨G', Nx.refl n.gh, dp_mono n.gg dv⟩
/-- a list that stands in H, not known (it stays while the walk lasts: not in M) -/
theorem src_own {M : List Addr} {a : Addr} {xs : List V} (hs : H a = some (.lst xs)) (ha : a ∉ M) (hd : DpAll K G xs ds) : Src K M (Itl K a) G H ds where
  go := fun i G' H' n hi => ⟨xs, xs[i]'(by rw [dpAll_len hd]; exact hi), .of (n.fr a _ ha hs), by simp [dpAll_len hd, hi]⟩
  stop := fun i G' H' n hi => ⟨xs, .of (n.fr a _ ha hs), by rw [dpAll_len hd]; exact hi⟩
  yld := fun i d G' H' x H'' n hi y => by
    obtain ⟨rfl, f⟩ := y
    have hx := f xs (.of (n.fr a _ ha hs))
    obtain ⟨v, hv, dv⟩ := dpAll_get hd hi
    rw [hx] at hv
    cases hv
    exact ⟨G', Nx.refl n.gh, dp_mono n.gg dv⟩
/-- a text, sign by sign -/
def sgn (s : Str) : List PyData := s.cps.toList.map fun c => .str ⟨#[c]⟩
theorem sgn_len (s : Str) : (sgn s).length = s.length := by unfold sgn; rw [List.length_map]; exact Array.length_toList
theorem sgn_get {s : Str} {i : Nat} {d : PyData} (h : (sgn s)[i]? = some d) : ∃ c, s.cps.toList[i]? = some c ∧ d = .str ⟨#[c]⟩ := by
  simp only [sgn, List.getElem?_map, Option.map_eq_some_iff] at h
  obtain ⟨x, h1, h2⟩ := h
  exact ⟨x, h1, h2.symm⟩
theorem src_str {M : List Addr} (s : Str) : Src K M (Its s) G H (sgn s) where
  go := fun i G' H' n hi => (by simpa [sgn] using hi : i < s.cps.size)
  stop := fun i G' H' n hi => (by simpa [sgn] using hi : s.cps.size ≤ i)
  yld := fun i d G' H' x H'' n hi y => by
    obtain ⟨rfl, c, hc, rfl⟩ := y
    have e1 : s.cps.toList[i]? = some c := by rw [← hc]; simp
    unfold sgn at hi
    rw [List.getElem?_map, e1] at hi
    cases hi
    exact ⟨G', Nx.refl n.gh, .str _⟩
def rng (lo : Int) (n : Nat) : List PyData := (List.range n).map fun (i : Nat) => .int (lo + (i : Int))
theorem src_rng {M : List Addr} (lo : Int) (n : Nat) : Src K M (Itr lo n) G H (rng lo n) where
  go := fun i G' H' _ hi => (by simpa [rng] using hi : i < n)
  stop := fun i G' H' _ hi => (by simpa [rng] using hi : n ≤ i)
  yld := fun i d G' H' x H'' m hi y => by
    obtain ⟨rfl, rfl⟩ := y
    have hl : i < n := by
      have := (List.getElem?_eq_some_iff.mp hi).1
      simpa [rng] using this
    unfold rng at hi
    rw [List.getElem?_map, List.getElem?_range hl] at hi
    cases hi
    exact ⟨G', Nx.refl m.gh, .int _⟩
def prs (k : Nat) : List PyData → List PyData
  | [] => []
  | d :: r => .tuple [.int (k : Int), d] :: prs (k + 1) r
theorem prs_len : ∀ (k : Nat) (ds : List PyData), (prs k ds).length = ds.length
  | _, [] => rfl
  | k, d :: r => congrArg (· + 1) (prs_len (k + 1) r)
theorem prs_get : ∀ (k : Nat) (ds : List PyData) (i : Nat), (prs k ds)[i]? = (ds[i]?).map fun d => .tuple [.int ((k + i : Nat) : Int), d]
  | _, [], i => by simp [prs]
  | k, d :: r, 0 => by simp [prs]
  | k, d :: r, i + 1 => by
    show (prs (k + 1) r)[i]? = _
    rw [prs_get (k + 1) r i]
    simp only [List.getElem?_cons_succ]
    congr 1
    funext d
    congr 4
    omega
theorem src_enumL {M : List Addr} {a : Addr} {xs : List V} (hs : SqL K G a xs) (hd : DpAll K G xs ds) : Src K M (Ite K a) G H (prs 0 ds) where
  go := fun i G' H' n hi => ⟨xs, xs[i]'(by rw [dpAll_len hd, ← prs_len 0 ds]; exact hi), n.gh.seqL (n.gg.seqL hs), by rw [prs_len] at hi; simp [dpAll_len hd, hi]⟩
  stop := fun i G' H' n hi => ⟨xs, n.gh.seqL (n.gg.seqL hs), by rw [dpAll_len hd, ← prs_len 0 ds]; exact hi⟩
  yld := fun i d G' H' x H'' n hi y => by
    obtain ⟨T, u, rfl, hT, rfl, f⟩ := y
    have hx := f xs (n.gh.seqL (n.gg.seqL hs))
    rw [prs_get] at hi
    cases q : ds[i]? with
    | none => rw [q] at hi; cases hi
    | some d0 =>
      rw [q] at hi
      cases hi
      obtain ⟨v, hv, dv⟩ := dpAll_get hd q
      rw [hx] at hv
      cases hv
      have h2 := nx_tup (K := K) n.gh (xs := [.int ((i : Nat) : Int), u]) (ds := [.int ((0 + i : Nat) : Int), d0]) (by rw [Nat.zero_add]; exact .cons (.int _) (.cons (dp_mono n.gg dv) .nil)) hT
      exact ⟨_, h2.1, h2.2⟩
end
end Y

namespace Y
open PySem PySem.Spec PyProof.Rows L2
/-! ### loops -/
/-- what tFor asks behind its walk -/
def ForW (J : It) (g : TG) (tb : TS) (D : Ends) (σ : L2.St) (H1 : Hp) : Prop := ∃ W : Nat → Nat → L2.St → Hp → Prop, (∃ m, W 0 m σ H1) ∧ ∀ i m σ H, W i m σ H →
  (J.stop i H ∧ D.nx σ H) ∨ (J.go i H ∧ ∃ N : L2.St → Hp → Prop, (∀ σ' H', N σ' H' → ∃ m', m' < m ∧ W (i + 1) m' σ' H') ∧ ∀ x H', J.yld i H x H' → g x σ H' fun σ2 H2 => tb { D with nx := N, ct := N, bk := D.nx } σ2 H2)
def LcW (J : It) (g : TG) (tt : TT) (te : TE) (vs : List Nat) (σ : L2.St) (D : Addr) (Q : VK) (H1 : Hp) : Prop := ∃ W : Nat → Nat → Hp → Prop, (∃ m, W 0 m (upd H1 D (.lst []))) ∧ ∀ i m H, W i m H →
  (J.stop i H ∧ Q (.ref D) H) ∨ (J.go i H ∧ ∃ Nx : Hp → Prop, (∀ H', Nx H' → ∃ m', m' < m ∧ W (i + 1) m' H') ∧ ∀ x H', J.yld i H x H' → g x (wipe σ vs) H' fun σ2 H2 => wipe σ2 vs = wipe σ vs ∧ tt σ2 H2 fun b H3 =>
    if b = true then te σ2 H3 fun y H4 => ∃ acc, H4 D = some (.lst acc) ∧ acc.length < sizeLine ∧ Nx (upd H4 D (.lst (acc ++ [y]))) else Nx H3)
section
variable {K : PySem.W.Frag} {σ : L2.St} {G H : Hp} {Q : VK} {D : Ends} {x : V} {ds : List PyData} {tl te : TE} {tb : TS} {tt : TT} {ta : TA} {wi : TI} {g : TG} {J : It} {M : List Addr} {vs : List Nat} {R : It → Hp → Prop}
theorem g_yes {QT : Bool → Hp → Prop} (q : QT true H) : tYes σ H QT := q
theorem g_for (q : wi σ H fun J H1 => ForW J g tb D σ H1) : tFor wi g tb D σ H := q
theorem g_lc (q : wi σ H fun J H1 => ∀ A, H1 A = none → LcW J g tt te vs σ A Q H1) : tLc wi g tt te vs σ H Q := q
theorem g_iTup (q : tl σ H fun x H1 => ∃ a, x = .ref a ∧ (∃ xs, SqT K H1 a xs) ∧ R (Itt K a) H1) : iTup K tl σ H R := q
theorem g_iList (q : tl σ H fun x H1 => ∃ a, x = .ref a ∧ (∃ xs, SqL K H1 a xs) ∧ R (Itl K a) H1) : iList K tl σ H R := q
theorem g_iStr (q : tl σ H fun v H1 => ∃ x, v = .str x ∧ R (Its x) H1) : iStr tl σ H R := q
theorem g_iRng1 (q : ta σ H fun vs H1 => ∃ j : Int, vs = [.int j] ∧ -(2 ^ 62) ≤ j ∧ j < 2 ^ 62 ∧ R (Itr 0 j.toNat) H1) : iRng1 ta σ H R := q
theorem g_iRng2 (q : ta σ H fun vs H1 => ∃ i j : Int, vs = [.int i, .int j] ∧ (-(2 ^ 62) ≤ i ∧ i < 2 ^ 62 ∧ -(2 ^ 62) ≤ j ∧ j < 2 ^ 62) ∧ R (Itr i (j - i).toNat) H1) : iRng2 ta σ H R := q
theorem g_iEnum (q : ta σ H fun vs H1 => ∃ a xs, vs = [.ref a] ∧ SqL K H1 a xs ∧ R (Ite K a) H1) : iEnum K ta σ H R := q
/-- the thing walked is known data -/
theorem g_walkT {P : Addr → Prop} (e : Ex G H) (h : Dp K G x (.tuple ds)) (q : ∀ a, x = .ref a → (∀ M, Src K M (Itt K a) G H ds) → P a) : ∃ a, x = .ref a ∧ (∃ xs, SqT K H a xs) ∧ P a := by
  obtain ⟨a, xs, rfl, hs, hd⟩ := dp_tup h
  exact ⟨a, rfl, ⟨xs, e.seqT hs⟩, q a rfl fun M => src_tup hs hd⟩
theorem g_walkL {P : Addr → Prop} (e : Ex G H) (h : Dp K G x (.list ds)) (q : ∀ a, x = .ref a → (∀ M, Src K M (Itl K a) G H ds) → P a) : ∃ a, x = .ref a ∧ (∃ xs, SqL K H a xs) ∧ P a := by
  obtain ⟨a, xs, rfl, hs, hd⟩ := dp_lst h
  exact ⟨a, rfl, ⟨xs, e.seqL hs⟩, q a rfl fun M => src_lst hs hd⟩
theorem g_walkM {P : Addr → Prop} {a : Addr} {xs : List V} (h : H a = some (.lst xs)) (hd : DpAll K G xs ds) (q : (∀ M, a ∉ M → Src K M (Itl K a) G H ds) → P a) : ∃ b, V.ref a = .ref b ∧ (∃ xs, SqL K H b xs) ∧ P b :=
  ⟨a, rfl, ⟨xs, .of h⟩, q fun M ha => src_own h ha hd⟩
theorem g_walkS {P : Str → Prop} {s : Str} (q : P s) : ∃ x, V.str s = .str x ∧ P x := ⟨s, rfl, q⟩
theorem g_walkR {P : Int → Prop} {j : Int} (h : j < 2 ^ 62) (h0 : -(2 ^ 62) ≤ j) (q : P j) : ∃ i : Int, [V.int j] = [.int i] ∧ -(2 ^ 62) ≤ i ∧ i < 2 ^ 62 ∧ P i := ⟨j, rfl, h0, h, q⟩
theorem g_walkR2 {P : Int → Int → Prop} {i j : Int} (h : -(2 ^ 62) ≤ i ∧ i < 2 ^ 62 ∧ -(2 ^ 62) ≤ j ∧ j < 2 ^ 62) (q : P i j) :
    ∃ k l : Int, [V.int i, V.int j] = [.int k, .int l] ∧ (-(2 ^ 62) ≤ k ∧ k < 2 ^ 62 ∧ -(2 ^ 62) ≤ l ∧ l < 2 ^ 62) ∧ P k l := ⟨i, j, rfl, h, q⟩
theorem g_walkE {P : Addr → Prop} (e : Ex G H) (h : Dp K G x (.list ds)) (q : ∀ a, x = .ref a → (∀ M, Src K M (Ite K a) G H (prs 0 ds)) → P a) : ∃ a xs, [x] = [.ref a] ∧ SqL K H a xs ∧ P a := by
  obtain ⟨a, xs, rfl, hs, hd⟩ := dp_lst h
  exact ⟨a, xs, rfl, e.seqL hs, q a rfl fun M => src_enumL hs hd⟩

/-- THE LOOP: Pv by the turn, the slots, what is known, the heap; M: the cells that it changes -/
theorem g_forS (S : Src K M J G H ds) (e : Ex G H) (Pv : Nat → L2.St → Hp → Hp → Prop) (h0 : Pv 0 σ G H)
    (hs : ∀ i d v σ' G' H' G1 H1, ds[i]? = some d → Nx M G H G' H' → Pv i σ' G' H' → Nx [] G' H' G1 H1 → Dp K G1 v d →
      g v σ' H1 fun σ2 H2 => tb { D with nx := fun σ3 H3 => ∃ G3, Nx M G H G3 H3 ∧ Pv (i + 1) σ3 G3 H3, ct := fun σ3 H3 => ∃ G3, Nx M G H G3 H3 ∧ Pv (i + 1) σ3 G3 H3, bk := D.nx } σ2 H2)
    (hd : ∀ σ' G' H', Nx M G H G' H' → Pv ds.length σ' G' H' → D.nx σ' H') : ForW J g tb D σ H := by
  refine ⟨fun i m σ' H' => m = ds.length - i ∧ i ≤ ds.length ∧ ∃ G', Nx M G H G' H' ∧ Pv i σ' G' H', ⟨ds.length, by simp, Nat.zero_le _, G, Nx.refl e, h0⟩, ?_⟩
  rintro i m σ' H' ⟨rfl, hi, G', n, p⟩
  by_cases hlt : i < ds.length
  · refine .inr ⟨S.go i G' H' n hlt, fun σ3 H3 => ∃ G3, Nx M G H G3 H3 ∧ Pv (i + 1) σ3 G3 H3, fun σ3 H3 ⟨G3, n3, p3⟩ => ⟨ds.length - (i + 1), by omega, rfl, hlt, G3, n3, p3⟩, fun v H1 y => ?_⟩
    have hg : ds[i]? = some ds[i] := by simp [hlt]
    obtain ⟨G1, n1, d1⟩ := S.yld i _ G' H' v H1 n hg y
    exact hs i _ v σ' G' H' G1 H1 hg n p n1 d1
  · have e' : i = ds.length := by omega
    subst e'
    exact .inl ⟨S.stop _ G' H' n (Nat.le_refl _), hd σ' G' H' n p⟩
theorem wipe1 {σ : L2.St} {j : Nat} {v : V} : wipe ((wipe σ [j]).set j (some v)) [j] = wipe σ [j] := by
  show ((σ.set j none).set j (some v)).set j none = σ.set j none
  rw [List.set_set, List.set_set]
/-- THE COMPREHENSION over one name, with tests: Jv tells the items so far and what else holds of the heap -/
theorem g_lcH {A : Addr} {j : Nat} (S : Src K M J G H ds) (e : Ex G H) (hA : H A = none) (hM : ∀ b ∈ M, H b ≠ none) (hz : ds.length < sizeLine) (Jv : Nat → List PyData → Hp → Hp → Prop)
    (jA : ∀ i acc G' H' o, Jv i acc G' H' → Jv i acc G' (upd H' A o)) (jN : ∀ i acc G' H' G1 H1, Nx [] G' H' G1 H1 → Jv i acc G' H' → Jv i acc G1 H1) (j0 : Jv 0 [] G H)
    (hs : ∀ i d v acc G' H', ds[i]? = some d → Dp K G' v d → Nx M G H G' H' → acc.length ≤ i → Jv i acc G' H' → ∀ (QE : VK) (QN : Hp → Prop),
      (∀ y G4 H4 d', Nx M G' H' G4 H4 → Dp K G4 y d' → Jv (i + 1) (acc ++ [d']) G4 H4 → QE y H4) → (∀ G3 H3, Nx M G' H' G3 H3 → Jv (i + 1) acc G3 H3 → QN H3) →
      tt ((wipe σ [j]).set j (some v)) H' fun b H3 => if b = true then te ((wipe σ [j]).set j (some v)) H3 QE else QN H3)
    (hd : ∀ G' H' ys acc, Jv ds.length acc G' H' → Nx M G H G' H' → G' A = none → H' A = some (.lst ys) → DpAll K G' ys acc → Q (.ref A) H') : LcW J (gName j) tt te [j] σ A Q H := by
  have st0 : Nx [] G H G (upd H A (.lst [])) := Nx.own e hA
  refine ⟨fun i m H' => m = ds.length - i ∧ i ≤ ds.length ∧ ∃ G' ys acc, Nx M G H G' H' ∧ G' A = none ∧ H' A = some (.lst ys) ∧ DpAll K G' ys acc ∧ acc.length ≤ i ∧ Jv i acc G' H',
    ⟨ds.length, by simp, Nat.zero_le _, G, [], [], st0.pure, e.free hA, upd_same, .nil, Nat.le_refl _, jA _ _ _ _ _ j0⟩, ?_⟩
  rintro i m H' ⟨rfl, hi, G', ys, acc, n, gA, hys, da, hl, jv⟩
  have hAM : A ∉ M := fun z => hM A z hA
  by_cases hlt : i < ds.length
  · refine .inr ⟨S.go i G' H' n hlt, fun H'' => ∃ G'' ys acc, Nx M G H G'' H'' ∧ G'' A = none ∧ H'' A = some (.lst ys) ∧ DpAll K G'' ys acc ∧ acc.length ≤ i + 1 ∧ Jv (i + 1) acc G'' H'',
      fun H'' ⟨G'', ys', acc', r⟩ => ⟨ds.length - (i + 1), by omega, rfl, hlt, G'', ys', acc', r⟩, fun v H1 y => ?_⟩
    have hg : ds[i]? = some ds[i] := by simp [hlt]
    obtain ⟨G1, n1, d1⟩ := S.yld i _ G' H' v H1 n hg y
    have n2 : Nx M G H G1 H1 := n.trans n1.pure
    have gA1 : G1 A = none := n1.old A gA ⟨_, hys, fun _ z => nomatch z⟩
    have hys1 : H1 A = some (.lst ys) := n1.fr A _ (by simp) hys
    refine ⟨wipe1, hs i _ v acc G1 H1 hg d1 n2 hl (jN _ _ _ _ _ _ n1 jv) _ _ (fun y G4 H4 d' n4 dy jv' => ?_) (fun G3 H3 n3 jv' => ?_)⟩
    · have gA4 : G4 A = none := n4.old A gA1 ⟨_, hys1, fun _ z => nomatch z⟩
      have hys4 : H4 A = some (.lst ys) := n4.fr A _ hAM hys1
      have n5 : Nx M G H G4 H4 := n2.trans n4
      have n6 : Nx [A] G4 H4 G4 (upd H4 A (.lst (ys ++ [y]))) := Nx.set n4.gh gA4 (by simp)
      have n7 : Nx (A :: M) G H G4 (upd H4 A (.lst (ys ++ [y]))) := (n5.mono fun _ z => List.mem_cons_of_mem _ z).trans (n6.mono fun b z => by simp at z; simp [z])
      refine ⟨ys, hys4, ?_, G4, ys ++ [y], acc ++ [d'], n7.drop hA, gA4, upd_same, dpAll_snoc (dpAll_mono (n1.gg.trans n4.gg) da) dy, by simp; omega, jA _ _ _ _ _ jv'⟩
      have := dpAll_len da
      omega
    · exact ⟨G3, ys, acc, n2.trans n3, n3.old A gA1 ⟨_, hys1, fun _ z => nomatch z⟩, n3.fr A _ hAM hys1, dpAll_mono (n1.gg.trans n3.gg) da, by omega, jv'⟩
  · have e' : i = ds.length := by omega
    subst e'
    exact .inl ⟨S.stop _ G' H' n (Nat.le_refl _), hd G' H' ys acc jv n gA hys da⟩
theorem g_lcG {A : Addr} {j : Nat} (S : Src K M J G H ds) (e : Ex G H) (hA : H A = none) (hM : ∀ b ∈ M, H b ≠ none) (hz : ds.length < sizeLine) (P : Hp → Hp → Prop) (p0 : P G H) (pA : ∀ G' H' o, P G' H' → P G' (upd H' A o)) (pN : ∀ G' H' G1 H1, Nx [] G' H' G1 H1 → P G' H' → P G1 H1)
    (Jv : Nat → List PyData → Prop) (j0 : Jv 0 [])
    (hs : ∀ i d v acc G' H', ds[i]? = some d → Dp K G' v d → Nx M G H G' H' → P G' H' → acc.length ≤ i → Jv i acc → ∀ (QE : VK) (QN : Hp → Prop),
      (∀ y G4 H4 d', Nx M G' H' G4 H4 → P G4 H4 → Dp K G4 y d' → Jv (i + 1) (acc ++ [d']) → QE y H4) → (∀ G3 H3, Nx M G' H' G3 H3 → P G3 H3 → Jv (i + 1) acc → QN H3) →
      tt ((wipe σ [j]).set j (some v)) H' fun b H3 => if b = true then te ((wipe σ [j]).set j (some v)) H3 QE else QN H3)
    (hd : ∀ G' H' ys acc, Jv ds.length acc → Nx M G H G' H' → P G' H' → G' A = none → H' A = some (.lst ys) → DpAll K G' ys acc → Q (.ref A) H') : LcW J (gName j) tt te [j] σ A Q H :=
  g_lcH S e hA hM hz (fun i acc G' H' => P G' H' ∧ Jv i acc) (fun _ _ G' H' o h => ⟨pA G' H' o h.1, h.2⟩) (fun _ _ _ _ _ _ n h => ⟨pN _ _ _ _ n h.1, h.2⟩) ⟨p0, j0⟩
    (fun i d v acc G' H' a1 a2 a3 a4 a5 QE QN k1 k2 => hs i d v acc G' H' a1 a2 a3 a5.1 a4 a5.2 QE QN (fun y G4 H4 d' b1 b2 b3 b4 => k1 y G4 H4 d' b1 b3 ⟨b2, b4⟩) fun G3 H3 b1 b2 b3 => k2 G3 H3 b1 ⟨b2, b3⟩) fun G' H' ys acc a1 a2 a3 a4 a5 => hd G' H' ys acc a1.2 a2 a1.1 a3 a4 a5
theorem g_lcS {A : Addr} {j : Nat} (S : Src K M J G H ds) (e : Ex G H) (hA : H A = none) (hM : ∀ b ∈ M, H b ≠ none) (hz : ds.length < sizeLine) (Jv : Nat → List PyData → Prop) (j0 : Jv 0 [])
    (hs : ∀ i d v acc G' H', ds[i]? = some d → Dp K G' v d → Nx M G H G' H' → acc.length ≤ i → Jv i acc → ∀ (QE : VK) (QN : Hp → Prop),
      (∀ y G4 H4 d', Nx M G' H' G4 H4 → Dp K G4 y d' → Jv (i + 1) (acc ++ [d']) → QE y H4) → (∀ G3 H3, Nx M G' H' G3 H3 → Jv (i + 1) acc → QN H3) →
      tt ((wipe σ [j]).set j (some v)) H' fun b H3 => if b = true then te ((wipe σ [j]).set j (some v)) H3 QE else QN H3)
    (hd : ∀ G' H' ys acc, Jv ds.length acc → Nx M G H G' H' → G' A = none → H' A = some (.lst ys) → DpAll K G' ys acc → Q (.ref A) H') : LcW J (gName j) tt te [j] σ A Q H :=
  g_lcG S e hA hM hz (fun _ _ => True) trivial (fun _ _ _ _ => trivial) (fun _ _ _ _ _ _ => trivial) Jv j0 (fun i d v acc G' H' a1 a2 a3 _ a4 a5 QE QN k1 k2 => hs i d v acc G' H' a1 a2 a3 a4 a5 QE QN (fun y G4 H4 d' b1 b2 b3 => k1 y G4 H4 d' b1 trivial b2 b3) fun G3 H3 b1 b2 => k2 G3 H3 b1 trivial b2) fun G' H' ys acc a1 a2 _ a3 a4 a5 => hd G' H' ys acc a1 a2 a3 a4 a5
/-- .. that maps: es by place -/
theorem g_lcMap {A : Addr} {j : Nat} {es : List PyData} (S : Src K M J G H ds) (e : Ex G H) (hA : H A = none) (hM : ∀ b ∈ M, H b ≠ none) (hz : ds.length < sizeLine) (hl : es.length = ds.length)
    (hs : ∀ (i : Nat) d d' v G' H', ds[i]? = some d → es[i]? = some d' → Dp K G' v d → Nx M G H G' H' → ∀ (QE : VK), (∀ y G4 H4, Nx M G' H' G4 H4 → Dp K G4 y d' → QE y H4) → te ((wipe σ [j]).set j (some v)) H' QE)
    (hd : ∀ G' H' ys, Nx M G H G' H' → G' A = none → H' A = some (.lst ys) → DpAll K G' ys es → Q (.ref A) H') : LcW J (gName j) tYes te [j] σ A Q H := by
  refine g_lcS S e hA hM hz (fun i acc => acc = es.take i) (by simp) (fun i d v acc G' H' hi dv n _ hj QE QN k1 k2 => ?_) (fun G' H' ys acc hj n g h da => ?_)
  · show (if true = true then te ((wipe σ [j]).set j (some v)) H' QE else QN H')
    rw [if_pos rfl]
    have hlt : i < es.length := by rw [hl]; exact (List.getElem?_eq_some_iff.mp hi).1
    refine hs i d es[i] v G' H' hi (by simp [hlt]) dv n QE fun y G4 H4 n4 dy => k1 y G4 H4 es[i] n4 dy ?_
    rw [hj, List.take_add_one]
    simp [hlt]
  · refine hd G' H' ys n g h ?_
    rw [hj, ← hl, List.take_length] at da
    exact da
end
end Y

namespace Y
open PySem PySem.Spec PyProof.Rows L2
/-! ### data of a size that the machine takes -/
mutual
def fit : PyData → Bool
  | .none => true
  | .bool _ => true
  | .int _ => true
  | .str s => decide (s.length ≤ 100000) && PyData.strOk s
  | .list xs => decide (xs.length ≤ 100000) && fitAll xs
  | .tuple xs => decide (xs.length ≤ 100000) && fitAll xs
  | .dict _ => false
def fitAll : List PyData → Bool
  | [] => true
  | x :: xs => fit x && fitAll xs
end
theorem fit_get : ∀ {xs : List PyData} {i : Nat} {d : PyData}, fitAll xs = true → xs[i]? = some d → fit d = true
  | [], i, d, _, h => by simp at h
  | x :: xs, 0, d, f, h => by
    rw [fitAll, Bool.and_eq_true] at f
    cases h
    exact f.1
  | x :: xs, i + 1, d, f, h => by
    rw [fitAll, Bool.and_eq_true] at f
    exact fit_get (i := i) f.2 h
theorem fit_str {s : Str} (h : fit (.str s) = true) : s.length ≤ sizeLine := by
  rw [fit, Bool.and_eq_true] at h
  exact Nat.le_trans (of_decide_eq_true h.1) (by decide)
theorem fit_tup {xs : List PyData} (h : fit (.tuple xs) = true) : xs.length ≤ 100000 ∧ fitAll xs = true := by
  rw [fit, Bool.and_eq_true] at h
  exact ⟨of_decide_eq_true h.1, h.2⟩
theorem fit_lst {xs : List PyData} (h : fit (.list xs) = true) : xs.length ≤ 100000 ∧ fitAll xs = true := by
  rw [fit, Bool.and_eq_true] at h
  exact ⟨of_decide_eq_true h.1, h.2⟩
theorem fitAll_iff : ∀ {xs : List PyData}, fitAll xs = true ↔ ∀ d ∈ xs, fit d = true
  | [] => by simp [fitAll]
  | x :: xs => by
    rw [fitAll, Bool.and_eq_true, fitAll_iff (xs := xs)]
    simp
theorem szl {n : Nat} (h : n ≤ 100000) : n < sizeLine := Nat.lt_of_le_of_lt h (by decide)
theorem szle {n : Nat} (h : n ≤ 100000) : n ≤ sizeLine := Nat.le_of_lt (szl h)
theorem canLay_fit : ∀ d : PyData, fit d = true → d.canLay0 = true
  | .none, _ => rfl
  | .bool _, _ => rfl
  | .int _, _ => rfl
  | .str s, h => by
    rw [PyData.canLay0]
    rw [fit, Bool.and_eq_true] at h
    exact h.2
  | .list xs, h => by
    rw [PyData.canLay0]
    exact canLayAll_fit xs (fit_lst h).2
  | .tuple xs, h => by
    rw [PyData.canLay0]
    exact canLayAll_fit xs (fit_tup h).2
  | .dict _, h => by rw [fit] at h; cases h
where canLayAll_fit : ∀ xs : List PyData, fitAll xs = true → PyData.canLayAll0 xs = true
  | [], _ => rfl
  | x :: xs, h => by
    rw [fitAll, Bool.and_eq_true] at h
    rw [PyData.canLayAll0, canLay_fit x h.1, canLayAll_fit xs h.2]
    rfl
/-- shaped: data of a depth that is written -/
theorem shaped_fit {d : PyData} (h : fit d = true) (hd : d.depth ≤ 64) : SeqAt.shaped d = true := by
  unfold SeqAt.shaped
  rw [canLay_fit d h, decide_eq_true hd]
  rfl
end Y

namespace PySem
namespace YEn
open PySem PyProof.Rows
theorem new1 {v : Value} {o : Obj} {H : Heap → Prop} (B : Begins v o H) :
    Meets (Builtin.«enumerate.__new__» ⟨[.type "enumerate", v], []⟩) (fun _ R s => H s.heap ∧
      R (.ok (.ret (.ref (s.heap.push o).objs.size))) { s with heap := (s.heap.push o).push { cls := .type "enumerate", data := .fields #[.none, .bool false, .ref s.heap.objs.size, rawInt 0, .none, .none] } }) :=
  .of_wp fun prog w A R s h => by
    obtain ⟨hp, g, d, tk, os⟩ := s; obtain ⟨h1, h⟩ := h
    have hsub := sub_enumerate
    have q1 : ∀ {A' : Around} {E : Value → Shared → Prop} {Q : Value → Shared → Prop}, Q (.ref hp.objs.size) ⟨hp.push o, g, d, tk, os⟩ → wpAny (model prog w) A' (pyIter v) Q E ⟨hp, g, d, tk, os⟩ :=
      fun q => B.iter prog w _ _ ⟨hp, g, d, tk, os⟩ _ h1 q
    wp_walk using q1
    refine wpAny_stack_any fun st => wpAny_pure ?_
    split
    · rename_i c _ _ _ _ _
      cases (c == Value.type "enumerate")
      · wp_walk using q1
        exact ⟨_, rfl, h⟩
      · wp_walk using q1
        exact ⟨_, rfl, h⟩
    · wp_walk using q1
      exact ⟨_, rfl, h⟩
section
variable {prog : Program} {w : World} {A : Around} {E : Value → Shared → Prop} {s : Shared}
theorem begins1 {v : Value} {o : Obj} {H : Heap → Prop} {Q : Value → Shared → Prop} (B : Begins v o H) (h1 : H s.heap)
    (h : ∀ h', IsEnum h' (s.heap.objs.size + 1) s.heap.objs.size 0 .none → h'.get? s.heap.objs.size = some o → h'.objs.size = s.heap.objs.size + 2 →
      (∀ b o, s.heap.get? b = some o → h'.get? b = some o) → Q (.ref (s.heap.objs.size + 1)) { s with heap := h' }) :
    wpAny (model prog w) A (call (.type "enumerate") [v]) Q E s := by
  refine callType_new F.called_enumerate (by decide) (F.typeCall_enumerate_1 _) (F.newCall_enumerate_1 _) (fun obj => F.args_object_init_2 obj _) F.entry_enumerate_new
    (new1 B) ⟨h1, ?_⟩
  have hz : (s.heap.push o).objs.size = s.heap.objs.size + 1 := Heap.size_push ..
  show _ ∧ _
  rw [hz]
  have he : IsEnum ((s.heap.push o).push { cls := .type "enumerate", data := .fields #[.none, .bool false, .ref s.heap.objs.size, rawInt 0, .none, .none] }) (s.heap.objs.size + 1) s.heap.objs.size 0 .none := by
    have := Heap.get?_push_size (s.heap.push o) (o := { cls := .type "enumerate", data := .fields #[.none, .bool false, .ref s.heap.objs.size, rawInt 0, .none, .none] }) rfl
    rw [hz] at this; exact this
  refine ⟨⟨_, he, rfl⟩, h _ he (Heap.get?_push_of_some _ (Heap.get?_push_size _ B.free)) (by rw [Heap.size_push, hz]) fun b o x => Heap.get?_push_of_some _ (Heap.get?_push_of_some _ x)⟩
end
end YEn
end PySem
namespace Y
open PySem PySem.Spec PyProof.Rows L2
/-- the tuple at a, each item in a new pair -/
def Itu (K : PySem.W.Frag) (a : Addr) : It :=
  ⟨fun i H => ∃ (xs : List V) (x : V), SqT K H a xs ∧ xs[i]? = some x, fun i H v H' => ∃ T x, v = .ref T ∧ H T = none ∧ H' = upd H T (.tup [.int (i : Nat), x]) ∧ ∀ xs, SqT K H a xs → xs[i]? = some x, fun i H => ∃ xs : List V, SqT K H a xs ∧ xs.length ≤ i⟩
theorem turn_enumT {P : Program} {w : World} {K : PySem.W.Frag} {elts : List Expr} {kk : Nat} {tpos : Pos} (a e it : Addr) (items : Array Value) (hae : a ≠ it) :
    Turn P w K (.Tuple elts kk tpos) (Itu K a) [e, it] e (fun i h => (∃ old, IsEnum h e it ((i : Nat) : Int) old) ∧ h.IsTupleIter it a i ∧ e ≠ it) where
  mem := by simp
  obj := fun i h st b hb => by
    obtain ⟨⟨old, he⟩, ⟨o, ho, hc, hd⟩, _⟩ := st
    have e' : b = e ∨ b = it := by simpa using hb
    rcases e' with z | z
    · rw [z]; exact ⟨_, he, fun v q => nomatch q⟩
    · rw [z]; exact ⟨o, ho, fun v q => by rw [hd] at q; cases q⟩
  keep := fun i h h' st k => let ⟨⟨old, he⟩, hi, hne⟩ := st; ⟨⟨old, k e (by simp) _ he⟩, hi.at fun o q => k it (by simp) o q, hne⟩
  item := by
    intro X hP hw hK hc i pins s σ H E I hf st hg
    subst hP hw hK
    obtain ⟨⟨old, he⟩, hit, hne⟩ := st
    obtain ⟨xs, x, hq, hx⟩ := hg
    obtain ⟨its, rv, p, hz⟩ := I.tuple hq
    obtain ⟨u, hu, ru⟩ := rv.get hx
    have hel : e < s.heap.objs.size := Heap.lt_size he
    have D := Draws.tuple (prog := X.prog) (w := X.w) (A := X.A.in1) (I.ok.hd hc) it a hae its.toArray
    have hea : e ≠ a := fun z => by
      obtain ⟨o, ho, ho2, _⟩ := p
      rw [← z, he] at ho; cases ho; injection ho2 with h3; exact absurd h3 (by decide)
    have hlt : i < its.toArray.size := by
      have := (List.getElem?_eq_some_iff.mp hu).1
      simpa using this
    refine wpAny_pyNext_enum_itemD D he ⟨hit, p⟩ hlt hne (by simp [hne, hea]) fun y h' tk hy ho hst' hT hsz hk => ?_
    have ey : y = u := by
      have : its.toArray[i]? = some u := by simpa using hu
      rw [this] at hy
      exact (Option.some.inj hy).symm
    subst ey
    refine ⟨_, rfl, wpAny_letOwnedTupleGo_enum (s := { s with heap := h', toks := tk + 1 }) ho fun h'' he' sb => ?_⟩
    have hT2 : h''.get? s.heap.objs.size = some { cls := .type "tuple", data := .seq #[.int i tk, y] } := (sb.2 _ (Nat.ne_of_gt hel)).trans hT
    have new : ObjOk X.prog X.w (upd H s.heap.objs.size (.tup [.int (i : Nat), x])) h'' s.heap.objs.size (.tup [.int (i : Nat), x]) :=
      ⟨by show 2 ≤ sizeLine; decide, [.int i tk, y], .cons ⟨_, rfl⟩ (.cons ru .nil), ⟨_, hT2, rfl, _, rfl⟩⟩
    have I1 : Inv X pins σ (upd H s.heap.objs.size (.tup [.int (i : Nat), x])) { s with heap := h'', toks := tk + 1 } :=
      I.turnedNew (ch := [e, it]) (fun b ob hb q => (sb.2 b (fun z => hb (by simp [z]))).trans (hk b ob (fun z => hb (by simp [z])) (fun z => hb (by simp [z])) q)) hf (Nat.le_refl _) new
    refine ⟨.ref s.heap.objs.size, _, I1, rfl, ⟨_, x, rfl, I.hok.fresh (Nat.le_refl _), rfl, fun ys hy => by rw [I.tuple_inj hy hq]; exact hx⟩, ⟨⟨y, ?_⟩, hst'.1.at fun o q => (sb.2 it (Ne.symm hne)).trans q, hne⟩, fun b hb => ?_⟩
    · have e1 : ((i + 1 : Nat) : Int) = (i : Int) + 1 := by omega
      rw [e1]; exact he'
    · have hil : it < s.heap.objs.size := by obtain ⟨_, q, _⟩ := hit; exact Heap.lt_size q
      have e' : b = e ∨ b = it := by simpa using hb
      have hb' : b < s.heap.objs.size := by
        rcases e' with z | z
        · rw [z]; exact hel
        · rw [z]; exact hil
      rw [upd_ne (Nat.ne_of_lt hb')]
      exact (hf b hb).1
  done := by
    intro X hP hw hK hc i pins s σ H E I hf st hg
    subst hP hw hK
    obtain ⟨⟨old, he⟩, hit, hne⟩ := st
    obtain ⟨xs, hq, hx⟩ := hg
    obtain ⟨its, rv, p, hz⟩ := I.tuple hq
    obtain ⟨f0, f1, f2, f3, f4, f5⟩ := hf it (by simp)
    have hl := rv.length
    have hT : s.TypeIs (.ref e) "enumerate" := ⟨_, he, rfl⟩
    unfold pyNext
    refine wpAny_bind (wpAny_attempt (wpAny_callSpecial?_slot (name := Str.ofString "__next__") hT F.slot_enumerate_next
      (wpAny_call_entry F.slot_enumerate_next hT F.entry_enumerate_next ?_ (F.args_enumerate_next_1 _))))
    show wpAny _ _ (field (.ref e) 2 >>= _) _ _ _
    refine wpAny_bind (wpAny_field he rfl (x := .ref it) rfl ?_)
    refine wpAny_bind (wpAny_nextOf_tuple_end (I.ok.hd hc) hit p (by simp; omega) fun h' x eb hx' => ?_)
    obtain ⟨o, ho, hcl⟩ := hx'
    refine wpAny_bind (wpAny_isInstance (T := "StopIteration") (b := true) ⟨o, ho, hcl⟩ isSubtype_stop ?_)
    exact wpAny_pure ⟨rfl, I.turned (t' := s.toks) (fun b o hb q => eb b o hb q) f0 f1 f3 f4 f5⟩
  self := fun A i s Q E st h => let ⟨⟨_, he⟩, _⟩ := st; wpAny_pyIter_enum he h
def iEnT (K : PySem.W.Frag) (ta : TA) : TI := fun σ H R => ta σ H fun vs H1 => ∃ a xs, vs = [.ref a] ∧ SqT K H1 a xs ∧ R (Itu K a) H1
theorem pi_enumT {X : Cx} {e : Expr} {ta : TA} {p pos tpos : Pos} {elts : List Expr} {kk : Nat} (hg : Gl X "enumerate") (hm : X.mg "enumerate" = none) (ha : PA X [e] ta) (hs : starEach [e] X.env = [(false, eval e X.env)] := by rfl) :
    PI X (.Tuple elts kk tpos) (.Call (.Name "enumerate" p) [e] [] pos) (iEnT X.K ta) := by
  refine ⟨fun pins s σ H R I h => ?_⟩
  refine Call_ (ld_blt I hg hm boot_enumerate (PyProof.Rows.callWith_type1 (thn (ha.run pos pins s σ H _ I h) fun us s1 ⟨vs, H1, I1, r1, q1⟩ => ?_) hs rfl))
  obtain ⟨a, xs, ex, hq, q⟩ := q1
  subst ex
  cases r1 with
  | cons r rr =>
    cases rr
    cases r
    obtain ⟨its, rv, p', hz⟩ := I1.tuple hq
    have hal : a < s1.heap.objs.size := by obtain ⟨o, ho, _⟩ := p'; exact Heap.lt_size ho
    refine PySem.YEn.begins1 (begins_tuple a its.toArray) p' fun h' he hit hsz hk => wpAny_pyIter_enum he ?_
    have I2 : Inv X pins σ H1 { s1 with heap := h' } := I1.kept (t' := s1.toks) hk
    have hit2 : h'.IsTupleIter s1.heap.objs.size a 0 := ⟨_, hit, rfl, rfl⟩
    refine ⟨s1.heap.objs.size + 1, [s1.heap.objs.size + 1, s1.heap.objs.size], _, _, H1, rfl, I2, turn_enumT a (s1.heap.objs.size + 1) s1.heap.objs.size its.toArray (Nat.ne_of_lt hal), ⟨⟨.none, he⟩, hit2, Nat.succ_ne_self _⟩, fun b hb => ?_, q⟩
    have e' : b = s1.heap.objs.size + 1 ∨ b = s1.heap.objs.size := by simpa using hb
    have hle : s1.heap.objs.size ≤ b := by
      rcases e' with z | z
      · rw [z]; exact Nat.le_add_right _ _
      · rw [z]; exact Nat.le_refl _
    exact I1.fpOk hle (I1.hok.fresh hle)
section
variable {K : PySem.W.Frag} {σ : L2.St} {G H : Hp} {Q : VK} {x : V} {ds : List PyData} {ta : TA} {R : It → Hp → Prop}
theorem src_enumT {M : List Addr} {a : Addr} {xs : List V} (hs : SqT K G a xs) (hd : DpAll K G xs ds) : Src K M (Itu K a) G H (prs 0 ds) where
  go := fun i G' H' n hi => ⟨xs, xs[i]'(by rw [dpAll_len hd, ← prs_len 0 ds]; exact hi), n.gh.seqT (n.gg.seqT hs), by rw [prs_len] at hi; simp [dpAll_len hd, hi]⟩
  stop := fun i G' H' n hi => ⟨xs, n.gh.seqT (n.gg.seqT hs), by rw [dpAll_len hd, ← prs_len 0 ds]; exact hi⟩
  yld := fun i d G' H' x H'' n hi y => by
    obtain ⟨T, u, rfl, hT, rfl, f⟩ := y
    have hx := f xs (n.gh.seqT (n.gg.seqT hs))
    rw [prs_get] at hi
    cases q : ds[i]? with
    | none => rw [q] at hi; cases hi
    | some d0 =>
      rw [q] at hi
      cases hi
      obtain ⟨v, hv, dv⟩ := dpAll_get hd q
      rw [hx] at hv
      cases hv
      have h2 := nx_tup (K := K) n.gh (xs := [.int ((i : Nat) : Int), u]) (ds := [.int ((0 + i : Nat) : Int), d0]) (by rw [Nat.zero_add]; exact .cons (.int _) (.cons (dp_mono n.gg dv) .nil)) hT
      exact ⟨_, h2.1, h2.2⟩
theorem g_iEnT (q : ta σ H fun vs H1 => ∃ a xs, vs = [.ref a] ∧ SqT K H1 a xs ∧ R (Itu K a) H1) : iEnT K ta σ H R := q
theorem g_walkEt {P : Addr → Prop} (e : Ex G H) (h : Dp K G x (.tuple ds)) (q : ∀ a, x = .ref a → (∀ M, Src K M (Itu K a) G H (prs 0 ds)) → P a) : ∃ a xs, [x] = [.ref a] ∧ SqT K H a xs ∧ P a := by
  obtain ⟨a, xs, rfl, hs, hd⟩ := dp_tup h
  exact ⟨a, xs, rfl, e.seqT hs, q a rfl fun M => src_enumT hs hd⟩
end
end Y

namespace Y
open PySem PySem.Spec PyProof.Rows L2
section
variable {K : PySem.W.Frag} {σ : L2.St} {G H : Hp} {R : L2.St → Hp → Prop} {v : V} {d1 d2 d3 d4 d5 : PyData} {i j k l m : Nat}
theorem g_un2 (e : Ex G H) (h : Dp K G v (.tuple [d1, d2])) (q : ∀ v1 v2, Dp K G v1 d1 → Dp K G v2 d2 → R ((σ.set i (some v1)).set j (some v2)) H) : gTup K 2 (gCons (gName i) (gCons (gName j) gNil)) v σ H R := by
  obtain ⟨a, xs, rfl, hs, hd⟩ := dp_tup h
  cases hd with
  | cons h1 t => cases t with
    | cons h2 t => cases t; exact ⟨a, _, rfl, e.seqT hs, rfl, _, _, rfl, _, _, rfl, rfl, q _ _ h1 h2⟩
theorem g_un3 (e : Ex G H) (h : Dp K G v (.tuple [d1, d2, d3])) (q : ∀ v1 v2 v3, Dp K G v1 d1 → Dp K G v2 d2 → Dp K G v3 d3 → R (((σ.set i (some v1)).set j (some v2)).set k (some v3)) H) : gTup K 3 (gCons (gName i) (gCons (gName j) (gCons (gName k) gNil))) v σ H R := by
  obtain ⟨a, xs, rfl, hs, hd⟩ := dp_tup h
  cases hd with
  | cons h1 t => cases t with
    | cons h2 t => cases t with
      | cons h3 t => cases t; exact ⟨a, _, rfl, e.seqT hs, rfl, _, _, rfl, _, _, rfl, _, _, rfl, rfl, q _ _ _ h1 h2 h3⟩
theorem g_un5 (e : Ex G H) (h : Dp K G v (.tuple [d1, d2, d3, d4, d5])) (q : ∀ v1 v2 v3 v4 v5, Dp K G v1 d1 → Dp K G v2 d2 → Dp K G v3 d3 → Dp K G v4 d4 → Dp K G v5 d5 → R (((((σ.set i (some v1)).set j (some v2)).set k (some v3)).set l (some v4)).set m (some v5)) H) :
    gTup K 5 (gCons (gName i) (gCons (gName j) (gCons (gName k) (gCons (gName l) (gCons (gName m) gNil))))) v σ H R := by
  obtain ⟨a, xs, rfl, hs, hd⟩ := dp_tup h
  cases hd with
  | cons h1 t => cases t with
    | cons h2 t => cases t with
      | cons h3 t => cases t with
        | cons h4 t => cases t with
          | cons h5 t => cases t; exact ⟨a, _, rfl, e.seqT hs, rfl, _, _, rfl, _, _, rfl, _, _, rfl, _, _, rfl, _, _, rfl, rfl, q _ _ _ _ _ h1 h2 h3 h4 h5⟩
theorem dp_non_iff {d : PyData} (h : Dp K G v d) : v = .non ↔ d = .none := by
  constructor
  · intro e; subst e; cases h; rfl
  · intro e; subst e; exact dp_non h
end
def isNn : PyData → Bool
  | .none => true
  | _ => false
theorem isNn_iff {d : PyData} : isNn d = true ↔ d = .none := by cases d <;> simp [isNn]
theorem isNn_f {d : PyData} (h : ¬ d = .none) : isNn d = false := by
  cases e : isNn d with
  | true => exact absurd (isNn_iff.mp e) h
  | false => rfl
/-- lengths of data -/
def dlen : PyData → Nat
  | .tuple xs => xs.length
  | .list xs => xs.length
  | .str s => s.length
  | _ => 0
end Y

namespace Y
open PySem PySem.Spec PyProof.Rows L2
/-! ### the rules with the written part by name -/
section
variable {X : Cx} {K : PySem.W.Frag}
theorem ix_listK (h : X.K = K) : IxR X (rIxL K) := h ▸ ix_list
theorem ix_tupK (h : X.K = K) : IxR X (rIxT K) := h ▸ ix_tup
theorem call_lenK (h : X.K = K) : CallR X (.builtin "len") (rLen K) := h ▸ call_len
theorem call_isiK (h : X.K = K) : CallR X (.builtin "isinstance") (rIsi K) := h ▸ call_isi
theorem call_listK (h : X.K = K) : CallR X (.type "list") (rListOf K) := h ▸ call_list
theorem call_tupleK (h : X.K = K) : CallR X (.type "tuple") (rTupOf K) := h ▸ call_tuple
theorem cr_allK (h : X.K = K) (hc : X.calm = true) : CallR X (.builtin "all") (rAll K) := h ▸ cr_all hc
theorem cr_anyK (h : X.K = K) (hc : X.calm = true) : CallR X (.builtin "any") (rAny K) := h ▸ cr_any hc
theorem cr_sumK (h : X.K = K) (hc : X.calm = true) : CallR X (.builtin "sum") (rSum K) := h ▸ cr_sum hc
theorem cr_maxK (h : X.K = K) (hc : X.calm = true) : CallR X (.builtin "max") (rMax K) := h ▸ cr_max hc
theorem cr_minK (h : X.K = K) (hc : X.calm = true) : CallR X (.builtin "min") (rMin K) := h ▸ cr_min hc
theorem op_eqDK (h : X.K = K) (hu : X.A.units + 64 < cLine) : OpR X (compareOp .Eq) (rEqD K) := h ▸ op_eqD hu
theorem op_neDK (h : X.K = K) (hu : X.A.units + 64 < cLine) : OpR X (compareOp .NotEq) (rNeD K) := h ▸ op_neD hu
theorem op_catAK (h : X.K = K) : OpR X (binaryOp .Add) (rCatA K) := h ▸ op_catA
theorem op_repTK (h : X.K = K) : OpR X (binaryOp .Mult) (rRepT K) := h ▸ op_repT
theorem op_inK (h : X.K = K) : OpR X (compareOp .In) (rIn K false) := h ▸ op_in_seq
theorem op_notInK (h : X.K = K) : OpR X (compareOp .NotIn) (rIn K true) := h ▸ op_notIn_seq
theorem sl_listK (h : X.K = K) : SlR X (rSlL K) := h ▸ sl_list
theorem sl_tupAK (h : X.K = K) : SlR X (rSlA K) := h ▸ sl_tupA
variable {l o e e2 value tg : Expr} {es elts : List Expr} {f name : Str} {pos pos' apos cpos p tpos : Pos} {tl ta tv te to : TE} {kk n k : Nat} {t : TA} {ts : TGs} {T id : String} {r : V → List V → Hp → VK → Prop}
theorem pi_listK (h : X.K = K) (hl : PE X l tl) : PI X tg l (iList K tl) := h ▸ pi_list hl
theorem pi_tupK (h : X.K = K) (hl : PE X l tl) : PI X tg l (iTup K tl) := h ▸ pi_tup hl
theorem pi_enumK (h : X.K = K) (hg : Gl X "enumerate") (hm : X.mg "enumerate" = none) (ha : PA X [e] t) (hs : starEach [e] X.env = [(false, eval e X.env)] := by rfl) :
    PI X (.Tuple elts kk tpos) (.Call (.Name "enumerate" p) [e] [] pos) (iEnum K t) := h ▸ pi_enum hg hm ha hs
theorem pi_enumTK (h : X.K = K) (hg : Gl X "enumerate") (hm : X.mg "enumerate" = none) (ha : PA X [e] t) (hs : starEach [e] X.env = [(false, eval e X.env)] := by rfl) :
    PI X (.Tuple elts kk tpos) (.Call (.Name "enumerate" p) [e] [] pos) (iEnT K t) := h ▸ pi_enumT hg hm ha hs
theorem pi_zipK (h : X.K = K) (hg : Gl X "zip") (hm : X.mg "zip" = none) (ha : PA X [e, e2] t)
    (hs : starEach [e, e2] X.env = (false, eval e X.env) :: starEach [e2] X.env := by rfl) (hpl : (backTo pos (starEach [e2] X.env)).any (·.1) = false := by rfl) :
    PI X (.Tuple elts kk tpos) (.Call (.Name "zip" p) [e, e2] [] pos) (iZip K t) := h ▸ pi_zip hg hm ha hs hpl
theorem pi_reversedK (h : X.K = K) (hg : Gl X "reversed") (hm : X.mg "reversed" = none) (ha : PA X [e] t) (hs : starEach [e] X.env = [(false, eval e X.env)] := by rfl) : PI X tg (.Call (.Name "reversed" p) [e] [] pos) (iRev K t) := h ▸ pi_reversed hg hm ha hs
theorem pg_tupK (h : X.K = K) (hc : X.calm = true) (hp : PGs X es ts) (hn : (assignEach es X.env).length = n := by rfl) (hst : (assignEach es X.env).findIdx? (·.1) = none := by rfl) : PG X (.Tuple es k pos) (gTup K n ts) := h ▸ pg_tup hc hp hn hst
theorem pg_lstK (h : X.K = K) (hc : X.calm = true) (hp : PGs X es ts) (hn : (assignEach es X.env).length = n := by rfl) (hst : (assignEach es X.env).findIdx? (·.1) = none := by rfl) : PG X (.Tuple es k pos) (gLst K n ts) := h ▸ pg_lst hc hp hn hst
theorem pe_fldK (h : X.K = K) (he : PE X e ta) (hb : attributeBase e f X.env (eval e X.env) = eval e X.env) : PE X (.Attribute e f pos) (tFld K ta f) := h ▸ pe_fld he hb
theorem ps_fldK (h : X.K = K) (ha : PE X o ta) (hv : PE X value tv) (hs : swapsWith value (some (.Attribute o f pos')) pos.line X.env = pure false) : PS X (.Assign [.Attribute o f pos'] value pos) (sFld K ta tv f) := h ▸ ps_fld ha hv hs
theorem pe_bmK (h : X.K = K) (pa : PlainAttrs T) (slot : Slot T name id) (hty : typeOf (.builtin id) = pure (.type "method_descriptor")) (hm : MtR X id r) (ho : PE X o to) (ha : PA X (e :: es) t)
    (hbase : attributeBase o name X.env (eval o X.env) = eval o X.env := by rfl)
    (hfew : ((backTo cpos (starEach (e :: es) X.env)).all (fun x => !x.1) && (backToKw cpos (keywordEach [] X.env)).all (fun x => x.1.isSome)
      && decide ((e :: es).length + ([] : List Keyword).length + (if ([] : List Keyword).isEmpty then 0 else 1) < 30)) = true := by rfl)
    (hline : (apos.endLine == cpos.line) = true := by rfl) (hs : starEach (e :: es) X.env = (false, eval e X.env) :: starEach es X.env := by rfl) (hplain : (backTo cpos (starEach es X.env)).any (·.1) = false := by rfl) :
    PE X (.Call (.Attribute o name apos) (e :: es) [] cpos) (tBM K T r to t) := h ▸ pe_bm pa slot hty hm ho ha hbase hfew hline hs hplain
theorem pe_bm0K (h : X.K = K) (pa : PlainAttrs T) (slot : Slot T name id) (hty : typeOf (.builtin id) = pure (.type "method_descriptor")) (hm : MtR X id r) (ho : PE X o to)
    (hbase : attributeBase o name X.env (eval o X.env) = eval o X.env := by rfl) (hline : (apos.endLine == cpos.line) = true := by rfl) :
    PE X (.Call (.Attribute o name apos) [] [] cpos) (tBM0 K T r to) := h ▸ pe_bm0 pa slot hty hm ho hbase hline
def rJoin (K : PySem.W.Frag) : V → List V → Hp → VK → Prop := fun x xs H Q => ∃ a p, ∃ ys : List Str, x = .str a ∧ xs = [.ref p] ∧ (SqL K H p (ys.map V.str) ∨ SqT K H p (ys.map V.str)) ∧
      (ys.map (·.length)).sum + ys.length * a.length ≤ 16777216 ∧ Q (.str (Txt.join a ys)) H
theorem pe_joinK (h : X.K = K) (ho : PE X o to) (he : PE X e te) (hs : starEach [e] X.env = [(false, eval e X.env)] := by rfl) (hbase : attributeBase o "join" X.env (eval o X.env) = eval o X.env := by rfl) (hline : (apos.endLine == pos.line) = true := by rfl) :
    PE X (.Call (.Attribute o "join" apos) [e] [] pos) (tM1 (rJoin K) to te) := h ▸ pe_join ho he hs hbase hline
end
theorem dec_ni (a b : Nat) : decide ((a : Int) = (b : Int)) = decide (a = b) := by rw [decide_eq_decide]; omega
end Y

namespace Y
open PySem PySem.Spec PyProof.Rows L2
/-! ### an exception in the air of a body or of a comprehension's block: the frame L that notes it is told -/
def XEL (X : Cx) (E : XK) (L : Addr) (u : Value) (s' : Shared) : Prop :=
  ∃ (a : Addr) (B : Heap) (sI : Shared) (pins : List (Addr × Obj)) (σ : L2.St) (H : Hp) (cls : Value) (d : Option Addr),
    u = .ref a ∧ Inv X pins σ H sI ∧ (∀ b o, sI.heap.get? b = some o → b ∉ frs X.stack → B.get? b = some o) ∧ sI.heap.UpToSlots s'.heap ∧
      Sky B X.stack a (Zc cls d) L s'.heap ∧ H a = none ∧ s'.os = sI.os ∧ AllBare s'.gens ∧ E cls d H
def TakesL (X : Cx) (E : XK) (L : Addr) : Prop := ∀ u s', XEL X E L u s' → X.xe u s'
theorem takesL_of {X : Cx} {E : XK} (t : Takes X fun cls d _ H => E cls d H) : TakesL X E X.env.locals := fun u s' ⟨a, B, sI, pins, σ, H, cls, d, e, I, r⟩ => t u s' ⟨a, B, sI, pins, σ, H, cls, d, e, I, r⟩
theorem takes_ofL {X : Cx} {E : XK} (t : TakesL X E X.env.locals) : Takes X fun cls d _ H => E cls d H := fun u s' ⟨a, B, sI, pins, σ, H, cls, d, e, I, r⟩ => t u s' ⟨a, B, sI, pins, σ, H, cls, d, e, I, r⟩
/-- a call's exception is in flight: it is in our air, whatever frame is told -/
theorem passL {X : Cx} {E : XK} {L : Addr} (t : TakesL X E L) : Passes (L2.CX X.prog X.w) X E := fun pins σ H s u s' I c => by
  obtain ⟨a, B, sI, pins', σ', H', cls, d, rfl, J, nb, up, sky, na, os, ag, w⟩ := XE.of_call (W := fun cls d _ H => E cls d H) I (fun _ _ _ h => h) c
  obtain ⟨a2, B2, H2, cls2, d2, e2, fl, _⟩ := c
  have ea : a2 = a := by injection e2 with z; exact z.symm
  subst ea
  refine t _ _ ⟨a2, B, sI, pins', σ', H', cls, d, rfl, J, nb, up, ?_, na, os, ag, w⟩
  obtain ⟨_, _, _, oe, vs, T, oT, ts, he, _, hd, h1, _, _, hT, hdT, h3⟩ := fl
  rcases sky with ⟨_, _, _, oe', vs', he', _, hd', h1'⟩ | z | ⟨_, _, _, oe', vs', T', oT', ts', he', _, hd', h1', _, _, hT', hdT', h3'⟩
  · rw [he] at he'; cases he'; rw [hd] at hd'; cases hd'; rw [h1] at h1'; cases h1'
  · exact .inr (.inl z)
  · rw [he] at he'; cases he'; rw [hd] at hd'; cases hd'; rw [h1] at h1'; cases h1'; rw [hT] at hT'; cases hT'; rw [hdT] at hdT'; cases hdT'; rw [h3] at h3'; cases h3'

section
variable {X : Cx} {pins : List (Addr × Obj)} {σ : L2.St} {H : Hp} {s : Shared}
/-- an untracked object of ours is not looked at any more -/
theorem inv_hide {C : Addr} (I : Inv X pins σ H s) (hC : H C = none) (h1 : C ∈ X.ex ∨ X.s_0.heap.objs.size ≤ C) (h2 : C ≠ X.env.locals) (h3 : ∀ x c, X.env.cells.lookup x = some c → c ≠ C) (h4 : ∀ p ∈ X.pn ++ pins, p.1 ≠ C) {G : Heap}
    (g : ∀ b, b ≠ C → G.get? b = s.heap.get? b) : Inv X pins σ H { s with heap := G } := by
  refine I.step (g' := s.gens) (d' := s.drawn) (t' := s.toks) (ch := [C]) (fun b hb => ?_) (fun b o _ _ hc q _ => ?_) (fun b o _ _ hc q _ => ⟨o.slots, ?_⟩) (fun _ _ _ _ n => n) (fun b o hc q => ⟨o, ?_⟩) (fun _ _ q => q) (fun _ _ _ q => q) (fun b ps q => ⟨#[], by rw [q]; simp⟩) (fun m hm => ?_) (fun b u q => ?_) I.bare
  · have z : b = C := by simpa using hb
    subst z
    exact ⟨h1, h2, h3, h4⟩
  · rw [g b (by simpa using hc)]; exact q
  · rw [g b (by simpa using hc)]; exact q
  · rw [g b (by simpa using hc)]; exact q
  · obtain ⟨o, es, ep, ho, r⟩ := hm
    exact ⟨o, es, ep, (g _ (Ne.symm h2)).trans ho, r⟩
  · refine (I.hok b u q).stay (fun c v hc z => (g c ?_).trans z) (fun _ z => z) fun _ _ z => z
    intro e
    subst e
    rcases hc with z | z
    · rw [← z, hC] at q; cases q
    · rw [hC] at z; cases z
/-- out of a block with its variables at C: noted by the frame L, the block let go, handed on -/
theorem block_fails {E : XK} {L C : Addr} {env0 ce : Env} {outer0 : List Env} {B : Heap} {sI s' : Shared} {a : Addr} {cls : Value} {d : Option Addr} {m : Str → Option Value} (hst : X.stack = env0 :: outer0) (hf : env0.frame = some L) (hc : ce.frame = some L) (tk : TakesL X E L)
    (hC : ce.locals = C) (I : Inv X pins σ H sI) (nC : H C = none) (h1 : C ∈ X.ex ∨ X.s_0.heap.objs.size ≤ C) (h2 : C ≠ X.env.locals) (h3 : ∀ x c, X.env.cells.lookup x = some c → c ≠ C) (h4 : ∀ p ∈ X.pn ++ pins, p.1 ≠ C) (hn : sI.heap.Ns C m)
    (nb : ∀ b o, sI.heap.get? b = some o → b ∉ frs X.stack → B.get? b = some o) (up : sI.heap.UpToSlots s'.heap) (sky : Sky B X.stack a (Zc cls d) L s'.heap) (na : H a = none) (os : s'.os = sI.os) (ag : AllBare s'.gens) (w : E cls d H) :
    notedBy (model X.prog X.w) X.A ce (CompFails (model X.prog X.w) X.A X.xe ce) (.ref a) s' := by
  have hfr : X.A.frames = some (env0 :: outer0) := by rw [I.ok.frames, hst]
  rw [hst] at sky
  have fin : ∀ hp1, HandSPX.HeldZ B (env0 :: outer0) a (Zc cls d) L hp1 → s'.heap.UpToSlots hp1 → CompFails (model X.prog X.w) X.A X.xe ce (.ref a) { s' with heap := hp1 } := by
    intro hp1 hh up1
    have up01 := up.trans up1
    have hn1 : hp1.Ns C m := by
      obtain ⟨o, es, ep, ho, hd, r⟩ := hn
      obtain ⟨sl, q⟩ := up01 C o ho fun vs z => by rw [hd] at z; cases z
      exact ⟨_, es, ep, q, hd, r⟩
    refine ⟨m, by rw [hC]; exact hn1, fun hp2 m2 hn2 hs2 => ?_⟩
    rw [hC] at hn2 hs2
    obtain ⟨f1, f2, f3, oe, vs, T, oT, ts, q1, q2, q3, q4, q5, q6, q7, q8, q9⟩ := hh
    have notC : ∀ {b : Addr} {o : Obj} {xs : Array Value}, hp1.get? b = some o → o.data = .fields xs → b ≠ C := fun {b o xs} z z2 z3 => by
      obtain ⟨o', es, ep, ho, hd, _⟩ := hn1
      rw [z3, ho] at z; cases z
      rw [hd] at z2; cases z2
    obtain ⟨B2, b1, b2⟩ := restrict B fun b => decide (b ≠ C)
    have bB : ∀ b, b ≠ C → B2.get? b = B.get? b := fun b hb => b1 b (by simp [hb])
    have bC : B2.get? C = none := b2 C (by simp)
    have st2 : B2.StaysIn hp2 := fun b o z => by
      by_cases hb : b = C
      · subst hb; rw [bC] at z; cases z
      · rw [bB b hb] at z
        exact (hs2.2 b hb).trans (f1 b o z)
    have ff2 : hp2.FunFrames B2 (env0 :: outer0) := by
      refine funFrames_none (Heap.FunFrames.sameBut hs2 hn2 f3) fun b hb => ?_
      by_cases z : b = C
      · rw [z]; exact bC
      · rw [bB b z]; exact (f3.mem hb).1
    have tr2 : HandSPX.TracedZ hp2 B2 a (Zc cls d) (rawInt L) := by
      refine ⟨oe, vs, T, oT, ts, (hs2.2 a (notC q1 q3)).trans q1, q2, q3, q4, ?_, q6, (hs2.2 T (notC q7 q8)).trans q7, q8, q9⟩
      rw [bB T (notC q7 q8)]
      exact q5
    have na2 : B2.get? a = none := by rw [bB a (notC q1 q3)]; exact f2
    unfold PySem.passOn
    refine wpAny_bind (wpAny_field ((hs2.2 a (notC q1 q3)).trans q1) q3 q4 ?_)
    rw [if_neg (show ¬ ((Value.ref T == Value.none) = true) from by simp)]
    rw [hc]
    have go : wpAny (model X.prog X.w) X.A (setFlight (.ref a) (some L)) (fun _ s4 => wpAny (model X.prog X.w) X.A (throw (.ref a) : Sem Value) (fun _ _ => False) X.xe s4) X.xe { s' with heap := hp2 } := by
      refine HandSPX.setFlight_anyZ (s := { s' with heap := hp2 }) st2 ff2 tr2 fun hp3 k1 k2 k3 k4 => wpAny_throw (tk _ _ ?_)
      obtain ⟨G, g1, g2⟩ := restrict sI.heap fun b => decide (b ≠ C)
      have gG : ∀ b, b ≠ C → G.get? b = sI.heap.get? b := fun b hb => g1 b (by simp [hb])
      have gC : G.get? C = none := g2 C (by simp)
      refine ⟨a, B2, { sI with heap := G }, pins, σ, H, cls, d, rfl, inv_hide I nC h1 h2 h3 h4 gG, fun b o z hb => ?_, fun b o z hnf => ?_, ?_, na, os, ag, w⟩
      · by_cases q : b = C
        · subst q; rw [show (Shared.heap { sI with heap := G }).get? b = G.get? b from rfl, gC] at z; cases z
        · rw [bB b q]
          exact nb b o ((gG b q).symm.trans z) hb
      · by_cases q : b = C
        · subst q; rw [show (Shared.heap { sI with heap := G }).get? b = G.get? b from rfl, gC] at z; cases z
        · obtain ⟨sl, z1⟩ := up01 b o ((gG b q).symm.trans z) hnf
          obtain ⟨sl2, z2⟩ := k4 b _ ((hs2.2 b q).trans z1) hnf
          exact ⟨sl2, z2⟩
      · rw [hst]
        exact .inr (.inr ⟨k1, na2, k2, k3⟩)
    first
      | exact wpAny_bind (wpAny_pure (wpAny_bind go))
      | exact wpAny_bind go
  show wpAny (model X.prog X.w) X.A (noteFrame (.ref a) ce) _ _ s'
  rw [noteFrame_env _ (hc.trans hf.symm)]
  rcases sky with ⟨hB, hn', hl, oe, vs, he, hz, hd, z1⟩ | fl | hh
  · exact HandSPX.look_newZ Zc.steady hfr hl hf he hB hn' hd z1 hz fin
  · exact HandSPX.looks_onZ Zc.steady hfr hf fl fin
  · exact HandSPX.againZ hf hh.2.2.2 (fin s'.heap hh (Heap.UpToSlots.refl _))
end
end Y

namespace Y
open PySem PySem.Spec PyProof.Rows L2
theorem ends_of_post {M : Model} {A : Around} {E : Value → Shared → Prop} {use : Option (Value → Sem Unit)} {Q : Value → Shared → Prop} {acc : Value} {ce : Env} {s' : Shared} (h : compPost M A E use Q acc ce.locals (.ok .next) s') : compEnds M A E use Q acc ce (.ok .next) s' := by
  cases use <;> exact h
section
variable {X : Cx}
/-- [elt for target in iter if ..] whose element may raise -/
theorem lc_coreX {pins : List (Addr × Obj)} {s : Shared} {σ : L2.St} {H : Hp} {Q : VK} {elt tg iter : Expr} {ifs : List Expr} {scope : Scope} {own : List (Str × Nat)} {pos pos' : Pos} {wi : TI} {g : TG} {tt : TT} {te : TE} {use : Option (Value → Sem Unit)} {Qf : Value → Shared → Prop}
    {E : XK} {L : Addr} {env0 : Env} {outer0 : List Env} (hst : X.stack = env0 :: outer0) (hf0 : env0.frame = some L) (hfE : X.env.frame = some L) (tk : TakesL X E L)
    (hc : X.calm = true) (hN : X.N.Nodup) (I : Inv X pins σ H s) (hi : PI X tg iter wi) (ok : BlkOk X.N X.env.scope scope own)
    (hg : ∀ (s : Shared) (H : Hp) (C : Addr) (cl : List (Str × Addr)) (fp : List Addr), PG (X.blk s H scope (compEnvC scope cl C X.env) fp) tg g) (ht : ∀ (s : Shared) (H : Hp) (C : Addr) (cl : List (Str × Addr)) (fp : List Addr), PTs (X.blk s H scope (compEnvC scope cl C X.env) fp) ifs tt)
    (he : ∀ (s : Shared) (H : Hp) (C : Addr) (cl : List (Str × Addr)) (fp : List Addr) (xe : Value → Shared → Prop), TakesL ((X.blk s H scope (compEnvC scope cl C X.env) fp).wish xe) E L → PE ((X.blk s H scope (compEnvC scope cl C X.env) fp).wish xe) elt te)
    (hs : ∀ x, foldedSetIterable iter X.env x = pure x) (h : tLc wi g tt te (own.map (·.2)) σ H Q)
    (hRR : ∀ D C s' m H', Inv X pins σ H' s' → Q (.ref D) H' → s'.heap.Ns C m → FpOk X pins H' C → compPost (model X.prog X.w) X.A X.xe use Qf (.ref D) C (.ok .next) s') :
    wpAny (model X.prog X.w) X.A (comprehension (.ListComp elt [⟨tg, iter, ifs, 0⟩] scope pos) scope X.env pos' (newList []) false (eval iter X.env) use) Qf X.xe s := by
  have hfree : ∀ y ∈ scope.names, y.2 = .free → ∃ c, X.env.cells.lookup y.1 = some c := fun y hy e => by
    rcases ok.free y hy e with k | k
    · exact I.ok.has _ (.inl k)
    · exact I.ok.has _ (.inr k)
  refine comprehension_at (use := use) rfl hs (closure_ok hfree) ok.kind (fun y hy e => by rw [ok.uniq y hy, e])
    (thn (hi.run pins s σ H _ I h) fun xv s1 hx => thn hx fun itv s2 h2 => ?_)
  obtain ⟨it, fp, tn, J, H2, e, I2, T, st2, f2, q⟩ := h2
  subst e
  refine wpAny_newObj_type (newEnv_comp ?_) (by show 0 ≤ sizeLine; decide)
  generalize hD : s2.heap.objs.size = D
  have hDn : H2 D = none := I2.hok.fresh (Nat.le_of_eq hD)
  obtain ⟨W, ⟨m0, w0⟩, turn⟩ := q D hDn
  generalize hs3 : ({ s2 with heap := s2.heap.push { cls := .type "list", data := .seq ([] : List Value).toArray } } : Shared) = s3
  have h3 : s3.heap = s2.heap.push { cls := .type "list", data := .seq ([] : List Value).toArray } := by rw [← hs3]
  have I3 : Inv X pins σ (upd H2 D (.lst [])) s3 := by
    rw [← hs3]
    refine I2.laid (t' := s2.toks) (fun b o e => Heap.get?_push_of_some _ e) (Nat.le_of_eq hD) ⟨Nat.zero_le _, [], 0, .nil, ?_⟩
    rw [← hD]
    exact Heap.get?_push_size _ rfl
  have f3 : ∀ b ∈ fp, FpOk X pins (upd H2 D (.lst [])) b ∧ b < s3.heap.objs.size := fun b hb => by
    obtain ⟨o, e, _⟩ := T.obj _ _ st2 b hb
    have hlt := Heap.lt_size e
    have nb : b ≠ D := by rw [← hD]; exact Nat.ne_of_lt hlt
    exact ⟨⟨by rw [upd_ne nb]; exact (f2 b hb).1, (f2 b hb).2⟩, by rw [h3, Heap.size_push]; exact Nat.lt_succ_of_lt hlt⟩
  have st3 : tn 0 s3.heap := T.keep _ _ _ st2 fun b _ o e => by rw [h3]; exact Heap.get?_push_of_some _ e
  have I4 := block_start I3 ok hN f3
  generalize hcl : cellsFrom (s3.heap.objs.size + 1) scope.names (cloFrom X.env.cells scope.names []) = cl at I4 ⊢
  have fC : FpOk X pins (upd H2 D (.lst [])) s3.heap.objs.size := I3.fpOk (Nat.le_refl _) (I3.hok.fresh (Nat.le_refl _))
  have pg := hg s3 (upd H2 D (.lst [])) s3.heap.objs.size cl fp
  have pt := ht s3 (upd H2 D (.lst [])) s3.heap.objs.size cl fp
  have pe := he s3 (upd H2 D (.lst [])) s3.heap.objs.size cl fp
  have nfp : ∀ b ∈ fp, (upd H2 D (.lst [])) b = none := fun b hb => (f3 b hb).1.1
  show codeAny _ _ (.compStart (.ListComp elt [⟨tg, iter, ifs, 0⟩] scope pos) 0 (.ref it) (.ref D) (compEnvC scope cl s3.heap.objs.size X.env)) (compEnds (model X.prog X.w) X.A X.xe use Qf (.ref D) (compEnvC scope cl s3.heap.objs.size X.env)) _
  generalize hce : compEnvC scope cl s3.heap.objs.size X.env = ce at I4 pg pt pe ⊢
  have cL : ce.locals = s3.heap.objs.size := by rw [← hce]; rfl
  have cF : ce.frame = some L := by rw [← hce]; exact hfE
  generalize hH3 : upd H2 D (.lst []) = H3 at I3 I4 pg pt pe w0 nfp f3 fC
  generalize hs4 : ({ s3 with heap := pushCells (s3.heap.push { cls := .type "dict", data := .dict #[] }) scope.names } : Shared) = s4 at I4 ⊢
  have st4 : tn 0 s4.heap := T.keep _ _ _ st3 fun b _ o e => by rw [← hs4]; exact pushCells_keeps _ _ _ _ (Heap.get?_push_of_some _ e)
  -- back in the context ahead
  have back : ∀ {pn : List (Addr × Obj)} {σ' : L2.St} {H' : Hp} {s' : Shared}, Inv (X.blk s3 H3 scope ce fp) pn σ' H' s' → Inv X pins σ H' s' ∧ H' s3.heap.objs.size = none := fun {pn σ' H' s'} I' =>
    ⟨I3.call' (ch := fp) I'.os I'.base I'.hok I'.bare fun b hb => ⟨(f3 b hb).1.2.2.2.1, (f3 b hb).1.2.1, (f3 b hb).1.2.2.2.2.1, (f3 b hb).1.2.2.2.2.2⟩, by rw [← cL]; exact I'.free⟩
  have stat : ∀ {σ' : L2.St} {H' : Hp} {s' : Shared}, Inv (X.blk s3 H3 scope ce fp) [] σ' H' s' → (∀ b ∈ fp, H' b = none) → ∀ b ∈ fp, FpOk (X.blk s3 H3 scope ce fp) [] H' b := fun {σ' H' s'} I' hn b hb =>
    ⟨hn b hb, (I'.ok.exf b hb).1, I'.ok.exfs b hb, .inl hb, fun x c e => (I'.ok.exf b hb).2 x c e, fun p hp => absurd (show p ∈ ([] : List (Addr × Obj)) ++ [] from hp) (by simp)⟩
  -- what the element may let out
  have tkB : TakesL ((X.blk s3 H3 scope ce fp).wish (notedBy (model X.prog X.w) X.A ce (CompFails (model X.prog X.w) X.A X.xe ce))) E L := by
    rintro u s' ⟨a, B, sI, pins', σ', H', cls, d, rfl, J', nb, up, sky, na, os, ag, w⟩
    have J0 : Inv (X.blk s3 H3 scope ce fp) pins' σ' H' sI := J'.unwish
    obtain ⟨I7, nC⟩ := back J0
    obtain ⟨m, hn, _⟩ := J0.loc
    have hn : sI.heap.Ns ce.locals m := hn
    rw [cL] at hn
    exact block_fails hst hf0 cF tk cL I7 nC fC.2.2.2.1 fC.2.1 fC.2.2.2.2.1 fC.2.2.2.2.2 hn nb up sky na os ag w
  have pe' := pe _ tkB
  have loop : codeAny (model X.prog X.w) X.A (.compLoop (.ListComp elt [⟨tg, iter, ifs, 0⟩] scope pos) 0 (.ref it) (.ref D) ce) (compEnds (model X.prog X.w) X.A X.xe use Qf (.ref D) ce) s4 := by
    refine compLoop_any (fun n s' => ∃ i H', Inv (X.blk s3 H3 scope ce fp) [] (wipe σ (own.map (·.2))) H' s' ∧ tn i s'.heap ∧ (∀ b ∈ fp, H' b = none) ∧ W i n H') ?_ m0 ⟨0, H3, I4, st4, nfp, w0⟩
    rintro n s5 ⟨i, H5, I5, st5, n5, w5⟩
    rcases turn i n H5 w5 with ⟨stop, qq⟩ | ⟨go, Nx, hNx, step⟩
    · refine thnF (T.done (X.blk s3 H3 scope ce fp) rfl rfl rfl hc i [] s5 _ H5 (fun _ _ => False) I5 (stat I5 n5) st5 stop) fun r s6 ⟨hr, I6⟩ => ?_
      subst hr
      obtain ⟨I7, nC⟩ := back I6
      obtain ⟨m, hn, _⟩ := I6.loc
      have hn : s6.heap.Ns ce.locals m := hn
      rw [cL] at hn
      refine ends_of_post ?_
      rw [cL]
      exact hRR D s3.heap.objs.size s6 m H5 I7 qq hn (I3.fpOk (Nat.le_refl _) nC)
    · refine thnF (T.item (X.blk s3 H3 scope ce fp) rfl rfl rfl hc i [] s5 _ H5 (fun _ _ => False) I5 (stat I5 n5) st5 go) fun r s6 ⟨u, hr, h6⟩ => ?_
      subst hr
      refine thnF h6 fun _ s7 ⟨x, H7, I7, r7, y7, st7, n7⟩ => ?_
      refine thnF (pg.run _ s7 _ H7 x u _ (I7.pinned (stat I7 n7) (T.obj _ _ st7)) r7 (step x H7 y7)) fun _ s8 ⟨σ8, H8, I8, hw8, q8⟩ => ?_
      refine thnF (pt.run _ s8 σ8 H8 _ I8 q8) fun b s9 ⟨H9, I9, q9⟩ => ?_
      have fin : ∀ {s' : Shared} {H' : Hp}, Inv (X.blk s3 H3 scope ce fp) ([] ++ pinsAt fp s7.heap) σ8 H' s' → Nx H' → ∃ m, m < n ∧ ∃ i H', Inv (X.blk s3 H3 scope ce fp) [] (wipe σ (own.map (·.2))) H' s' ∧ tn i s'.heap ∧ (∀ b ∈ fp, H' b = none) ∧ W i m H' := fun {s' H'} I' nx => by
        obtain ⟨m', hm, w'⟩ := hNx H' nx
        have pin' : ∀ b ∈ fp, ∀ o, s7.heap.get? b = some o → s'.heap.get? b = some o ∧ H' b = none := fun b hb o e =>
          let z := I'.pin (b, o) (List.mem_append_right _ (List.mem_append_right _ (mem_pinsAt hb e)))
          ⟨z.1, z.2.1⟩
        refine ⟨m', hm, i + 1, H', (I'.unpinned (pins := [])).weak (by rw [← hw8, wipe_length]) (fun j v e => ?_), T.keep _ _ _ st7 fun b hb o e => (pin' b hb o e).1, fun b hb => ?_, w'⟩
        · rw [← hw8] at e
          exact (wipe_some e).1
        · obtain ⟨o, e, _⟩ := T.obj _ _ st7 b hb
          exact (pin' b hb o e).2
      cases b with
      | false =>
        simp only [Bool.false_eq_true, if_false] at q9 ⊢
        exact fin I9 q9
      | true =>
        simp only [if_true] at q9 ⊢
        refine thn (pe'.run _ s9 σ8 H9 _ (I9.wish _) q9) fun z s10 ⟨yv, H10, I10, r10, acc, hD10, hz10, nx⟩ => ?_
        exact app_ok (X := X.blk s3 H3 scope ce fp) I10.unwish hD10 hz10 r10 fun s11 I11 => fin I11 nx
  exact codeAny_compStart_list loop (T.self X.A 0 _ _ _ st4 loop)
theorem pe_lcX {elt tg iter : Expr} {ifs : List Expr} {scope : Scope} {own : List (Str × Nat)} {pos : Pos} {wi : TI} {g : TG} {tt : TT} {te : TE} {E : XK} {L : Addr} {env0 : Env} {outer0 : List Env} (tk : TakesL X E L) (hst : X.stack = env0 :: outer0) (hf0 : env0.frame = some L) (hfE : X.env.frame = some L)
    (hc : X.calm = true) (hN : X.N.Nodup) (hi : PI X tg iter wi) (ok : BlkOk X.N X.env.scope scope own)
    (hg : ∀ (s : Shared) (H : Hp) (C : Addr) (cl : List (Str × Addr)) (fp : List Addr), PG (X.blk s H scope (compEnvC scope cl C X.env) fp) tg g) (ht : ∀ (s : Shared) (H : Hp) (C : Addr) (cl : List (Str × Addr)) (fp : List Addr), PTs (X.blk s H scope (compEnvC scope cl C X.env) fp) ifs tt)
    (he : ∀ (s : Shared) (H : Hp) (C : Addr) (cl : List (Str × Addr)) (fp : List Addr) (xe : Value → Shared → Prop), TakesL ((X.blk s H scope (compEnvC scope cl C X.env) fp).wish xe) E L → PE ((X.blk s H scope (compEnvC scope cl C X.env) fp).wish xe) elt te)
    (hs : ∀ x, foldedSetIterable iter X.env x = pure x := by intro _; rfl) :
    PE X (.ListComp elt [⟨tg, iter, ifs, 0⟩] scope pos) (tLc wi g tt te (own.map (·.2))) := by
  refine ⟨fun pins s σ H Q I h => ?_⟩
  rw [eval_ListComp]
  refine lc_coreX hst hf0 hfE tk hc hN I hi ok hg ht he hs h fun D C s' m H' I' q hn f => ⟨m, hn, fun h'' sb => ?_⟩
  obtain ⟨f0, f1, f2, f3, f4, f5⟩ := f
  exact ⟨.ref D, H', I'.turned (t' := s'.toks) (fun b o hb e => (sb.2 b hb).trans e) f0 f1 f3 f4 f5, rfl, q⟩
end
end Y

/-! isinstance of a caught error that has fields of its own -/
namespace PySem.W
open PySem PySem.Spec PySem.Calls PyProof.Rows
section
variable {prog : Program} {w : World} {A : Around} {E : Value → Shared → Prop} {s : Shared} {K : Frag} {x D : Addr} {ox od : Obj}
theorem yObj_data {C : Addr} {name : Str} {a g : Value} {o : Option Obj} (hc : (clsIn K C).isSome = true) (ha : findIn K (.ref C) name = some (some a)) (hg : specialIn K a "__get__" = some (some g)) (ht : takesIn K a = some true) : findObj K C o name = some (.bind g a) := by
  obtain ⟨cd, hc⟩ := Option.isSome_iff_exists.mp hc
  unfold findObj
  rw [hc, Option.bind_some, ha, Option.bind_some]
  simp [hg, ht]
theorem yin_class {Q : Option Value → Shared → Prop} (hga : findIn K (.ref D) "__getattribute__" = some (some (.builtin "BaseException.__getattribute__"))) (hgt : findIn K (.ref D) "__getattr__" = some none) (hsub : subIn K (.ref D) (.type "BaseException") = some true)
    (hdct : hasDictIn K D = true) (ha : findIn K (.ref D) "__class__" = some (some (.builtin "object.__class__")))
    (hn : specialIn K (.builtin "object.__class__") "__get__" = some (some (.builtin "getset_descriptor.__get__"))) (htk : takesIn K (.builtin "object.__class__") = some true) (hm : mroIn K D (.type "object") = some true)
    (X : K.In s.heap) (I : InstAt s.heap x ox D (some od)) (h : Q (some (.ref D)) { s with toks := s.toks + 1 }) : wpAny (model prog w) A (getAttr? (.ref x) "__class__") Q E s := by
  have hf : findObj K D (some od) "__class__" = some (.bind (.builtin "getset_descriptor.__get__") (.builtin "object.__class__")) := yObj_data (by obtain ⟨cd, hc, _⟩ := any_some hdct; rw [hc]; rfl) ha hn htk
  obtain ⟨hp, g, d, t, os⟩ := s
  have L0 := I.type (M := model prog w)
  have L1 := looks_findIn (M := model prog w) X hga
  have L2 := looks_findIn (M := model prog w) X hgt
  have L3 := looks_find (M := model prog w) X I hf
  have sub : Looks (model prog w) hp (isInstance (.ref x) (.type "BaseException")) true := L0.andThen (looks_subIn X hsub)
  have z0 : (false && onTheHeap (Value.builtin "BaseException.__getattribute__")) = false := rfl
  have z1 : (onTheHeap (Value.ref D) && Value.builtin "BaseException.__getattribute__" == Value.builtin "object.__getattribute__") = false := by
    rw [show (Value.builtin "BaseException.__getattribute__" == Value.builtin "object.__getattribute__") = false from by decide +kernel, Bool.and_false]
  unfold getAttr? getAttrBy? getAttrBy
  refine wpAny_bind (wpAny_mkText (wpAny_bind (wpAny_attempt (wpAny_holding (wpAny_bind (L0.at (wpAny_bind (L1.at ?_))))))))
  show wpAny _ _ (if (onTheHeap (Value.ref D) && Value.builtin "BaseException.__getattribute__" == Value.builtin "object.__getattribute__") = true then _ else _) _ _ _
  rw [z1, if_neg Bool.false_ne_true]
  unfold getAttrByItsOwn hookBefore
  refine wpAny_bind ?_
  rw [if_pos (show onTheHeap (Value.ref D) = true from rfl)]
  refine L2.at (wpAny_bind (wpAny_attempt (wpAny_holding ?_)))
  unfold callGetattribute
  rw [z0, if_neg Bool.false_ne_true]
  unfold boundAndCalled
  rw [PySem.F.excAttr_ValueError.ga.bind (.ref x)]
  refine wpAny_bind (wpAny_pure ?_)
  show wpAny _ _ (call (.builtin "BaseException.__getattribute__") [.ref x, .str "__class__" t]) _ _ _
  refine wpAny_call (codeAny_call_builtin PySem.F.excAttr_ValueError.ga.plain PySem.F.entry_bexc_ga ?_)
  refine @check_slot (model prog w) _ _ ⟨hp, g, d, t + 1, os⟩ "BaseException.__getattribute__" "BaseException" "__getattribute__" (.ref x) [.str "__class__" t] [] _ (by decide +kernel) (by decide +kernel) sub (PySem.F.args_bexc_ga (.ref x) (.str "__class__" t)) ?_
  unfold Builtin.«object.__getattribute__»
  refine wpAny_bind (wpAny_of_eq (a := ((Value.ref x : Value), [Value.str "__class__" t])) (by first | rfl | (simp only [slotArgs]; rfl)) ?_)
  refine wpAny_bind (wpAny_pure (wpAny_bind (L0.at (wpAny_bind (L3.at ?_)))))
  show wpAny _ _ (holding [Value.builtin "object.__class__"] (call (.builtin "getset_descriptor.__get__") [.builtin "object.__class__", .ref x, .ref D]) >>= ret) _ _ _
  refine wpAny_bind (wpAny_holding (wpAny_call (class_get (s := ⟨hp, g, d, t + 1, os⟩) (ox := ox) (od := some od) X I hm (wpAny_pure ?_))))
  show wpAny _ _ (handedOut (.ref D)) _ _ _
  rw [handedOut_of (v := .ref D) rfl]
  first
    | exact wpAny_pure (wpAny_pure h)
    | exact wpAny_pure h
    | exact wpAny_pure (wpAny_bind (wpAny_pure (wpAny_pure h)))
theorem y_kitx (hga : findIn K (.ref D) "__getattribute__" = some (some (.builtin "BaseException.__getattribute__"))) (hgt : findIn K (.ref D) "__getattr__" = some none) (hsub : subIn K (.ref D) (.type "BaseException") = some true) (hdct : hasDictIn K D = true)
    (ha : findIn K (.ref D) "__class__" = some (some (.builtin "object.__class__")))
    (hn : specialIn K (.builtin "object.__class__") "__get__" = some (some (.builtin "getset_descriptor.__get__"))) (htk : takesIn K (.builtin "object.__class__") = some true) (hm : mroIn K D (.type "object") = some true) :
    KitX K (.ref x) (.ref D) (fun h => ∃ od, InstAt h x ox D (some od)) where
  ty := fun _ _ _ ⟨_, I⟩ => I.type
  it := fun M h X _ A' Q' E' s' k q => by
    obtain ⟨cd, hc, _⟩ := any_some hdct
    unfold clsIn at hc
    split at hc
    · rename_i ho
      unfold isType loadHead
      exact wpAny_bind (wpAny_loadPart (k _ _ (X _ _ ho)) (wpAny_pure q))
    · cases hc
  ne := (handS_kitx_exc (x := x) (ox := ox) hga hgt hsub hdct ha hn htk hm).ne
  ca := fun X ⟨_, I⟩ k => yin_class hga hgt hsub hdct ha hn htk hm X I k
end
end PySem.W
namespace Y
open PySem PySem.Spec PyProof.Rows L2
theorem all_at {l : List Bool} {b : Bool} (h : l.all id = true) (i : Nat) (e : l[i]? = some b) : b = true := List.all_eq_true.mp h b (List.mem_of_getElem? e)
/-! ### own exception classes over ValueError with one field -/
structure ExC (K : PySem.W.Frag) (C : Addr) (f : Str) : Prop where
  oex : OexC K C
  xf : XfC K C
  no : PySem.W.findIn K (.ref C) f = some none
  iC : PySem.W.findIn K (.ref C) "__init__" = some (some (.ref (He.ma K C "__init__")))
  tI : PySem.W.typeIn K (.ref (He.ma K C "__init__")) = some (.type "function")
  ec : ExcC K C
theorem exB_ok {K : PySem.W.Frag} {C : Addr} {f : Str} (h : exB K C f = true) : ExC K C f := by
  unfold exB at h
  simp only [Bool.and_eq_true, decide_eq_true_eq] at h
  obtain ⟨⟨⟨⟨h1, ⟨⟨h2, h3⟩, h4⟩, h5⟩, ⟨h6, h7⟩, h8⟩, ⟨h9, h10⟩, h11⟩, ⟨⟨h12, h13⟩, h14⟩, h15⟩ := h
  refine ⟨⟨?_, h2, h3, h4, h5⟩, ⟨h6, h7, h3, h8⟩, h9, h10, h11, ⟨h6, h7, h3, h8, h12, h13, h14, h15⟩⟩
  split at h1
  · rename_i dd cd sl ho
    split at h1
    · rename_i D bm k0 k1 k2 k3 n k5 hm hs
      simp only [Bool.and_eq_true, beq_iff_eq, Bool.not_eq_true'] at h1
      obtain ⟨⟨⟨⟨rfl, rfl⟩, hdel⟩, hdc⟩, hr⟩ := h1
      obtain ⟨nm, bs, mro, ns, qn, hd, sn, sub, ab, col, del⟩ := cd
      dsimp only at hm hdel hdc
      subst hm hdel hdc
      have hsl : sl = #[k0, k1, k2, k3, some (.builtin "ValueError.__new__"), k5] := by
        obtain ⟨l⟩ := sl
        simp only at hs
        rw [hs]
      subst hsl
      exact ⟨nm, qn, ns, bs, bm, sn, sub, ab, col, dd, k0, k1, k2, k3, k5, ho, hr⟩
    · cases h1
  · cases h1
/-- __init__(self, v): self.f = v -/
def spXi (C : Addr) (f : Str) : Sp := fun vs H Q _ => ∃ a v, vs = [.ref a, v] ∧ H a = some (exo a C none) ∧ ∀ dx, H dx = none → dx ≠ a → Q .non (upd (upd H dx (exd dx [(f, v)])) a (exo a C (some dx)))
/-- raise C(e) -/
def tRaiseI (C : Addr) (f : Str) (E : XK) (ta : TA) : TS := fun _ σ H => ta σ H fun vs H1 => ∃ v, vs = [v] ∧ ∀ d, H1 d = none → E (.ref C) (some d) (upd H1 d (.xd [(f, v)]))
section
variable {X : Cx} {es : List Expr} {ta : TA}
/-- arguments, what they give weakened -/
def upA (ta : TA) : TA := fun σ H Q => ∃ R : List V → Hp → Prop, ta σ H R ∧ ∀ vs H1, R vs H1 → Q vs H1
theorem pa_up (h : PA X es ta) : PA X es (upA ta) := ⟨fun pos pins s σ H Q I ⟨R, hR, hQ⟩ => thn (h.run pos pins s σ H R I hR) fun us s1 ⟨vs, H1, I1, r, q⟩ => ⟨vs, H1, I1, r, hQ vs H1 q⟩⟩
theorem xd_heap {H : Hp} {a d : Addr} {o u : HO} {z : HO} (ha : H a = none) (hd : d ≠ a) : upd (del (upd (upd (upd H a o) d u) a z) a) d (.xd fs) = upd H d (.xd fs) := by
  funext b
  by_cases h1 : b = d
  · rw [h1, upd_same, upd_same]
  · rw [upd_ne h1, upd_ne h1]
    by_cases h2 : b = a
    · rw [h2, del_same, ha]
    · rw [del_ne h2, upd_ne h2, upd_ne h1, upd_ne h2]
theorem mk_read {C : Addr} {f : Str} {E : XK} {σ : L2.St} {H : Hp} (h : ta σ H fun vs H1 => ∃ v, vs = [v] ∧ ∀ d, H1 d = none → E (.ref C) (some d) (upd H1 d (.xd [(f, v)]))) :
    tMkO C (spXi C f) [] (upA ta) σ H fun cls d H' => E cls d H' := by
  refine ⟨_, h, fun vs H1 ⟨v, e, k⟩ => ?_⟩
  subst e
  refine ⟨by show 1 ≤ 1000; decide, fun a ha => ⟨a, v, rfl, upd_same, fun dx hdx hne => ⟨rfl, dx, [(f, v)], upd_same, by rw [upd_ne hne, upd_same], ?_, ?_⟩⟩⟩
  · rw [upd_ne hne] at hdx
    exact hdx
  · rw [xd_heap ha hne]
    rw [upd_ne hne] at hdx
    exact k dx hdx
theorem ps_raiseI {C : Addr} {f x : Str} {k : Nat} {E : XK} {e : Expr} {p pos pos' : Pos} (T : ExC X.K C f) (hm : X.mg x = some (.ref C))
    (F : FnOk X.prog X.w X.K X.mg X.base CX0 k (He.ma X.K C "__init__") (fdOf X.K (He.ma X.K C "__init__")) ["self", f] (spXi C f)) (b : Binds X.K (fdOf X.K (He.ma X.K C "__init__")) ["self", f] []) (hr : Room (k + 1) X.A) (hg : Gl X x) (hc : X.calm = true)
    (tk : Takes X fun cls d _ H => E cls d H) (ha : PA X (e :: es) ta) (hdb : (x == ("__debug__" : Str)) = false := by decide) (he : starEach (e :: es) X.env = (false, eval e X.env) :: starEach es X.env := by rfl) (hpl : (backTo pos (starEach es X.env)).any (·.1) = false := by rfl) :
    PS X (.Raise (some (.Call (.Name x p) (e :: es) [] pos)) none pos') (tRaiseI C f E ta) := by
  have h := ps_raise (pos := pos') hc tk (pmk_oex (p := p) (pos := pos) (dvs := []) T.oex T.iC T.tI F hr b .nil (pass0 : Passes CX0 X E0) hg hm (pa_up ha) hdb he hpl)
  exact ⟨fun pins s σ H D I q => h.run pins s σ H D I (mk_read q)⟩
end
/-- isinstance(e, c) of a caught error with fields -/
theorem call_isEf {X : Cx} {a D dd : Addr} {oe : Obj} {pn : List (Addr × Obj)} {fs : List (Str × V)} (C : ExcC X.K D) (hz : Zc (.ref D) (some dd) oe) (hf : ∃ vs, oe.data = .fields vs) :
    CallR (X.suite a ((a, oe) :: pn)) (.builtin "isinstance") (fun xs H Q => (∃ fs, H dd = some (.xd fs)) ∧ rIsE X.K D a xs H Q) := by
  intro pins s σ H xs us Q I r h
  obtain ⟨⟨fs, hd0⟩, c, cv, b, rfl, hcv, e, q⟩ := h
  cases r with
  | cons rx rr =>
    cases rr with
    | cons rt rr =>
      cases rr
      cases rx
      have ec := hcv _ rt
      subst ec
      obtain ⟨hget, _⟩ := I.pin (a, oe) (List.mem_append.mpr (.inl List.mem_cons_self))
      obtain ⟨vs, hv⟩ := hf
      obtain ⟨mA, ⟨od, es, ep, ho, _⟩, _⟩ := (show ObjOk X.prog X.w H s.heap dd (.xd fs) from I.hok dd _ hd0)
      have J : PySem.W.InstAt s.heap a oe D (some od) := by
        obtain ⟨oc, od', oda, osl⟩ := oe
        obtain ⟨h1, h2⟩ := hz
        dsimp only at h1 h2 hv
        subst h1 h2 hv
        exact ⟨hget, rfl, rfl, ho⟩
      exact PySem.W.kia_one (PySem.W.y_kitx C.hg C.hk C.hs C.hd C.ha C.hn C.ht C.hm) I.kIn ⟨od, J⟩ e (fun z => nomatch z) fun tk => ⟨.bl b, H, I.kept (t' := tk) fun _ _ z => z, rfl, q⟩
end Y

namespace Y
open PySem PySem.Spec PyProof.Rows L2
/-- a tuple times 1 is the tuple itself -/
theorem tuple_mul1 (l : Addr) (items : Array Value) (n : Nat) (dd : Option Addr) (sl : Array (Option Value)) (u : Tok) :
    Meets (Builtin.«tuple.__mul__» ⟨[.ref l, .int 1 u], []⟩) (fun _ R s => s.heap.get? l = some { cls := .type "tuple", dict := dd, data := .seq items n, slots := sl } ∧ R (.ok (.ret (Value.ref l))) s) :=
  .of_wp fun prog w A R s h => by
    obtain ⟨hp, g, d, tk, os⟩ := s
    obtain ⟨hl, h⟩ := h
    have c0 : (decide ((1 : Int) < -(2 ^ 63)) || decide ((1 : Int) ≥ 2 ^ 63)) = false := by decide
    have c1 : (items.isEmpty || ((1 : Int) == 1)) = true := by simp
    have f1 := AutoSeq1.idx_int
    wp_walk using wpAny_loadPart' hl
    repeat (first
      | (refine wpAny_ite_false (decide_eq_false (by rw [c0]; exact Bool.false_ne_true)) ?_; wp_walk using wpAny_loadPart' hl)
      | (refine wpAny_ite_true (decide_eq_true c1) ?_; wp_walk using wpAny_loadPart' hl))
    exact ⟨_, rfl, h⟩
end Y
namespace Y
open PySem PySem.Spec PyProof.Rows L2
/-- tuple * int, from 1 on -/
def rRepU (K : PySem.W.Frag) : R2 := fun x y H Q => rRepT K x y H Q ∨ ∃ l xs, x = .ref l ∧ y = .int 1 ∧ SqT K H l xs ∧ Q (.ref l) H
def rRepS : R2 := fun x y H Q => ∃ z k, x = .str z ∧ y = .int k ∧ 2 ≤ k ∧ k ≤ 1000 ∧ 1 ≤ z.length ∧ z.length ≤ 1000 ∧ Q (.str ⟨(List.replicate k.toNat z.cps).foldl (· ++ ·) #[]⟩) H
section
variable {X : Cx} {K : PySem.W.Frag}
theorem op_repU (hK : X.K = K) : OpR X (binaryOp .Mult) (rRepU K) := by
  subst hK
  intro pins s σ H x y v u Q I rx ry h
  rcases h with h | ⟨l, xs, rfl, rfl, hT, q⟩
  · exact op_repT pins s σ H x y v u Q I rx ry h
  · cases rx
    obtain ⟨t, rfl⟩ := ry
    obtain ⟨its, r, ⟨⟨cls, dd, data, sl⟩, ho, hc, n, hd⟩, hs⟩ := I.tuple hT
    simp only at hc hd
    subst hc hd
    refine wpAny_binaryOp_repeat_ref (T := "tuple") (U := "int") (by decide) ⟨_, ho, rfl⟩ (fun s' => typeIs_int s' 1 t) noFill_tuple_mul F.fills_int_mul F.slot_int_rmul repeat_tuple F.slot_int_index.lookup
      (call_meets F.slot_int_rmul (typeIs_int s 1 t) F.entry_int_rmul (F.args_int_rmul_2 _ _) (int_rmul_tuple 1 t l its.toArray n dd sl)
        ⟨ho, rfl, ⟨_, ho, rfl⟩, call_meets F.slot_tuple_mul ⟨_, ho, rfl⟩ F.entry_tuple_mul (F.args_tuple_mul_2 _ _) (tuple_mul1 l its.toArray n dd sl t) ⟨ho, ?_⟩⟩)
    exact ⟨.ref l, H, I, rfl, q⟩
theorem rep_size (c : Array Nat) : ∀ (n : Nat) (a : Array Nat), ((List.replicate n c).foldl (· ++ ·) a).size = a.size + n * c.size
  | 0, a => by simp
  | n + 1, a => by
    rw [List.replicate_succ, List.foldl_cons, rep_size c n, Array.size_append, Nat.succ_mul]
    omega
theorem op_repS : OpR X (binaryOp .Mult) rRepS := by
  intro pins s σ H x y v u Q I rx ry h
  obtain ⟨z, k, rfl, rfl, h1, h2, h3, h4, q⟩ := h
  obtain ⟨t, rfl⟩ := rx
  obtain ⟨t', rfl⟩ := ry
  have hb : z.length * k.toNat ≤ 1000000 := Nat.le_trans (Nat.mul_le_mul h4 (show k.toNat ≤ 1000 by omega)) (by decide)
  have e1 : ¬ k < 1 := by omega
  have e2 : ¬ (k == 1 || z.length == 0) = true := by simp; omega
  refine PySem.P.mul_str (by rw [decide_eq_false (by omega), decide_eq_false (by omega)]; rfl) (fun _ _ => ?_) (fun _ _ => ?_) ?_
  · have : (9223372036854775807 : Int) / k ≥ 9223372036854775807 / 1000 := by
      apply Int.le_ediv_of_mul_le (by omega)
      calc (9223372036854775807 : Int) / 1000 * k ≤ 9223372036854775807 / 1000 * 1000 := Int.mul_le_mul_of_nonneg_left h2 (by decide)
        _ ≤ 9223372036854775807 := by decide
    have : (2 ^ 63 - 1 : Int) / k ≥ 9223372036854775 := by
      show (9223372036854775807 : Int) / k ≥ _
      exact this
    omega
  · unfold Builtin.Str.tooLong
    rw [sizeLine_eq]
    exact decide_eq_false (by omega)
  · rw [if_neg e1, if_neg e2]
    refine ⟨?_, .str _, H, I.tok _, ⟨_, rfl⟩, q⟩
    show Array.size _ ≤ _
    rw [rep_size, sizeLine_eq]
    show 0 + k.toNat * z.length ≤ _
    rw [Nat.mul_comm] at hb
    omega
end
end Y

namespace Y
open PySem PySem.Spec PyProof.Rows L2
/-! ### a list that changes: read, stored -/
section
variable {K : PySem.W.Frag} {σ : L2.St} {G H H' G' : Hp} {Q : VK} {v x y : V} {d d' : PyData} {ds es : List PyData} {i : Int} {M : List Addr}
theorem g_ixM {p : Addr} {xs : List V} {k : Nat} (h : H p = some (.lst xs)) (hv : xs[k]? = some v) (hj : i = (k : Int)) (q : Q v H) : rIxL K (.ref p) (.int i) H Q := by
  subst hj
  exact ⟨p, xs, _, v, rfl, rfl, .of h, atI_nat hv, q⟩
theorem g_ixK {p : Addr} {xs : List V} {k : Nat} (e : Ex G H) (h : SqL K G p xs) (hv : xs[k]? = some v) (hj : i = (k : Int)) (q : Q v H) : rIxL K (.ref p) (.int i) H Q := by
  subst hj
  exact ⟨p, xs, _, v, rfl, rfl, e.seqL h, atI_nat hv, q⟩
theorem g_lenK {p : Addr} {xs : List V} (e : Ex G H) (h : SqL K G p xs) (q : Q (.int (xs.length : Int)) H) : rLen K [.ref p] H Q := ⟨p, xs, rfl, .inl (e.seqL h), q⟩
theorem g_sub {to ti : TE} {t : TSet} {R : L2.St → Hp → Prop} (q : to σ H fun o H1 => ti σ H1 fun i H2 => t o i v H2 fun H3 => R σ H3) : gSub to ti t v σ H R := q
theorem g_setM {p : Addr} {xs : List V} {k : Nat} {R : Hp → Prop} (h : H p = some (.lst xs)) (hj : i = (k : Int)) (hk : k < xs.length) (q : R (upd H p (.lst (xs.set k v)))) : rSetL (.ref p) (.int i) v H R := by
  subst hj
  exact ⟨p, xs, _, k, rfl, rfl, h, Evl.ixN_nat hk, q⟩
/-- an item at a drawn place -/
theorem g_ixLn (e : Ex G H) (h : Dp K G x (.list ds)) (h0 : 0 ≤ i) (h1 : i < (ds.length : Int)) (q : ∀ v d, d ∈ ds → ds[i.toNat]? = some d → Dp K G v d → Q v H) : rIxL K x (.int i) H Q := by
  have hl : i.toNat < ds.length := by omega
  exact g_ixL e h (k := i.toNat) (d := ds[i.toNat]) (by simp [hl]) (by omega) fun v dv => q v _ (List.getElem_mem hl) (by simp [hl]) dv
theorem g_ixTn (e : Ex G H) (h : Dp K G x (.tuple ds)) (h0 : 0 ≤ i) (h1 : i < (ds.length : Int)) (q : ∀ v d, d ∈ ds → ds[i.toNat]? = some d → Dp K G v d → Q v H) : rIxT K x (.int i) H Q := by
  have hl : i.toNat < ds.length := by omega
  exact g_ixT e h (k := i.toNat) (d := ds[i.toNat]) (by simp [hl]) (by omega) fun v dv => q v _ (List.getElem_mem hl) (by simp [hl]) dv
theorem g_ixSn {s : Str} (hs : s.length ≤ sizeLine) (h0 : 0 ≤ i) (h1 : i < (s.length : Int)) (q : ∀ c, c ∈ s.cps.toList → Q (.str ⟨#[c]⟩) H) : rIxS (.str s) (.int i) H Q := by
  have hl : i.toNat < s.cps.toList.length := by rw [Array.length_toList]; show i.toNat < s.length; omega
  exact g_ixS hs (k := i.toNat) (c := s.cps.toList[i.toNat]) (by simp) (by omega) (q _ (List.getElem_mem hl))
theorem g_cat {p b : Addr} {xs zs : List V} (hp : H p = some (.lst xs)) (hb : H b = some (.lst zs)) (hl : xs.length + zs.length ≤ sizeLine) (e : Ex G H) (q : ∀ r H', Nx [] G H G H' → H r = none → H' r = some (.lst (xs ++ zs)) → G r = none → Q (.ref r) H') : rCat (.ref p) (.ref b) H Q :=
  ⟨p, b, xs, zs, rfl, rfl, hp, hb, hl, fun r hr => q r _ (Nx.own e hr) hr upd_same (e.free hr)⟩
theorem g_pop0 {p : Addr} {xs : List V} (hp : H p = some (.lst (v :: xs))) (hl : xs.length < 100000) (q : Q v (upd H p (.lst xs))) : rPopAt (.ref p) [.int 0] H Q :=
  ⟨p, v :: xs, 0, 0, v, rfl, rfl, hp, by decide, by decide, by simp [seqIndex?], rfl, q⟩
/-! ### tuples joined and cut -/
theorem g_catA (e : Ex G H) (hx : Dp K G x (.tuple ds)) (hy : Dp K G y (.tuple es)) (hz : ds.length + es.length ≤ sizeLine) (q : ∀ v G' H', Nx [] G H G' H' → Dp K G' v (.tuple (ds ++ es)) → Q v H') : rCatA K x y H Q := by
  obtain ⟨a, xs, rfl, ha, da⟩ := dp_tup hx
  obtain ⟨b, ys, rfl, hb, db⟩ := dp_tup hy
  refine ⟨a, b, xs, ys, rfl, rfl, e.seqT ha, e.seqT hb, by rw [dpAll_len da, dpAll_len db]; exact hz, fun hn => ?_, fun _ hn => ?_, fun _ _ p hp => ?_⟩
  · subst hn
    cases da
    exact q _ G H (Nx.refl e) hy
  · subst hn
    cases db
    rw [List.append_nil] at q
    exact q _ G H (Nx.refl e) hx
  · have h2 := nx_tup e (dpAll_app da db) hp
    exact q _ _ _ h2.1 h2.2
theorem cut_lo (xs : List V) (k : Nat) : cutV xs (some (k : Int)) none = xs.drop k := by
  unfold cutV
  rw [HT.sIx_nat, HT.sIx_none]
  by_cases h : k ≤ xs.length
  · rw [Nat.min_eq_left h, List.take_of_length_le (by rw [List.length_drop]; omega)]
  · rw [Nat.min_eq_right (by omega), List.drop_eq_nil_of_le (Nat.le_refl _), List.drop_eq_nil_of_le (by omega)]
    simp
theorem cut_hi (xs : List V) (k : Nat) : cutV xs none (some (k : Int)) = xs.take k := by
  unfold cutV
  rw [HT.sIx_nat, HT.sIx_none, List.drop_zero, Nat.sub_zero]
  by_cases h : k ≤ xs.length
  · rw [Nat.min_eq_left h]
  · rw [Nat.min_eq_right (by omega), List.take_of_length_le (Nat.le_refl _), List.take_of_length_le (by omega)]
theorem cut_all {xs : List V} {lo hi : Option Int} (h : HT.sIx xs.length 0 lo = 0 ∧ HT.sIx xs.length xs.length hi = xs.length) : cutV xs lo hi = xs := by
  unfold cutV
  rw [h.1, h.2, List.drop_zero, Nat.sub_zero, List.take_length]
theorem g_sl {r : V → Option Int → Option Int → Hp → VK → Prop} {te : TE} {tl th : TO} (q : te σ H fun x H1 => tl σ H1 fun l H2 => th σ H2 fun u H3 => r x l u H3 Q) : tSl r te tl th σ H Q := q
theorem g_noPart {R : Option Int → Hp → Prop} (q : R none H) : tNoPart σ H R := q
theorem g_part {t : TE} {R : Option Int → Hp → Prop} (q : t σ H fun x H1 => ∃ i, x = .int i ∧ R (some i) H1) : tPart t σ H R := q
theorem g_isint {P : Int → Prop} (q : P i) : ∃ k, V.int i = .int k ∧ P k := ⟨i, rfl, q⟩
theorem g_slAll {lo hi : Option Int} (e : Ex G H) (hx : Dp K G x (.tuple ds)) (hc : ∀ xs : List V, DpAll K G xs ds → DpAll K G (cutV xs lo hi) es) (q : ∀ v G' H', Nx [] G H G' H' → Dp K G' v (.tuple es) → Q v H') : rSlA K x lo hi H Q := by
  obtain ⟨a, xs, rfl, ha, da⟩ := dp_tup hx
  have dc := hc xs da
  refine ⟨a, xs, rfl, e.seqT ha, fun hw => ?_, fun _ p hp => ?_⟩
  · rw [cut_all hw] at dc
    exact q _ G H (Nx.refl e) (.tup ha dc)
  · have h2 := nx_tup e dc hp
    exact q _ _ _ h2.1 h2.2
theorem g_slHi {k : Nat} (e : Ex G H) (hx : Dp K G x (.tuple ds)) (hj : i = (k : Int)) (q : ∀ v G' H', Nx [] G H G' H' → Dp K G' v (.tuple (ds.take k)) → Q v H') : rSlA K x none (some i) H Q := by
  subst hj
  exact g_slAll e hx (fun xs da => by rw [cut_hi]; exact dpAll_take k da) q
theorem g_slLo {k : Nat} (e : Ex G H) (hx : Dp K G x (.tuple ds)) (hj : i = (k : Int)) (q : ∀ v G' H', Nx [] G H G' H' → Dp K G' v (.tuple (ds.drop k)) → Q v H') : rSlA K x (some i) none H Q := by
  subst hj
  exact g_slAll e hx (fun xs da => by rw [cut_lo]; exact dpAll_drop k da) q
theorem dpAll_rep {xs : List V} (h : DpAll K G xs ds) : ∀ n : Nat, DpAll K G (List.replicate n xs).flatten (List.replicate n ds).flatten
  | 0 => .nil
  | n + 1 => by
    rw [List.replicate_succ, List.flatten_cons, List.replicate_succ, List.flatten_cons]
    exact dpAll_app h (dpAll_rep h n)
theorem g_repU {k : Nat} (e : Ex G H) (hx : Dp K G x (.tuple ds)) (hn : ds ≠ []) (hk : 1 ≤ k ∧ k ≤ 1000) (hl : ds.length ≤ 1000) (hj : i = (k : Int)) (q : ∀ v G' H', Nx [] G H G' H' → Dp K G' v (.tuple (List.replicate k ds).flatten) → Q v H') : rRepU K x (.int i) H Q := by
  subst hj
  obtain ⟨a, xs, rfl, ha, da⟩ := dp_tup hx
  by_cases h1 : k = 1
  · subst h1
    refine .inr ⟨a, xs, rfl, rfl, e.seqT ha, q _ G H (Nx.refl e) ?_⟩
    simpa using hx
  · refine .inl ⟨a, _, xs, rfl, rfl, e.seqT ha, fun z => hn (by
      have := dpAll_len da
      rw [z] at this
      exact List.eq_nil_of_length_eq_zero this.symm), by omega, by omega, by rw [dpAll_len da]; exact hl, fun p hp => ?_⟩
    have h2 := nx_tup e (dpAll_rep da k) hp
    exact q _ _ _ h2.1 h2.2

/-! ### the pool of a law: a drawn number, the script's own list, a place -/
def PoolAt (K : PySem.W.Frag) (a : Addr) (G H : Hp) : Prop := G a = none ∧ ∃ (x k : Int) (l : Addr) (ns : List Int), H a = some (.lst [.int x, .ref l, .int k]) ∧ SqL K G l (ns.map V.int) ∧ 0 ≤ x ∧ -1 ≤ k
theorem PoolAt.go {a : Addr} (p : PoolAt K a G H) (n : Nx M G H G' H') (ha : a ∉ M) : PoolAt K a G' H' := by
  obtain ⟨g, x, k, l, ns, h, hl, r⟩ := p
  exact ⟨n.old a g ⟨_, h, fun _ z => nomatch z⟩, x, k, l, ns, n.fr a _ ha h, n.gg.seqL hl, r⟩
theorem PoolAt.live {a : Addr} (p : PoolAt K a G H) : H a ≠ none := by
  obtain ⟨_, _, _, _, _, h, _⟩ := p
  rw [h]; exact fun z => nomatch z
theorem PoolAt.upd {a A : Addr} {o : HO} (p : PoolAt K a G H) (h : A ≠ a) : PoolAt K a G (upd H A o) := by
  obtain ⟨g, x, k, l, ns, h1, hl, r⟩ := p
  exact ⟨g, x, k, l, ns, by rw [upd_ne h.symm]; exact h1, hl, r⟩
/-- a comprehension whose element draws -/
theorem g_lcPool {J : It} {te : TE} {tt : TT} {σ : L2.St} {a A : Addr} {j : Nat} (S : Src K [a] J G H ds) (e : Ex G H) (hA : H A = none) (hp : PoolAt K a G H) (hz : ds.length < sizeLine) (Jv : Nat → List PyData → Prop) (j0 : Jv 0 [])
    (hs : ∀ i d v acc G' H', ds[i]? = some d → Dp K G' v d → Nx [a] G H G' H' → PoolAt K a G' H' → acc.length ≤ i → Jv i acc → ∀ (QE : VK) (QN : Hp → Prop),
      (∀ y G4 H4 d', Nx [a] G' H' G4 H4 → PoolAt K a G4 H4 → Dp K G4 y d' → Jv (i + 1) (acc ++ [d']) → QE y H4) → (∀ G3 H3, Nx [a] G' H' G3 H3 → PoolAt K a G3 H3 → Jv (i + 1) acc → QN H3) →
      tt ((wipe σ [j]).set j (some v)) H' fun b H3 => if b = true then te ((wipe σ [j]).set j (some v)) H3 QE else QN H3)
    (hd : ∀ G' H' ys acc, Jv ds.length acc → Nx [a] G H G' H' → PoolAt K a G' H' → G' A = none → H' A = some (.lst ys) → DpAll K G' ys acc → Q (.ref A) H') : LcW J (gName j) tt te [j] σ A Q H :=
  g_lcG S e hA (fun b hb => by simp at hb; rw [hb]; exact hp.live) hz (PoolAt K a) hp (fun G' H' o p => by
    by_cases z : A = a
    · exact absurd hA (by rw [z]; exact hp.live)
    · exact p.upd z) (fun G' H' G1 H1 n p => p.go n (by simp)) Jv j0 hs hd
/-- the promise of a helper that draws: φ tells the value -/
def Drawn (K : PySem.W.Frag) (a : Addr) (G H : Hp) (Q : VK) (φ : Hp → V → Prop) : Prop := ∀ v G' H', Nx [a] G H G' H' → PoolAt K a G' H' → φ G' v → Q v H'
end
end Y

namespace Y
open PySem PySem.Spec PyProof.Rows L2
section
variable {X : Cx} {k : Nat} {ps : List Str} {sp : Sp} {W : WX} {x : Str} {p pos : Pos} {e : Expr} {es : List Expr} {t : TA}
/-- a call within a try's body -/
theorem pe_callSC (F : FnOk X.prog X.w X.K X.mg X.base (L2.CX X.prog X.w) k (He.ga X.K x) (fdOf X.K (He.ga X.K x)) ps sp) (c : Cal X.K X.mg x ps) (hr : Room k X.A) (hg : Gl X x) (tk : Takes X W)
    (ha : PA X (e :: es) t) (hdb : (x == ("__debug__" : Str)) = false := by decide) (he : starEach (e :: es) X.env = (false, eval e X.env) :: starEach es X.env := by rfl) (hpl : (backTo pos (starEach es X.env)).any (·.1) = false := by rfl) :
    PE X (.Call (.Name x p) (e :: es) [] pos) (tCallS sp (WE W) t) := pe_callS F hr hg c.g c.k c.b (fun σ => passAt tk σ) ha hdb he hpl
end
/-- isinstance(e, c) of the error that a suite holds -/
def rIsEo (K : PySem.W.Frag) (a : Addr) (cls : Value) (d : Option Addr) : List V → Hp → VK → Prop := fun xs H Q => ∃ (D dd : Addr) (fs : List (Str × V)) (c : V) (cv : Value) (b : Bool),
  cls = .ref D ∧ d = some dd ∧ H dd = some (.xd fs) ∧ ExcC K D ∧ xs = [.ref a, c] ∧ (∀ u, RelV c u → u = cv) ∧ PySem.W.kitOne K (.ref D) cv = some b ∧ Q (.bl b) H
theorem call_isEo {X : Cx} {a : Addr} {oe : Obj} {pn : List (Addr × Obj)} {cls : Value} {d : Option Addr} (hz : Zc cls d oe) (hf : ∃ vs, oe.data = .fields vs) : CallR (X.suite a ((a, oe) :: pn)) (.builtin "isinstance") (rIsEo X.K a cls d) := by
  intro pins s σ H xs us Q I r h
  obtain ⟨D, dd, fs, c, cv, b, rfl, rfl, h1, h2, h3, h4, h5, q⟩ := h
  exact call_isEf (fs := fs) h2 hz hf pins s σ H xs us Q I r ⟨⟨fs, h1⟩, c, cv, b, h3, h4, h5, q⟩
section
variable {K : PySem.W.Frag} {σ : L2.St} {H : Hp} {Q : VK}
theorem g_callS {sp : Sp} {E : L2.St → XK} {ar : TA} (q : ar σ H fun vs H1 => sp vs H1 Q (E σ)) : tCallS sp E ar σ H Q := q
theorem g_isE {a D dd C : Addr} {fs : List (Str × V)} {b : Bool} (h : H dd = some (.xd fs)) (hc : ExcC K D) (hk : PySem.W.kitOne K (.ref D) (.ref C) = some b) (q : Q (.bl b) H) : rIsEo K a (.ref D) (some dd) [.ref a, .ref C] H Q :=
  ⟨D, dd, fs, .ref C, .ref C, b, rfl, rfl, h, hc, rfl, fun u r => r, hk, q⟩
theorem g_xf {a C dd : Addr} {f : Str} {fs : List (Str × V)} {v : V} {i : Nat} (hv : σ[i]? = some (some (.ref a))) (h : H dd = some (.xd fs)) (hl : fs.lookup f = some v) (q : Q v H) : tXf a (.ref C) (some dd) C f (tVar i) σ H Q :=
  ⟨_, hv, rfl, rfl, dd, fs, v, rfl, h, hl, q⟩
end
end Y

namespace Y
open PySem PySem.Spec PyProof.Rows L2
/-! ### list(e.values()) -/
def rListVals : V → Hp → VK → Prop := fun x H Q => ∃ (d : Addr) (kvs : List (Key × V)), x = .ref d ∧ H d = some (.dK kvs) ∧ ∀ p, H p = none → Q (.ref p) (upd H p (.lst (kvs.map (·.2))))
def tListVals (te : TE) : TE := fun σ H Q => te σ H fun x H1 => rListVals x H1 Q
section
variable {X : Cx} {e : Expr} {te : TE} {p apos cpos pos : Pos}
theorem pe_listVals (hc : X.calm = true) (he : PE X e te) (hg : Gl X "list") (hm : X.mg "list" = none) (hv : bootBuiltins "list" = some (.type "list") := by decide +kernel) (hbase : attributeBase e "values" X.env (eval e X.env) = eval e X.env := by rfl) (hline : (apos.endLine == cpos.line) = true := by rfl)
    (hs : starEach [.Call (.Attribute e "values" apos) [] [] cpos] X.env = (false, eval (.Call (.Attribute e "values" apos) [] [] cpos) X.env) :: starEach [] X.env := by rfl) :
    PE X (.Call (.Name "list" p) [.Call (.Attribute e "values" apos) [] [] cpos] [] pos) (tListVals te) := by
  refine ⟨fun pins s σ H Q I hq => ?_⟩
  refine wpAny_Call_Name_kw (ld_blt I hg hm hv ?_)
  refine PyProof.Rows.callWith_type1 ?_ hs rfl
  rw [hs]
  show wpAny _ _ (spliced ((false, eval (.Call (.Attribute e "values" apos) [] [] cpos) X.env) :: backTo pos (starEach [] X.env))) _ _ s
  refine Calls.spliced_cons ?_
  refine wpAny_Call_method (T := "dict") (id := "dict.values") hbase rfl hline F.plainAttrs_dict F.slot_dict_values F.type_dict_values (thn (he.run pins s σ H _ I hq) fun u s1 ⟨x, H1, I1, rx, d, kvs, ex, hd, q⟩ => ?_)
  subst ex
  obtain rfl : u = Value.ref d := rx
  obtain ⟨hz, hs0, vs, kv, hdo⟩ := I1.hok d _ hd
  obtain ⟨ep, hat⟩ := hdo.dictAt
  have lk : kvs.length = vs.length := Paired.length kv
  have I2 : Inv X pins σ H1 { s1 with heap := s1.heap.push { cls := .type "dict_values", data := .fields #[.ref d] } } := I1.kept (t' := s1.toks) fun b ob q => Heap.get?_push_of_some _ q
  refine ⟨hdo.typeIs, hdo.mapOf.noDict, ?_⟩
  show wpAny _ _ (callWith cpos (.builtin "dict.values") [.ref d] [] []) _ X.xe s1
  refine method_meetsIn F.slot_dict_values F.entry_dict_values rfl (PySem.evalArgs_none ⟨rfl, hdo.typeIs, F.args_dict_values_1 _, _, meets_dict_values (mixKind X.prog X.w) d hs0, ⟨vs, hdo⟩, ?_⟩)
  refine Calls.spliced_nil ?_
  refine PySem.W.kdl_call (PySem.W.kdl_values (knd := mixKind X.prog X.w) (kvs := vs) (ep := ep)) (I1.ok.hd hc) ⟨⟨_, Heap.get?_push_size _ rfl, rfl, rfl⟩, hat.push _⟩ (by rw [← lk]; exact hz) fun h' tk acc c hk hS hacc => ?_
  refine ⟨.ref _, upd H1 _ (.lst (kvs.map (·.2))), I2.laid hk (Nat.le_refl _) (show ObjOk X.prog X.w _ _ _ (.lst (kvs.map (·.2))) from ⟨?_, acc.toList, c, ?_, ?_⟩), rfl, q _ (I2.hok.fresh (Nat.le_refl _))⟩
  · rw [List.length_map]; exact hz
  · have el : acc.toList.length = acc.size := by simp
    refine vals_of_at (by rw [List.length_map, el, hacc.1, lk]) fun j x w h1 h2 => ?_
    obtain ⟨k, hky⟩ := hacc.2 j w (by rw [← Array.getElem?_toList]; exact h2)
    obtain ⟨y, g1, g2⟩ := KV.at' kv hky
    rw [List.getElem?_map, g1] at h1
    cases h1
    exact g2
  · rw [Array.toArray_toList]; exact hS
end
end Y

namespace Y
open PySem PySem.Spec PyProof.Rows L2
/-! ### several except clauses, with names or without -/
abbrev HdT := Value × Option Nat × (Addr → Value → Option Addr → TS)
/-- the ends behind a named clause: the name is unbound -/
def endsAs (D : Ends) (i : Nat) : Ends := { nx := fun σ' H' => D.nx (σ'.set i none) H', rt := D.rt, bk := fun σ' H' => D.bk (σ'.set i none) H', ct := fun σ' H' => D.ct (σ'.set i none) H' }
def runA (D : Ends) (i : Option Nat) (t : TS) (a : Addr) (σ : L2.St) (H : Hp) : Prop := match i with
  | none => t D σ H
  | some i => t (endsAs D i) (σ.set i (some (.ref a))) H
def wManyA (K : PySem.W.Frag) (Wout : WX) (D : Ends) : List HdT → WX
  | [] => Wout
  | (c, i, ts) :: r => fun cls d σ H => ∃ b, PySem.W.exmOne K cls c = some b ∧ (b = true → ∀ a, H a = none → runA D i (ts a cls d) a σ H) ∧ (b = false → wManyA K Wout D r cls d σ H)
inductive HdsA (X : Cx) : List ExceptHandler → List HdT → Prop
  | nil : HdsA X [] []
  | cons {x : Str} {c : Value} {ts : Addr → Value → Option Addr → TS} {b₀ : Stmt} {suite : List Stmt} {np pos' : Pos} {hds : List ExceptHandler} {l : List HdT} (hc : Names X x c)
      (hsu : ∀ (a : Addr) (oe : Obj) (cls : Value) (d : Option Addr) (pn : List (Addr × Obj)), Zc cls d oe → (∃ vs, oe.data = .fields vs) → PSs (X.suite a ((a, oe) :: pn)) (b₀ :: suite) (ts a cls d)) (r : HdsA X hds l) :
      HdsA X (.ExceptHandler (some (.Name x np)) none (b₀ :: suite) pos' :: hds) ((c, none, ts) :: l)
  | as_ {x n : Str} {i : Nat} {c : Value} {ts : Addr → Value → Option Addr → TS} {b₀ : Stmt} {suite : List Stmt} {np pos' : Pos} {hds : List ExceptHandler} {l : List HdT} (hi : X.N[i]? = some n) (hln : X.env.kindOf n = some .local) (hc : Names X x c)
      (hsu : ∀ (a : Addr) (oe : Obj) (cls : Value) (d : Option Addr) (pn : List (Addr × Obj)), Zc cls d oe → (∃ vs, oe.data = .fields vs) → PSs (X.suite a ((a, oe) :: pn)) (b₀ :: suite) (ts a cls d)) (r : HdsA X hds l) :
      HdsA X (.ExceptHandler (some (.Name x np)) (some n) (b₀ :: suite) pos' :: hds) ((c, some i, ts) :: l)
section
variable {X : Cx} {body : List Stmt} {h₀ : ExceptHandler} {hds : List ExceptHandler} {l : List HdT} {pos : Pos} {tb : WX → TS} {Wout : WX}
theorem ps_try_manyA (hs : X.stack = X.env :: X.outer) (hf : X.env.frame = some X.env.locals) (hN : X.N.Nodup) (tk : Takes X Wout)
    (hb : ∀ (W : WX) (pn : List (Addr × Obj)) (xe : Value → Shared → Prop), Takes (X.tr pn xe) W → PassesOwn (model X.prog X.w) X.A X.env xe → PSs (X.tr pn xe) body (tb W))
    (hh : HdsA X (h₀ :: hds) l) : PS X (.Try body (h₀ :: hds) [] [] pos) (fun D σ H => tb (wManyA X.K Wout D l) D σ H) := by
  refine ⟨fun pins s σ H D I h => ?_⟩
  have ok := I.ok
  have hfr : X.A.frames = some (X.env :: X.outer) := by rw [ok.frames, hs]
  refine wpAny_Try_except ?_
  refine wpAny_mono ((hb (wManyA X.K Wout D l) (X.pn ++ pins) (fun e s₁ => wpAny (model X.prog X.w) X.A (noteFrame e X.env) (fun _ s₂ => wpAny (model X.prog X.w) X.A (setFlight e none) (fun _ s₃ =>
    wpAny (model X.prog X.w) X.A (handleBy e X.env (h₀ :: hds)) (SP X pins D) X.xe s₃) X.xe s₂) X.xe s₁) (fun u s' xx => ?_) PassesOwn.looking).run [] s σ H D (I.toTry _) h) (fun f s1 hsp => ?_) (fun e s1 he => he)
  · -- the catch
    obtain ⟨a, B, sI, pins', σ', H', cls, d, rfl, J', nb, up, sky, na, os, ag, w⟩ := xx
    have J : Inv X pins σ' H' sI := J'.ofTry ok
    have sky' : Sky B (X.env :: X.outer) a (Zc cls d) X.env.locals s'.heap := by rw [← hs]; exact sky
    show wpAny (model X.prog X.w) X.A (noteFrame (.ref a) X.env) _ _ _
    refine Sky.land Zc.steady hfr hf sky' fun h3 fl3 up3 => ?_
    have J3 : Inv X pins σ' H' { s' with heap := h3 } := J.landed nb fl3.1 (up.trans up3) os ag
    obtain ⟨oe3, vs3, he3, hz3, hd3⟩ := fl3.there
    have notFr : ∀ {h : Heap} {o : Obj} {vs : Array Value}, h.FunFrames B (X.env :: X.outer) → h.get? a = some o → o.data = .fields vs → a ∉ frs (X.env :: X.outer) := fun {h o vs} ff e dd hm => by
      obtain ⟨_, o', e', hnf⟩ := ff.mem hm
      rw [e] at e'; cases e'
      exact hnf _ dd
    have nfr := notFr fl3.2.2.1 he3 hd3
    have nL : a ≠ X.env.locals := fun z => nfr (List.mem_filterMap.mpr ⟨X.env, List.mem_cons_self, by rw [hf, z]⟩)
    have nF : a ∉ X.fs := fun hm => by
      obtain ⟨e, he, q⟩ := List.mem_filterMap.mp hm
      exact nfr (List.mem_filterMap.mpr ⟨e, List.mem_cons_of_mem _ he, q⟩)
    have S3 := J3.suite he3 hd3 na nL nF
    have LT : PySem.W.Looks (model X.prog X.w) h3 (typeOf (.ref a)) cls := fun A Q E s k q => wpAny_typeOf_ref (k _ _ he3) (by rw [hz3.1]; exact q)
    have test : ∀ {x : Str} {c : Value} {np : Pos} (hc : Names X x c) {Q : Value → Shared → Prop} {E : Value → Shared → Prop}, Q c { s' with heap := h3 } → wpAny (model X.prog X.w) (X.A.mark (some (.ref a))) (eval (.Name x np) X.env) Q E { s' with heap := h3 } := fun {x c np} hc {Q E} q => by
      obtain ⟨hg, hdbg, hm | ⟨hm, hv, hnn⟩⟩ := hc
      · exact ld_glob (X := X.suite a ((a, oe3) :: (X.pn ++ pins))) S3 hg hm q hdbg
      · exact ld_blt (X := X.suite a ((a, oe3) :: (X.pn ++ pins))) S3 hg hm hv q hnn hdbg
    have go : ∀ {hds' : List ExceptHandler} {l' : List HdT}, HdsA X hds' l' → wManyA X.K Wout D l' cls d σ' H' →
        wpAny (model X.prog X.w) X.A (handleBy (.ref a) X.env hds') (SP X pins D) X.xe { s' with heap := h3 } := by
      intro hds' l' hk
      induction hk with
      | nil =>
        intro w
        refine wpAny_handleBy_nil ?_
        obtain ⟨k1, k2, k3, oe, vs, T, oT, ts', he, hz, hd, h1, hr⟩ := id fl3
        unfold PySem.passOn
        refine wpAny_bind (wpAny_field he hd h1 ?_)
        rw [if_neg (show ¬ ((Value.ref T == Value.none) = true) from by simp)]
        have fin : wpAny (model X.prog X.w) X.A (setFlight (.ref a) X.env.frame) (fun _ s4 => wpAny (model X.prog X.w) X.A (throw (.ref a) : Sem Flow) (SP X pins D) X.xe s4) X.xe { s' with heap := h3 } := by
          rw [hf]
          refine HandSPX.setFlight_upZ fl3 fun h4 hh4 up4 => wpAny_throw (tk _ _ ?_)
          exact ⟨a, B, sI, pins, σ', H', cls, d, rfl, J, nb, (up.trans up3).trans up4, .inr (.inr (by rw [hs]; exact hh4)), na, os, ag, w⟩
        first
          | exact wpAny_bind (wpAny_pure (wpAny_bind fin))
          | exact wpAny_bind fin
      | @cons x c ts b₀ suite np pos' hds2 l2 hc hsu r ih =>
        intro w
        obtain ⟨b, hb1, hyes, hno⟩ := w
        refine wpAny_handleBy_cons (codeAny_handlers_test ?_) (by intro q; cases q)
        have LM := PySem.W.exm_one (M := model X.prog X.w) (J3.kIn) LT hb1
        refine test hc (LM.here ?_)
        cases b with
        | true =>
          refine codeAny_handlers_suite ?_
          refine HandSPX.lands_againZ fl3 fun h4 fl4 up4 => ?_
          have J4 : Inv X pins σ' H' { s' with heap := h4 } := J.landed nb fl4.1 ((up.trans up3).trans up4) os ag
          obtain ⟨oe4, vs4, he4, hz4, hd4⟩ := fl4.there
          have S4 := J4.suite he4 hd4 na nL nF
          refine wpAny_mono ((hsu a oe4 cls d (X.pn ++ pins) hz4 ⟨_, hd4⟩).run [] _ _ H' _ S4 (hyes rfl a na)) (fun f s6 hsp => ?_) (fun _ _ z => False.elim z)
          cases f with
          | next =>
            obtain ⟨σ6, H6, S6, q6⟩ := hsp
            exact ⟨_, _, S6.unsuite ok, q6⟩
          | brk =>
            obtain ⟨σ6, H6, S6, q6⟩ := hsp
            exact ⟨_, _, S6.unsuite ok, q6⟩
          | cont =>
            obtain ⟨σ6, H6, S6, q6⟩ := hsp
            exact ⟨_, _, S6.unsuite ok, q6⟩
          | ret u =>
            obtain ⟨v6, σ6, H6, S6, r6, q6⟩ := hsp
            exact ⟨_, _, _, S6.unsuite ok, r6, q6⟩
        | false =>
          show wpAny _ X.A (handleBy (.ref a) X.env hds2) _ _ _
          exact ih (hno rfl)
      | @as_ x n i c ts b₀ suite np pos' hds2 l2 hi hln hc hsu r ih =>
        intro w
        obtain ⟨b, hb1, hyes, hno⟩ := w
        refine wpAny_handleBy_cons (codeAny_handlers_test ?_) (by intro q; cases q)
        have LM := PySem.W.exm_one (M := model X.prog X.w) (J3.kIn) LT hb1
        refine test hc (LM.here ?_)
        cases b with
        | true =>
          refine codeAny_handlers_suite_as ?_
          refine HandSPX.lands_againZ fl3 fun h4 fl4 up4 => ?_
          have J4 : Inv X pins σ' H' { s' with heap := h4 } := J.landed nb fl4.1 ((up.trans up3).trans up4) os ag
          obtain ⟨oe4, vs4, he4, hz4, hd4⟩ := fl4.there
          have S4 := J4.suite he4 hd4 na nL nF
          refine store_ok (X := X.suite a ((a, oe4) :: (X.pn ++ pins))) (v := .ref a) S4 hN hi (.inl hln) rfl (fun s5 S5 => ?_) (.inr hln)
          refine wpAny_mono ((hsu a oe4 cls d (X.pn ++ pins) hz4 ⟨_, hd4⟩).run [] s5 _ H' _ S5 (hyes rfl a na)) (fun f s6 hsp => ?_) (fun _ _ z => False.elim z)
          have end_ : ∀ {σ6 : L2.St} {H6 : Hp} {Q : Shared → Prop}, Inv (X.suite a ((a, oe4) :: (X.pn ++ pins))) [] σ6 H6 s6 → (∀ s7, Inv X pins (σ6.set i none) H6 s7 → Q s7) →
              wpAny (model X.prog X.w) X.A (do bindName X.env n .none; unbindBehindTheSuite X.env n pos') (fun _ s7 => Q s7) X.xe s6 := fun {σ6 H6 Q} S6 hq => gone_ok (S6.unsuite ok) hN hi hln hq
          cases f with
          | next =>
            obtain ⟨σ6, H6, S6, q6⟩ := hsp
            exact end_ S6 fun s7 J7 => ⟨_, _, J7, q6⟩
          | brk =>
            obtain ⟨σ6, H6, S6, q6⟩ := hsp
            exact end_ S6 fun s7 J7 => ⟨_, _, J7, q6⟩
          | cont =>
            obtain ⟨σ6, H6, S6, q6⟩ := hsp
            exact end_ S6 fun s7 J7 => ⟨_, _, J7, q6⟩
          | ret u =>
            obtain ⟨v6, σ6, H6, S6, r6, q6⟩ := hsp
            exact end_ S6 fun s7 J7 => ⟨_, _, _, J7, r6, q6⟩
        | false =>
          show wpAny _ X.A (handleBy (.ref a) X.env hds2) _ _ _
          exact ih (hno rfl)
    exact go hh w
  · cases f with
    | next =>
      obtain ⟨σ', H', J', q⟩ := hsp
      exact wpAny_execs_nil ⟨σ', H', J'.ofTry ok, q⟩
    | brk =>
      obtain ⟨σ', H', J', q⟩ := hsp
      exact ⟨σ', H', J'.ofTry ok, q⟩
    | cont =>
      obtain ⟨σ', H', J', q⟩ := hsp
      exact ⟨σ', H', J'.ofTry ok, q⟩
    | ret u =>
      obtain ⟨v, σ', H', J', r, q⟩ := hsp
      exact ⟨v, σ', H', J'.ofTry ok, r, q⟩
end
end Y

namespace Y
open PySem PySem.Spec PyProof.Rows L2
/-! ### objects: methods and fields -/
def tMethS1 (C : Addr) (m : Str) (sp : Sp) (E : L2.St → XK) (ta : TE) (t : TA) : TE := fun σ H Q => ta σ H fun x H1 => ∃ a dx fs, x = .ref a ∧ H1 a = some (.ins C dx fs) ∧ fs.lookup m = none ∧ t σ H1 fun vs H2 => sp (.ref a :: vs) H2 Q (E σ)
section
variable {X : Cx} {CX : CXT} {k : Nat} {C : Addr} {ps : List Str} {sp : Sp} {E : XK} {m : Str} {f : Addr} {pos apos : Pos} {e o : Expr} {es : List Expr} {ta : TE} {t : TA}
theorem pe_methC {pl : Sem Bool} (he : PE X o ta) (c : Cls X.K C) (hm : Meth X.K C m f) (F : FnOk X.prog X.w X.K X.mg X.base CX k f (fdOf X.K f) ps sp) (hr : Room k X.A) (ca : CalM X.K f ps) (hx : Passes CX X E) (ha : PA X (e :: es) t)
    (hst : starEach (e :: es) X.env = (false, eval e X.env) :: starEach es X.env := by rfl) (hpl : (backTo pos (starEach es X.env)).any (·.1) = false := by rfl)
    (ht : eval (.Call (.Attribute o m apos) (e :: es) [] pos) X.env = (do
      let ov ← eval o X.env
      standAt apos.atName
      let (f, first) ← holding [ov] (getMethod ov m pl)
      callWith pos f first (backTo pos (starEach (e :: es) X.env)) (backToKw pos (keywordEach [] X.env))) := by rfl) :
    PE X (.Call (.Attribute o m apos) (e :: es) [] pos) (tMeth1 C m sp E ta t) := by
  refine ⟨fun pins s σ H Q I h => ?_⟩
  refine PySem.W.methodCall_KW (pl := pl) (thn (he.run pins s σ H _ I h) fun u s1 ⟨x, H1, I1, rx, a, dx, fs, ex, ea, l, q⟩ => ?_) ht
  subst ex
  obtain rfl : u = Value.ref a := rx
  refine getmeth_ok I1 ea c hm l ?_
  refine PySem.W.callWith_K (first := [.ref a]) (h₀ := X.base) I.ok.mod.kin hm.kp (thn (ha.run pos pins s1 σ H1 _ I1 q) fun us s2 ⟨vs, H2, I2, r, q2⟩ => ⟨I2.kIn, ?_⟩) hst hpl
  exact run_fn (us := .ref a :: us) (vs := .ref a :: vs) F hr ca.b .nil hx I2 (.cons rfl r) (by rw [List.append_nil]; exact q2)
theorem pe_meth0C {pl : Sem Bool} (he : PE X o ta) (c : Cls X.K C) (hm : Meth X.K C m f) (F : FnOk X.prog X.w X.K X.mg X.base CX k f (fdOf X.K f) ps sp) (hr : Room k X.A) (ca : CalM X.K f ps) (hx : Passes CX X E)
    (ht : eval (.Call (.Attribute o m apos) [] [] pos) X.env = (do
      let ov ← eval o X.env
      standAt apos.atName
      let (f, first) ← holding [ov] (getMethod ov m pl)
      callWith pos f first (backTo pos (starEach [] X.env)) (backToKw pos (keywordEach [] X.env))) := by rfl) :
    PE X (.Call (.Attribute o m apos) [] [] pos) (tMeth1 C m sp E ta tNil) := by
  refine ⟨fun pins s σ H Q I h => ?_⟩
  refine PySem.W.methodCall_KW (pl := pl) (thn (he.run pins s σ H _ I h) fun u s1 ⟨x, H1, I1, rx, a, dx, fs, ex, ea, l, q⟩ => ?_) ht
  subst ex
  obtain rfl : u = Value.ref a := rx
  refine getmeth_ok I1 ea c hm l ?_
  exact PySem.W.callWith_K0 (first := [.ref a]) I1.kIn hm.kp (run_fn (us := [.ref a]) (vs := [.ref a]) F hr ca.b .nil hx I1 (.cons rfl .nil) (by rw [List.append_nil]; exact q))
theorem pe_methCS {pl : Sem Bool} {E : L2.St → XK} (he : PE X o ta) (c : Cls X.K C) (hm : Meth X.K C m f) (F : FnOk X.prog X.w X.K X.mg X.base CX k f (fdOf X.K f) ps sp) (hr : Room k X.A) (ca : CalM X.K f ps) (hx : ∀ σ, PassesAt CX X σ (E σ)) (ha : PA X (e :: es) t)
    (hst : starEach (e :: es) X.env = (false, eval e X.env) :: starEach es X.env := by rfl) (hpl : (backTo pos (starEach es X.env)).any (·.1) = false := by rfl)
    (ht : eval (.Call (.Attribute o m apos) (e :: es) [] pos) X.env = (do
      let ov ← eval o X.env
      standAt apos.atName
      let (f, first) ← holding [ov] (getMethod ov m pl)
      callWith pos f first (backTo pos (starEach (e :: es) X.env)) (backToKw pos (keywordEach [] X.env))) := by rfl) :
    PE X (.Call (.Attribute o m apos) (e :: es) [] pos) (tMethS1 C m sp E ta t) := by
  refine ⟨fun pins s σ H Q I h => ?_⟩
  refine PySem.W.methodCall_KW (pl := pl) (thn (he.run pins s σ H _ I h) fun u s1 ⟨x, H1, I1, rx, a, dx, fs, ex, ea, l, q⟩ => ?_) ht
  subst ex
  obtain rfl : u = Value.ref a := rx
  refine getmeth_ok I1 ea c hm l ?_
  refine PySem.W.callWith_K (first := [.ref a]) (h₀ := X.base) I.ok.mod.kin hm.kp (thn (ha.run pos pins s1 σ H1 _ I1 q) fun us s2 ⟨vs, H2, I2, r, q2⟩ => ⟨I2.kIn, ?_⟩) hst hpl
  exact run_fnS (us := .ref a :: us) (vs := .ref a :: vs) F hr ca.b (hx σ) I2 (.cons rfl r) q2
end
def MthW (C : Addr) (m : Str) (R : Addr → Hp → Prop) (x : V) (H1 : Hp) : Prop := ∃ a dx fs, x = .ref a ∧ H1 a = some (.ins C dx fs) ∧ fs.lookup m = none ∧ R a H1
def FldW (K : PySem.W.Frag) (f : Str) (Q : VK) (x : V) (H1 : Hp) : Prop := ∃ a C dx fs v, x = .ref a ∧ H1 a = some (.ins C dx fs) ∧ Cls K C ∧ NoAttr K C f ∧ fs.lookup f = some v ∧ Q v H1
def SfdW (K : PySem.W.Frag) (f : Str) (y : V) (R : Hp → Prop) (x : V) (H2 : Hp) : Prop := ∃ a C dx fs, x = .ref a ∧ H2 a = some (.ins C dx fs) ∧ Cls K C ∧ NoAttr K C f ∧ fs.length < 1000 ∧ R (upd H2 a (.ins C dx (putF f y fs)))
section
variable {K : PySem.W.Frag} {σ : L2.St} {H : Hp} {Q : VK} {D : Ends} {C : Addr} {m f : Str} {sp : Sp} {E : XK} {ta tv : TE} {ar : TA} {dx : Addr} {a : Addr} {fs : List (Str × V)} {v y : V}
theorem g_meth (q : ta σ H fun x H1 => MthW C m (fun a H2 => ar σ H2 fun vs H3 => sp (.ref a :: vs) H3 Q E) x H1) : tMeth1 C m sp E ta ar σ H Q := q
theorem g_methS {E : L2.St → XK} (q : ta σ H fun x H1 => MthW C m (fun a H2 => ar σ H2 fun vs H3 => sp (.ref a :: vs) H3 Q (E σ)) x H1) : tMethS1 C m sp E ta ar σ H Q := q
theorem g_fld (q : ta σ H fun x H1 => FldW K f Q x H1) : tFld K ta f σ H Q := q
theorem g_sfd (q : tv σ H fun y H1 => ta σ H1 fun x H2 => SfdW K f y (fun H3 => D.nx σ H3) x H2) : sFld K ta tv f D σ H := q
theorem g_mth {R : Addr → Hp → Prop} (h : H a = some (.ins C dx fs)) (hl : fs.lookup m = none) (q : R a H) : MthW C m R (.ref a) H := ⟨a, dx, fs, rfl, h, hl, q⟩
theorem g_fdW (h : H a = some (.ins C dx fs)) (c : Cls K C) (n : NoAttr K C f) (hl : fs.lookup f = some v) (q : Q v H) : FldW K f Q (.ref a) H := ⟨a, C, dx, fs, v, rfl, h, c, n, hl, q⟩
theorem g_sfW {R : Hp → Prop} (h : H a = some (.ins C dx fs)) (c : Cls K C) (n : NoAttr K C f) (hl : fs.length < 1000) (q : R (upd H a (.ins C dx (putF f y fs)))) : SfdW K f y R (.ref a) H := ⟨a, C, dx, fs, rfl, h, c, n, hl, q⟩
end
theorem g_nbool {b : Bool} {A B : Prop} {i : Decidable ((!b) = true)} (h1 : b = false → A) (h2 : b = true → B) : @ite Prop ((!b) = true) i A B := by
  cases b with
  | true => rw [if_neg (by simp)]; exact h2 rfl
  | false => rw [if_pos (by simp)]; exact h1 rfl
/-! ### dicts -/
def DInW (Q : VK) (y x : V) (H : Hp) : Prop := ∃ a o, x = V.ref a ∧ DGet H a y o ∧ Q (V.bl (Option.isSome o)) H
def DNiW (Q : VK) (y x : V) (H : Hp) : Prop := ∃ a o, x = V.ref a ∧ DGet H a y o ∧ Q (V.bl (!Option.isSome o)) H
def DGeW (Q : VK) (x y : V) (H : Hp) : Prop := ∃ a v, x = V.ref a ∧ DGet H a y (some v) ∧ Q v H
def DPuW (R : Hp → Prop) (v x y : V) (H : Hp) : Prop := ∃ a H4, x = V.ref a ∧ DPut H a y v H4 ∧ R H4
def DDeW (R : Hp → Prop) (x y : V) (H : Hp) : Prop := ∃ a kvs k, x = V.ref a ∧ H a = some (HO.dK kvs) ∧ y = kV k ∧ (valV kvs k).isSome = true ∧ R (upd H a (HO.dK (dropK kvs k)))
section
variable {K : PySem.W.Frag} {σ : L2.St} {H : Hp} {Q : VK} {D : Ends} {td ty tv te : TE} {d : Addr} {kvs : List (Key × V)} {s : Str} {v : V}
theorem g_din (q : ty σ H fun y H1 => td σ H1 fun x H2 => DInW Q y x H2) : tDIn ty td σ H Q := q
theorem g_dni (q : ty σ H fun y H1 => td σ H1 fun x H2 => DNiW Q y x H2) : tDNotIn ty td σ H Q := q
theorem g_dge (q : td σ H fun x H1 => ty σ H1 fun y H2 => DGeW Q x y H2) : tDGet td ty σ H Q := q
theorem g_dpu (q : tv σ H fun v H1 => td σ H1 fun x H2 => ty σ H2 fun y H3 => DPuW (fun H4 => D.nx σ H4) v x y H3) : sDPut td ty tv D σ H := q
theorem g_dde (q : td σ H fun x H1 => ty σ H1 fun y H2 => DDeW (fun H4 => D.nx σ H4) x y H2) : sDDel td ty D σ H := q
theorem g_lvs (q : te σ H fun x H1 => rListVals x H1 Q) : tListVals te σ H Q := q
theorem g_new (q : ∀ p, H p = none → Q (.ref p) (upd H p (.dK []))) : tDNewK σ H Q := q
theorem g_dinW (h : H d = some (.dK kvs)) (q : Q (.bl (valV kvs (Sum.inr s : Key)).isSome) H) : DInW Q (.str s) (.ref d) H := ⟨d, _, rfl, .inl ⟨kvs, .inr s, .inl h, rfl, rfl⟩, q⟩
theorem g_dniW (h : H d = some (.dK kvs)) (q : Q (.bl (!(valV kvs (Sum.inr s : Key)).isSome)) H) : DNiW Q (.str s) (.ref d) H := ⟨d, _, rfl, .inl ⟨kvs, .inr s, .inl h, rfl, rfl⟩, q⟩
theorem g_dgeW (h : H d = some (.dK kvs)) (hv : valV kvs (Sum.inr s : Key) = some v) (q : Q v H) : DGeW Q (.ref d) (.str s) H := ⟨d, v, rfl, .inl ⟨kvs, .inr s, .inl h, rfl, hv.symm⟩, q⟩
theorem g_ddeW {R : Hp → Prop} (h : H d = some (.dK kvs)) (hv : (valV kvs (Sum.inr s : Key)).isSome = true) (q : R (upd H d (.dK (dropK kvs (Sum.inr s : Key))))) : DDeW R (.ref d) (.str s) H := ⟨d, kvs, .inr s, rfl, h, rfl, hv, q⟩
end
/-- raised from (G, H): an error of the class at C whose field f is z -/
def RaX (C : Addr) (f : Str) (z : V) (G H : Hp) (E : XK) : Prop := ∀ G' H' dd, Nx [] G H G' H' → H' dd = some (.xd [(f, z)]) → E (.ref C) (some dd) H'
theorem RaX.go {C : Addr} {f : Str} {z : V} {G H G1 H1 : Hp} {E : XK} (r : RaX C f z G H E) (n : Nx [] G H G1 H1) {dd : Addr} (hd : H1 dd = none) : E (.ref C) (some dd) (upd H1 dd (.xd [(f, z)])) := r G1 _ dd (n.trans (Nx.own n.gh hd)) upd_same
theorem RaX.trans {C : Addr} {f : Str} {z : V} {G H G1 H1 : Hp} {E : XK} (r : RaX C f z G H E) (n : Nx [] G H G1 H1) : RaX C f z G1 H1 E := fun G' H' dd n' h => r G' H' dd (n.trans n') h
/-- a list that stands, apart from what is known -/
def LstAt (K : PySem.W.Frag) (p : Addr) (G H : Hp) (L : List PyData) : Prop := ∃ vs, H p = some (.lst vs) ∧ G p = none ∧ DpAll K G vs L
section
variable {K : PySem.W.Frag} {p A : Addr} {G H G' H' G0 H0 : Hp} {L : List PyData} {M : List Addr} {o : HO}
theorem LstAt.go (r : LstAt K p G H L) (n : Nx M G H G' H') (hp : p ∉ M) : LstAt K p G' H' L := by
  obtain ⟨vs, h, g, d⟩ := r
  exact ⟨vs, n.fr p _ hp h, n.old p g ⟨_, h, fun _ z => nomatch z⟩, dpAll_mono n.gg d⟩
theorem LstAt.upd (r : LstAt K p G H L) (h : A ≠ p) : LstAt K p G (upd H A o) L := by
  obtain ⟨vs, h1, g, d⟩ := r
  exact ⟨vs, by rw [upd_ne h.symm]; exact h1, g, d⟩
theorem LstAt.live (r : LstAt K p G H L) : H p ≠ none := by
  obtain ⟨vs, h1, _⟩ := r
  rw [h1]; exact fun z => nomatch z
/-- .. known from now on -/
theorem LstAt.know (r : LstAt K p G H L) (n : Nx M G0 H0 G H) (h : H0 p = none) : ∃ G', Nx M G0 H0 G' H ∧ Y.Ex G G' ∧ Dp K G' (.ref p) (.list L) := by
  obtain ⟨vs, h1, g, d⟩ := r
  exact ⟨_, n.know h h1 g, Ex.new g, .lst (.of upd_same) (dpAll_mono (Ex.new g) d)⟩
theorem Nx.sub {M' : List Addr} (a : Nx M' G H G' H') (h : ∀ x ∈ M', x ∈ M ∨ H x = none) : Nx M G H G' H' := ⟨a.gg, a.gh, a.old, a.live, fun c u hc q => a.fr c u (fun z => by
  rcases h c z with z | z
  · exact hc z
  · rw [z] at q; cases q) q, a.nt⟩
theorem g_make0 {C : Addr} {sp : Sp} {E : XK} {σ : L2.St} {Q : VK} (q : ∀ x dx, H x = none → H dx = none → dx ≠ x → sp [.ref x] (L2.upd (L2.upd H dx (.own x)) x (.ins C dx [])) (fun v H2 => v = .non ∧ Q (.ref x) H2) E) : tMake C sp [] E tNil σ H Q := q
theorem nx_make {C x dx : Addr} (e : Y.Ex G H) (h1 : H x = none) (h2 : H dx = none) (h3 : dx ≠ x) : Nx [] G H G (L2.upd (L2.upd H dx (.own x)) x (.ins C dx [])) :=
  (Nx.own e h2).trans (Nx.own (e.out (e.free h2)) (by rw [upd_ne h3.symm]; exact h1))
theorem g_listM {x : V} {Q : VK} (e : Y.Ex G H) (h : Dp K G x (.list L)) (q : ∀ p H', Nx [] G H G H' → H p = none → LstAt K p G H' L → Q (.ref p) H') : rListOf K [x] H Q := by
  obtain ⟨a, vs, rfl, hs, hd⟩ := dp_lst h
  exact ⟨a, vs, rfl, .inl (e.seqL hs), fun l hl => q l _ (Nx.own e hl) hl ⟨vs, upd_same, e.free hl, hd⟩⟩
theorem g_listL {Q : VK} (e : Y.Ex G H) (h : LstAt K A G H L) (q : ∀ p H', Nx [] G H G H' → H p = none → LstAt K p G H' L → Q (.ref p) H') : rListOf K [.ref A] H Q := by
  obtain ⟨vs, hs, g, hd⟩ := h
  exact ⟨A, vs, rfl, .inl (.of hs), fun l hl => q l _ (Nx.own e hl) hl ⟨vs, upd_same, e.free hl, hd⟩⟩
end
def rDictC : List V → Hp → VK → Prop := fun xs H Q => ∃ a kvs, xs = [V.ref a] ∧ Rd H a (.dK kvs) ∧ ∀ (p : Addr), H p = none → Q (V.ref p) (upd H p (.dK kvs))
theorem call_dictC {X : Cx} : CallR X (.type "dict") rDictC := call_dictD
theorem g_dictC {H : Hp} {Q : VK} {a : Addr} {kvs : List (Key × V)} (h : H a = some (.dK kvs)) (q : ∀ p, H p = none → Q (.ref p) (upd H p (.dK kvs))) : rDictC [.ref a] H Q := ⟨a, kvs, rfl, .inl h, q⟩
theorem g_listDk {H : Hp} {Q : VK} {a : Addr} {kvs : List (Key × V)} (h : H a = some (.dK kvs)) (q : ∀ p, H p = none → Q (.ref p) (upd H p (.lst (kvs.map fun kv => kV kv.1)))) : rListD [.ref a] H Q := ⟨a, kvs, rfl, h, q⟩
theorem g_listVs {H : Hp} {Q : VK} {a : Addr} {kvs : List (Key × V)} (h : H a = some (.dK kvs)) (q : ∀ p, H p = none → Q (.ref p) (upd H p (.lst (kvs.map (·.2))))) : rListVals (.ref a) H Q := ⟨a, kvs, rfl, h, q⟩
def DelW (R : Hp → Prop) (x y : V) (H : Hp) : Prop := ∃ l xs i k, x = V.ref l ∧ y = V.int i ∧ H l = some (HO.lst xs) ∧ -2 ^ 63 ≤ i ∧ i < 2 ^ 63 ∧ seqIndex? i xs.length = some k ∧ R (upd H l (HO.lst (xs.eraseIdx k)))
theorem g_del {D : Ends} {σ : L2.St} {H : Hp} {to ti : TE} (q : to σ H fun x H1 => ti σ H1 fun y H2 => DelW (fun H3 => D.nx σ H3) x y H2) : tDelL to ti D σ H := q
theorem g_delW {R : Hp → Prop} {H : Hp} {l : Addr} {xs : List V} {i : Int} (h : H l = some (.lst xs)) (h0 : 0 ≤ i) (h1 : i < (xs.length : Int)) (hs : xs.length ≤ 100000) (q : R (upd H l (.lst (xs.eraseIdx i.toNat)))) : DelW R (.ref l) (.int i) H :=
  ⟨l, xs, i, i.toNat, rfl, rfl, h, by omega, by omega, by simp [seqIndex?, show ¬ i < 0 by omega, h0, h1], q⟩
section
variable {K : PySem.W.Frag} {G H : Hp} {Q : VK} {y : V} {a b s : Str}
theorem g_nin2 (e : Y.Ex G H) (h : Dp K G y (.tuple [.str a, .str b])) (q : Q (.bl (!(decide (a = s) || decide (b = s)))) H) : rIn K true (.str s) y H Q := by
  obtain ⟨p, xs, rfl, hs, hd⟩ := dp_tup h
  cases hd with
  | cons d1 t => cases t with
    | cons d2 t =>
      cases t; cases d1; cases d2
      refine ⟨p, _, rfl, .inr (e.seqT hs), rfl, rfl, ?_⟩
      have z : ∀ a : Str, (a == s) = decide (a = s) := fun a => by
        by_cases h : a = s
        · subst h; rw [decide_eq_true rfl]; exact beq_self_eq_true a
        · rw [decide_eq_false h]; exact beq_eq_false_iff_ne.mpr h
      have e2 : inV (.str s) [V.str a, V.str b] = (decide (a = s) || decide (b = s)) := by
        show (a == s || (b == s || false)) = _
        rw [z, z, Bool.or_false]
      rw [e2]
      exact q
/-- xs.index(s) for texts -/
theorem g_index {p : Addr} {ss : List Str} {j : Nat} (h : H p = some (.lst (ss.map V.str))) (hj : ss[j]? = some s) (hm : ∀ m, m < j → ss[m]? ≠ some s) (q : Q (.int (j : Int)) H) : rIndex K (.ref p) [.str s] H Q := by
  refine ⟨p, _, _, j, .str s, rfl, rfl, .of h, rfl, ?_, by rw [List.getElem?_map, hj]; rfl, beq_self_eq_true s, fun m z' hlt hz => ?_, q⟩
  · rw [List.all_map]
    exact List.all_eq_true.mpr fun _ _ => rfl
  · rw [List.getElem?_map] at hz
    obtain ⟨t, ht, rfl⟩ := Option.map_eq_some_iff.mp hz
    refine beq_eq_false_iff_ne.mpr fun z => hm m hlt ?_
    rw [ht, z]
end
theorem cutS_hi (z : Str) (k : Nat) : (cutS z none (some (k : Int))).cps.toList = z.cps.toList.take k := by
  unfold cutS
  rw [HT.sIx_nat, HT.sIx_none, List.drop_zero, Nat.sub_zero, List.toList_toArray]
  have hl : z.cps.toList.length = z.length := Array.length_toList
  by_cases h : k ≤ z.length
  · rw [Nat.min_eq_left h]
  · rw [Nat.min_eq_right (by omega), List.take_of_length_le (by omega), List.take_of_length_le (by omega)]
theorem dpAll_str_inv {K : PySem.W.Frag} {G : Hp} : ∀ {ns : List Str} {vs : List V}, DpAll K G vs (ns.map PyData.str) → vs = ns.map V.str
  | [], _, h => by cases h; rfl
  | n :: r, _, h => by
    cases h with
    | cons a t =>
      cases a
      rw [dpAll_str_inv t]; rfl
theorem dpAll_str {K : PySem.W.Frag} {G : Hp} : ∀ ns : List Str, DpAll K G (ns.map V.str) (ns.map PyData.str)
  | [] => .nil
  | n :: r => .cons (.str n) (dpAll_str r)
theorem rng_get {n i : Nat} {d : PyData} (h : (rng 0 n)[i]? = some d) : i < n ∧ d = .int (i : Int) := by
  have hl : i < n := by
    have := (List.getElem?_eq_some_iff.mp h).1
    simpa [rng] using this
  unfold rng at h
  rw [List.getElem?_map, List.getElem?_range hl] at h
  cases h
  exact ⟨hl, by simp⟩
theorem rng_len (n : Nat) : (rng 0 n).length = n := by simp [rng]
theorem take_get {xs : List PyData} {i : Nat} {d : PyData} (h : xs[i]? = some d) : xs.take (i + 1) = xs.take i ++ [d] := by
  rw [List.take_add_one, h]
  rfl
/-- a text among texts -/
theorem g_inS {K : PySem.W.Frag} {H : Hp} {Q : VK} {p : Addr} {ss : List Str} {t : Str} {neg : Bool} (h : SqL K H p (ss.map V.str)) (q : Q (.bl (if neg = true then !decide (t ∈ ss) else decide (t ∈ ss))) H) : rIn K neg (.str t) (.ref p) H Q := by
  refine ⟨p, _, rfl, .inl h, rfl, ?_, ?_⟩
  · rw [List.all_map]
    exact List.all_eq_true.mpr fun _ _ => rfl
  · have e : inV (.str t) (ss.map V.str) = decide (t ∈ ss) := by
      show (ss.map V.str).any (fun y => eqV y (.str t)) = _
      rw [List.any_map, Bool.eq_iff_iff, List.any_eq_true, decide_eq_true_eq]
      constructor
      · rintro ⟨x, hx, hx2⟩
        have : x = t := eq_of_beq hx2
        exact this ▸ hx
      · intro hx
        exact ⟨t, hx, beq_self_eq_true t⟩
    rw [e]
    exact q
theorem g_strI {H : Hp} {Q : VK} {i : Int} (h : i.natAbs.log2 < 1920) (q : Q (.str (toString i)) H) : rStrI [.int i] H Q := ⟨i, rfl, h, q⟩
theorem g_slS {H : Hp} {Q : VK} {z : Str} {lo hi : Option Int} (h : z.length ≤ sizeLine) (q : Q (.str (cutS z lo hi)) H) : rSlS (.str z) lo hi H Q := ⟨z, rfl, h, q⟩
theorem g_inSF {K : PySem.W.Frag} {H : Hp} {Q : VK} {p : Addr} {ss : List Str} {t : Str} (h : SqL K H p (ss.map V.str)) (q : Q (.bl (decide (t ∈ ss))) H) : rIn K false (.str t) (.ref p) H Q := g_inS h q
theorem g_inST {K : PySem.W.Frag} {H : Hp} {Q : VK} {p : Addr} {ss : List Str} {t : Str} (h : SqL K H p (ss.map V.str)) (q : Q (.bl (!decide (t ∈ ss))) H) : rIn K true (.str t) (.ref p) H Q := g_inS h q
theorem g_runS {D : Ends} {i : Nat} {t : TS} {a : Addr} {σ : L2.St} {H : Hp} (q : t (endsAs D i) (σ.set i (some (.ref a))) H) : runA D (some i) t a σ H := q
section
variable {H : Hp} {Q : VK} {l b : Addr} {xs zs : List V} {i : Int}
theorem g_popN (h : H l = some (.lst xs)) (h0 : 0 ≤ i) (h1 : i < (xs.length : Int)) (hs : xs.length ≤ 100000) (q : ∀ y, Q y (upd H l (.lst (xs.eraseIdx i.toNat)))) : rPopAt (.ref l) [.int i] H Q := by
  have hl : i.toNat < xs.length := by omega
  exact ⟨l, xs, i, i.toNat, xs[i.toNat], rfl, rfl, h, by omega, by omega, by simp [seqIndex?, show ¬ i < 0 by omega, h0, h1], by simp [hl], q _⟩
theorem g_clr (h : H l = some (.lst xs)) (q : Q .non (upd H l (.lst []))) : rClear (.ref l) [] H Q := ⟨l, xs, rfl, rfl, h, q⟩
theorem g_ext (h : H l = some (.lst xs)) (h2 : H b = some (.lst zs)) (hl : xs.length + zs.length ≤ sizeLine) (q : Q .non (upd H l (.lst (xs ++ zs)))) : rExtend (.ref l) [.ref b] H Q := ⟨l, b, xs, zs, rfl, rfl, h, h2, hl, q⟩
end
theorem depthAll_le {n : Nat} : ∀ {xs : List PyData}, (∀ d ∈ xs, d.depth ≤ n) → PyData.depthAll xs ≤ n
  | [], _ => by simp [PyData.depthAll]
  | x :: xs, h => by
    have h1 := h x (by simp)
    have h2 := depthAll_le (xs := xs) fun d hd => h d (by simp [hd])
    simp only [PyData.depthAll]
    omega
theorem depth_tup {n : Nat} {xs : List PyData} (h : ∀ d ∈ xs, d.depth ≤ n) : (PyData.tuple xs).depth ≤ n + 1 := by
  have := depthAll_le h
  simp only [PyData.depth]
  omega
theorem depth_lst {n : Nat} {xs : List PyData} (h : ∀ d ∈ xs, d.depth ≤ n) : (PyData.list xs).depth ≤ n + 1 := by
  have := depthAll_le h
  simp only [PyData.depth]
  omega
theorem shaped_lay {d : PyData} (h : SeqAt.shaped d = true) : d.canLay0 = true := by
  unfold SeqAt.shaped at h
  rw [Bool.and_eq_true] at h
  exact h.1
theorem LstAt.dp {K : PySem.W.Frag} {p : Addr} {G H : Hp} {L : List PyData} (r : LstAt K p G H L) (e : Y.Ex G H) : Dp K H (.ref p) (.list L) := by
  obtain ⟨vs, h, _, d⟩ := r
  exact .lst (.of h) (dpAll_mono e d)
/-- what is compared with itself -/
theorem g_neSame {K : PySem.W.Frag} {H : Hp} {x y : V} {d : PyData} {Q : VK} (h1 : Dp K H x d) (h2 : Dp K H y d) (s : SeqAt.shaped d = true) (q : Q (.bl false) H) : rNeD K x y H Q :=
  ⟨d, d, h1, h2, s, s, by rw [SeqAt.eqv_refl _ (shaped_lay s)]; exact q⟩
theorem g_neL {K : PySem.W.Frag} {G H : Hp} {a b : Addr} {L : List PyData} {Q : VK} (e : Y.Ex G H) (h1 : LstAt K a G H L) (h2 : LstAt K b G H L) (s : SeqAt.shaped (.list L) = true) (q : Q (.bl false) H) : rNeD K (.ref a) (.ref b) H Q :=
  g_neSame (h1.dp e) (h2.dp e) s q
/-- a loop over a range, all told by the invariant -/
theorem g_forR {g : TG} {tb : TS} {D : Ends} {σ : L2.St} {H : Hp} {n : Nat} (Pv : Nat → L2.St → Hp → Prop) (h0 : Pv 0 σ H)
    (hs : ∀ i σ' H', i < n → Pv i σ' H' → g (.int (i : Int)) σ' H' fun σ2 H2 => tb { D with nx := Pv (i + 1), ct := Pv (i + 1), bk := D.nx } σ2 H2) (hd : ∀ σ' H', Pv n σ' H' → D.nx σ' H') : ForW (Itr 0 n) g tb D σ H := by
  refine ⟨fun i m σ' H' => m = n - i ∧ i ≤ n ∧ Pv i σ' H', ⟨n, by simp, Nat.zero_le _, h0⟩, ?_⟩
  rintro i m σ' H' ⟨rfl, hi, p⟩
  by_cases hlt : i < n
  · refine .inr ⟨hlt, Pv (i + 1), fun σ3 H3 p3 => ⟨n - (i + 1), by omega, rfl, hlt, p3⟩, fun v H1 y => ?_⟩
    obtain ⟨rfl, rfl⟩ := y
    rw [Int.zero_add]
    exact hs i σ' _ hlt p
  · have e' : i = n := by omega
    subst e'
    exact .inl ⟨Nat.le_refl _, hd σ' H' p⟩
theorem nodup_le {α : Type} [DecidableEq α] : ∀ {xs ys : List α}, xs.Nodup → (∀ x ∈ xs, x ∈ ys) → xs.length ≤ ys.length
  | [], _, _, _ => Nat.zero_le _
  | x :: xs, ys, hn, hm => by
    rw [List.nodup_cons] at hn
    have hx : x ∈ ys := hm x (by simp)
    have ih := nodup_le (xs := xs) (ys := ys.erase x) hn.2 fun y hy => by
      have hne : y ≠ x := fun z => hn.1 (z ▸ hy)
      exact (List.mem_erase_of_ne hne).mpr (hm y (by simp [hy]))
    rw [List.length_erase_of_mem hx] at ih
    have : 0 < ys.length := List.length_pos_of_mem hx
    simp only [List.length_cons]
    omega
end Y

namespace Y
open PySem PySem.Spec PyProof.Rows L2
/-! ### texts as lists of signs -/
theorem str_ext {a b : Str} (h : a.cps.toList = b.cps.toList) : a = b := by
  cases a with
  | mk x => cases b with
    | mk y =>
      have : x = y := Array.toList_inj.mp h
      rw [this]
theorem lst_app (a b : Str) : (a ++ b).cps.toList = a.cps.toList ++ b.cps.toList := by
  show (a.cps ++ b.cps).toList = _
  simp
def glue (c : Nat) : List (List Nat) → List Nat
  | [] => []
  | [x] => x
  | x :: y :: r => x ++ c :: glue c (y :: r)
theorem join_lst (c : Nat) : ∀ ws : List Str, (Str.join ⟨#[c]⟩ ws).cps.toList = glue c (ws.map (·.cps.toList))
  | [] => rfl
  | [x] => rfl
  | x :: y :: r => by
    show (x ++ ⟨#[c]⟩ ++ Str.join ⟨#[c]⟩ (y :: r)).cps.toList = _
    rw [lst_app, lst_app, join_lst c (y :: r)]
    show (x.cps.toList ++ [c]) ++ _ = x.cps.toList ++ c :: _
    rw [List.append_assoc]
    rfl
theorem cut_inj {c : Nat} : ∀ {x y a b : List Nat}, c ∉ x → c ∉ y → x ++ c :: a = y ++ c :: b → x = y ∧ a = b
  | [], [], a, b, _, _, h => by
    simp only [List.nil_append, List.cons.injEq] at h
    exact ⟨rfl, h.2⟩
  | [], z :: y, a, b, _, h2, h => by
    simp only [List.nil_append, List.cons_append, List.cons.injEq] at h
    exact absurd (by rw [← h.1]; simp : c ∈ z :: y) h2
  | z :: x, [], a, b, h1, _, h => by
    simp only [List.nil_append, List.cons_append, List.cons.injEq] at h
    exact absurd (by rw [h.1]; simp : c ∈ z :: x) h1
  | z :: x, w :: y, a, b, h1, h2, h => by
    simp only [List.cons_append, List.cons.injEq] at h
    obtain ⟨e1, e2⟩ := cut_inj (fun m => h1 (by simp [m])) (fun m => h2 (by simp [m])) h.2
    exact ⟨by rw [h.1, e1], e2⟩
theorem glue_inj {c : Nat} : ∀ {A B : List (List Nat)}, A ≠ [] → B ≠ [] → (∀ p ∈ A, c ∉ p) → (∀ p ∈ B, c ∉ p) → glue c A = glue c B → A = B
  | [], _, h, _, _, _, _ => absurd rfl h
  | _ :: _, [], _, h, _, _, _ => absurd rfl h
  | [x], [y], _, _, _, _, h => by rw [show x = y from h]
  | [x], y :: z :: r, _, _, h1, _, h => by
    have : c ∈ x := by
      rw [show x = y ++ c :: glue c (z :: r) from h]
      simp
    exact absurd this (h1 x (by simp))
  | x :: y :: r, [z], _, _, _, h2, h => by
    have : c ∈ z := by
      rw [show z = x ++ c :: glue c (y :: r) from h.symm]
      simp
    exact absurd this (h2 z (by simp))
  | x :: y :: r, z :: w :: t, _, _, h1, h2, h => by
    obtain ⟨e1, e2⟩ := cut_inj (h1 x (by simp)) (h2 z (by simp)) (show x ++ c :: glue c (y :: r) = z ++ c :: glue c (w :: t) from h)
    rw [e1, glue_inj (by simp) (by simp) (fun p hp => h1 p (by simp at hp ⊢; exact .inr hp)) (fun p hp => h2 p (by simp at hp ⊢; exact .inr hp)) e2]
theorem map_cps_inj : ∀ {A B : List Str}, A.map (·.cps.toList) = B.map (·.cps.toList) → A = B
  | [], [], _ => rfl
  | [], _ :: _, h => by simp at h
  | _ :: _, [], h => by simp at h
  | a :: A, b :: B, h => by
    simp only [List.map_cons, List.cons.injEq] at h
    rw [str_ext h.1, map_cps_inj h.2]
theorem split_join (c : Nat) {ws : List Str} (h0 : ws ≠ []) (h : ∀ w ∈ ws, c ∉ w.cps.toList) : Txt.split (Str.join ⟨#[c]⟩ ws) ⟨#[c]⟩ = ws := by
  have hp := split_pos (Str.join ⟨#[c]⟩ ws) ⟨#[c]⟩
  refine map_cps_inj (glue_inj (c := c) (fun z => ?_) (fun z => h0 (List.map_eq_nil_iff.mp z)) (fun p hp => ?_) (fun p hp => ?_) ?_)
  · rw [List.map_eq_nil_iff] at z
    rw [z] at hp
    simp at hp
  · obtain ⟨q, hq, rfl⟩ := List.mem_map.mp hp
    exact StrLaws.split_free _ c q hq
  · obtain ⟨q, hq, rfl⟩ := List.mem_map.mp hp
    exact h q hq
  · rw [← join_lst, ← join_lst, StrLaws.join_split]
theorem join_eq (a : Str) (ys : List Str) : Txt.join a ys = Str.join a ys := StrLaws.glued_eq_join a ys
theorem emp_lst : Str.empty.cps.toList = [] := rfl
/-- each line with its end: joined, with one empty text behind -/
theorem ends_join (c : Nat) : ∀ ws : List Str, Str.join Str.empty (ws.map fun w => w ++ ⟨#[c]⟩) = Str.join ⟨#[c]⟩ (ws ++ [Str.empty])
  | [] => rfl
  | [x] => str_ext (by
    show (x ++ ⟨#[c]⟩).cps.toList = (x ++ ⟨#[c]⟩ ++ Str.empty).cps.toList
    simp only [lst_app, emp_lst, List.append_nil])
  | x :: y :: r => str_ext (by
    have ih := congrArg (fun s : Str => s.cps.toList) (ends_join c (y :: r))
    show (x ++ ⟨#[c]⟩ ++ Str.empty ++ Str.join Str.empty ((y :: r).map fun w => w ++ ⟨#[c]⟩)).cps.toList = (x ++ ⟨#[c]⟩ ++ Str.join ⟨#[c]⟩ ((y :: r) ++ [Str.empty])).cps.toList
    simp only [lst_app, emp_lst, List.append_nil] at ih ⊢
    rw [ih])
/-! ### numbers -/
def dig (c : Nat) : Bool := decide (48 ≤ c ∧ c ≤ 57)
def digs : List Nat → Bool
  | [] => false
  | c :: r => decide (r.length ≤ 8) && decide (c ≠ 48) && (c :: r).all dig
def numOk (w : Str) : Bool := match w.cps.toList with
  | [48] => true
  | 45 :: r => digs r
  | r => digs r
theorem digs_inv {r : List Nat} (h : digs r = true) : r ≠ [] ∧ r.length ≤ 9 ∧ r.all dig = true := by
  cases r with
  | nil => cases h
  | cons c r =>
    simp only [digs, Bool.and_eq_true, decide_eq_true_eq] at h
    exact ⟨by simp, by simp; omega, h.2⟩
theorem dig_dig {c : Nat} (h : dig c = true) : 48 ≤ c ∧ c ≤ 57 := by simpa [dig] using h
open PySem.NumText in
theorem fold_digs : ∀ (r : List Nat) (p : Array Nat × Bool), r.all dig = true → ∃ q : Array Nat × Bool, r.foldlM (NumText.step 10) p = some q ∧ (r ≠ [] → q.2 = true)
  | [], p, _ => ⟨p, rfl, fun h => absurd rfl h⟩
  | c :: r, p, h => by
    simp only [List.all_cons, Bool.and_eq_true] at h
    have hc := dig_dig h.1
    have e : NumText.step 10 p c = some (p.1.push (c - 48), true) := by
      have h1 : (c == 95) = false := by simp; omega
      have h2 : digit? c = some (c - 48) := by
        unfold digit?
        rw [if_pos (by simp; omega)]
      unfold NumText.step
      rw [h1, h2]
      have h3 : c - 48 < 10 := by omega
      simp [h3]
    obtain ⟨q, hq, hq2⟩ := fold_digs r (p.1.push (c - 48), true) h.2
    refine ⟨q, ?_, fun _ => ?_⟩
    · rw [List.foldlM_cons, e]
      exact hq
    · cases r with
      | nil =>
        have : some (p.1.push (c - 48), true) = some q := hq
        cases this
        rfl
      | cons d r => exact hq2 (by simp)
open PySem.NumText in
theorem digits_ok {r : List Nat} (h0 : r ≠ []) (h : r.all dig = true) : ∃ ds, digits? 10 r = some ds := by
  obtain ⟨q, hq, hq2⟩ := fold_digs r (#[], false) h
  refine ⟨q.1, ?_⟩
  unfold digits?
  rw [hq]
  show (if q.2 = true then some q.1 else none) = _
  rw [if_pos (hq2 h0)]
theorem blank_dig {c : Nat} (h : dig c = true) : NumText.blank c = false := by
  have := dig_dig h
  simp [NumText.blank]
  omega
theorem dropW_none {p : Nat → Bool} {l : List Nat} (h : ∀ c, l.head? = some c → p c = false) : l.dropWhile p = l := by
  cases l with
  | nil => rfl
  | cons c r => rw [List.dropWhile_cons, if_neg (by rw [h c rfl]; simp)]
open PySem.NumText in
theorem int_of {l r : List Nat} {b : Bool} {w : Str} (hl : w.cps.toList = l) (hlt : ∀ c ∈ l, 0 < c ∧ c < 128) (hb : ∀ c, l.head? = some c → blank c = false) (hs : sign l = (b, r)) (h0 : r ≠ []) (hr : r.all dig = true) (h9 : r.length ≤ 4300) : ∃ n, intText? w = some n := by
  have e1 : numTextOf w = l := by
    unfold numTextOf
    have : w.cps.all (· < 128) = true := by
      rw [← Array.all_toList, hl]
      exact List.all_eq_true.mpr fun c hc => decide_eq_true (hlt c hc).2
    rw [if_pos this, hl]
  have e2 : numSeenOf w = l := by
    unfold numSeenOf
    rw [e1]
    have : ∀ l : List Nat, (∀ c ∈ l, 0 < c) → l.takeWhile (· != 0) = l := by
      intro l
      induction l with
      | nil => intro _; rfl
      | cons c r ih =>
        intro h
        rw [List.takeWhile_cons, if_pos (by have := h c (by simp); simp; omega), ih fun x hx => h x (by simp [hx])]
    exact this l fun c hc => (hlt c hc).1
  have e3 : l.dropWhile blank = l := dropW_none hb
  have e4 : core l = r := by
    unfold core
    rw [e3, hs]
    show (r.reverse.dropWhile blank).reverse = r
    rw [dropW_none fun c hc => blank_dig (List.all_eq_true.mp hr c (List.mem_reverse.mp (List.mem_of_mem_head? hc))), List.reverse_reverse]
  obtain ⟨ds, hds⟩ := digits_ok h0 hr
  have hsz := digits_size hds
  unfold intText?
  rw [e1, e2, if_pos (beq_self_eq_true _), e4, hds]
  exact ⟨_, if_pos (by omega)⟩
theorem int_ok {w : Str} (h : numOk w = true) : ∃ n, intText? w = some n := by
  unfold numOk at h
  have pos : ∀ {r : List Nat}, r.all dig = true → ∀ c ∈ r, 0 < c ∧ c < 128 := fun hr c hc => by
    have := dig_dig (List.all_eq_true.mp hr c hc)
    omega
  split at h
  · rename_i e
    exact int_of (b := false) (r := [48]) e (by simp) (by intro c hc; cases hc; decide) rfl (by simp) (by decide) (by simp)
  · rename_i r e
    obtain ⟨h0, h9, hr⟩ := digs_inv h
    refine int_of (b := true) (r := r) e (fun c hc => ?_) (by intro c hc; cases hc; decide) rfl h0 hr (by omega)
    rcases List.mem_cons.mp hc with rfl | hc
    · omega
    · exact pos hr c hc
  · rename_i h48 h45
    obtain ⟨h0, h9, hr⟩ := digs_inv h
    refine int_of (b := false) (l := w.cps.toList) (r := w.cps.toList) rfl (pos hr) (fun c hc => blank_dig (List.all_eq_true.mp hr c (List.mem_of_mem_head? hc))) ?_ h0 hr (by omega)
    unfold NumText.sign
    split
    · rename_i r e
      rw [e] at hr
      simp [dig] at hr
    · rename_i r e
      rw [e] at hr
      simp [dig] at hr
    · rfl
def numV (w : Str) : Int := (intText? w).getD 0
theorem num_v {w : Str} (h : numOk w = true) : intText? w = some (numV w) := by
  obtain ⟨n, hn⟩ := int_ok h
  unfold numV
  rw [hn]
  rfl
/-! ### a list of parts, all of which are there -/
def allSome (f : PyData → Option PyData) : List PyData → Option (List PyData)
  | [] => some []
  | d :: r => match f d, allSome f r with
    | some a, some b => some (a :: b)
    | _, _ => none
theorem allSome_snoc {f : PyData → Option PyData} {d d' : PyData} (h : f d = some d') : ∀ {ds acc : List PyData}, allSome f ds = some acc → allSome f (ds ++ [d]) = some (acc ++ [d'])
  | [], acc, e => by
    simp only [allSome] at e
    cases e
    simp [allSome, h]
  | x :: r, acc, e => by
    simp only [allSome] at e
    cases hx : f x with
    | none => rw [hx] at e; cases e
    | some a =>
      rw [hx] at e
      cases hr : allSome f r with
      | none => rw [hr] at e; cases e
      | some b =>
        rw [hr] at e
        cases e
        show (match f x, allSome f (r ++ [d]) with | some a, some b => some (a :: b) | _, _ => none) = _
        rw [hx, allSome_snoc h hr]
        rfl
theorem allSome_none {f : PyData → Option PyData} {d : PyData} (h : f d = none) : ∀ {ds : List PyData}, d ∈ ds → allSome f ds = none
  | x :: r, hm => by
    rcases List.mem_cons.mp hm with e | hm
    · subst e; simp [allSome, h]
    · have := allSome_none h hm
      simp only [allSome]
      rw [this]
      cases f x <;> rfl
theorem fit_tuple {ds : List PyData} (h1 : ds.length ≤ 100000) (h : ∀ d ∈ ds, fit d = true) : fit (.tuple ds) = true := by rw [fit, decide_eq_true h1, Bool.true_and]; exact fitAll_iff.mpr h
/-! ### small numbers as texts -/
theorem small_num : ∀ n : Nat, n < 1000 → (numOk (toString (n : Int)) = true ∧ intText? (toString (n : Int)) = some (n : Int) ∧ Str.length (toString (n : Int)) ≤ 4) ∧ (n ≠ 0 → numOk (toString (-(n : Int))) = true ∧ intText? (toString (-(n : Int))) = some (-(n : Int)) ∧ Str.length (toString (-(n : Int))) ≤ 4) := by decide +kernel
theorem small_int {i : Int} (h : -999 ≤ i ∧ i ≤ 999) : numOk (toString i) = true ∧ intText? (toString i) = some i ∧ Str.length (toString i) ≤ 4 := by
  by_cases h0 : 0 ≤ i
  · have := (small_num i.toNat (by omega)).1
    rw [show ((i.toNat : Nat) : Int) = i by omega] at this
    exact this
  · have := (small_num (-i).toNat (by omega)).2 (by omega)
    rw [show -(((-i).toNat : Nat) : Int) = i by omega] at this
    exact this
theorem small_log {i : Int} (h : -999 ≤ i ∧ i ≤ 999) : i.natAbs.log2 < 1920 := Nat.lt_of_le_of_lt (Nat.log2_le_self _) (by omega)
theorem sum_le {n : Nat} : ∀ {xs : List Nat}, (∀ x ∈ xs, x ≤ n) → xs.sum ≤ n * xs.length
  | [], _ => Nat.zero_le _
  | x :: r, h => by
    have h1 := h x (by simp)
    have h2 := sum_le (xs := r) fun y hy => h y (by simp [hy])
    simp only [List.sum_cons, List.length_cons, Nat.mul_succ]
    omega
/-- a sign of a number -/
def numCh (c : Nat) : Bool := decide (c = 45) || dig c
theorem small_chr0 : ∀ n : Nat, n < 1000 → ((toString (n : Int) : Str).cps.toList.all numCh = true ∧ (toString (n : Int) : Str).cps.toList ≠ []) ∧ ((toString (-(n : Int)) : Str).cps.toList.all numCh = true ∧ (toString (-(n : Int)) : Str).cps.toList ≠ []) := by decide +kernel
theorem small_chr {i : Int} (h : -999 ≤ i ∧ i ≤ 999) : (toString i : Str).cps.toList.all numCh = true ∧ (toString i : Str).cps.toList ≠ [] := by
  by_cases h0 : 0 ≤ i
  · have := (small_chr0 i.toNat (by omega)).1
    rw [show ((i.toNat : Nat) : Int) = i by omega] at this
    exact this
  · have := (small_chr0 (-i).toNat (by omega)).2
    rw [show -(((-i).toNat : Nat) : Int) = i by omega] at this
    exact this
theorem numCh_ne {c : Nat} (h : numCh c = true) : c ≠ 10 ∧ c ≠ 32 ∧ c < 128 ∧ c ≠ 101 := by
  unfold numCh at h
  rcases (Bool.or_eq_true _ _).mp h with h | h
  · have := of_decide_eq_true h
    omega
  · have := dig_dig h
    omega
end Y

namespace Y
open PySem PySem.Spec PyProof.Rows L2
section
variable {P : Program} {w : World} {K : PySem.W.Frag} {mg : Str → Option Value} {base : Heap} {k : Nat} {f : Addr} {fd : FuncData} {ps : List Str} {sp : Sp}
/-- what is let out with an empty context is let out -/
theorem okN (F : FnOk P w K mg base (L2N.CX P w) k f fd ps sp) : FnOk P w K mg base (L2.CX P w) k f fd ps sp := by
  refine ⟨F.len, fun A outer s H args us vs Q E hr he hb hv hs => codeAny_mono (F.run A outer s H args us vs Q E hr he hb hv hs) fun r s' h => ?_⟩
  cases r with
  | ok fl => cases fl <;> exact h
  | error e =>
    obtain ⟨a, B, H', cls, d, e1, fl, more⟩ := h
    exact ⟨a, B, H', cls, d, e1, L2H.flyingZ_imp (fun o z => z.zc) fl, more⟩
end
section
variable {X : Cx} {es : List Expr} {ta : TA}
theorem passN {E : XK} (t : L2N.Takes X fun cls d _ H => E cls d H) : Passes (L2N.CX X.prog X.w) X E := fun pins σ H s u s' I c => L2N.passes_call (W := fun cls d _ H => E cls d H) t (fun _ _ _ _ z => z) pins σ H s u s' I c
/-- C(e, ..) made where nothing is handled: its context is empty -/
theorem pmk_oexN {CX : CXT} {x : Str} {e : Expr} {p pos : Pos} {C fI : Addr} {k : Nat} {fd : FuncData} {ps : List Str} {sp : Sp} (T : OexC X.K C) (iC : PySem.W.findIn X.K (.ref C) "__init__" = some (some (.ref fI))) (tI : PySem.W.typeIn X.K (.ref fI) = some (.type "function"))
    (F1 : FnOk X.prog X.w X.K X.mg X.base CX k fI fd ps sp) (hr : Room (k + 1) X.A) (bnd : Binds X.K fd ps []) (hx : Passes CX X (fun _ _ _ => False)) (hg : Gl X x) (hm : X.mg x = some (.ref C)) (ha : PA X (e :: es) ta)
    (hdb : (x == ("__debug__" : Str)) = false := by decide) (hst : starEach (e :: es) X.env = (false, eval e X.env) :: starEach es X.env := by rfl) (hpl : (backTo pos (starEach es X.env)).any (·.1) = false := by rfl) :
    L2N.PMk X (.Call (.Name x p) (e :: es) [] pos) (tMkO C sp [] ta) := by
  intro pins s σ H Q I q0
  obtain ⟨nm, qq, N, bs, bm, sn, sub, ab, col, dd, k0, k1, k2, k3, k5, hC, hbm⟩ := T.cls
  refine wpAny_Call_Name_kw (ld_glob I hg hm ?_ hdb)
  refine PySem.W.callWith_K (h₀ := X.base) I.ok.mod.kin T.kC (thn (ha.run pos pins s σ H _ I q0) fun us s1 ⟨vs, H1, J, r1, hz, q1⟩ => ⟨J.kIn, ?_⟩) hst hpl
  show wpAny _ _ (call (.ref C) us) _ _ _
  obtain ⟨hp, g, dr, tk, os⟩ := s1
  -- the new instance stands behind the tuple of its arguments
  obtain ⟨D, hD⟩ : ∃ D, D = hp.objs.size := ⟨_, rfl⟩
  obtain ⟨hp2, hhp2⟩ : ∃ h : Heap, h = (hp.push (PySem.W.kdv_tup us)).push (PySem.HandSPX.excO C hp.objs.size) := ⟨_, rfl⟩
  have le1 : hp.objs.size ≤ D + 1 := by omega
  have fr1 : H1 (D + 1) = none := J.hok.fresh le1
  have qs := q1 (D + 1) fr1
  rw [List.append_nil] at qs
  have old : ∀ b o, hp.get? b = some o → hp2.get? b = some o := fun b o z => by rw [hhp2]; exact Heap.get?_push_of_some _ (Heap.get?_push_of_some _ z)
  have it : hp2.get? (D + 1) = some (PySem.HandSPX.excO C hp.objs.size) := by rw [hhp2, hD]; heap_get
  have J2 : Inv X pins σ (upd H1 (D + 1) (exo (D + 1) C none)) ⟨hp2, g, dr, tk, os⟩ := J.laid (t' := tk) (a := D + 1) (o := exo (D + 1) C none) (h' := hp2) old le1 (exo_ok it)
  have rv : Vals (V.ref (D + 1) :: vs) (Value.ref (D + 1) :: us) := .cons rfl r1
  have ln : (Value.ref (D + 1) :: us ++ []).length = ps.length := by
    rw [List.append_nil, ← rv.length]
    exact F1.len _ _ _ _ qs
  have lu : us.length ≤ sizeLine := by
    have := Paired.length r1
    rw [sizeLine_eq]
    omega
  have bb := bnd _ (Value.ref (D + 1) :: us) J2.kIn ln
  rw [List.append_nil] at bb
  subst hD
  subst hhp2
  refine wpAny_call (PySem.HandSPX.call_own F.excBase_ValueError (fun Y => PySem.HandSPX.refsVE_contains Y bm hbm) (J.kIn _ _ hC) (PySem.W.looks_findIn J.kIn iC) (fun self => PySem.W.bind_fn J.kIn self tI) lu
    (codeAny_mono (F1.run _ X.stack _ _ ⟨Value.ref (hp.objs.size + 1) :: us, []⟩ (Value.ref (hp.objs.size + 1) :: us) _ _ (fun _ _ _ => False) (hr.make C us []) (J2.env0.make C us []) bb rv qs) fun r s' res => ?_))
  cases r with
  | error er => exact hx pins σ _ _ er s' J2 res
  | ok fl =>
    cases fl with
    | ret u =>
      obtain ⟨v, H2, o2, bare2, un2, hok2, rr, ev, d, fs, ea, ed, hd1, q2⟩ := res
      subst ev
      obtain ⟨h2, g2, d2, t2, os'⟩ := s'
      obtain ⟨t0, G, JJ, kG, ge, hoe, na⟩ := mk_end0 (d2 := d2) (t2 := t2) J le1 old un2 hok2 o2 bare2 ea ed hd1
      refine ⟨rr, hp.objs.size + 1, _, _, ⟨G, g2, d2, t2, os'⟩, _, .ref C, some d, rfl, JJ, kG, ge, hoe, ⟨rfl, rfl, fun ws hw => ?_⟩, rfl, rfl, na, rfl, bare2, raises_own T.exC T.tyC, q2⟩
      cases hw
      rfl
    | next => exact False.elim res
    | brk => exact False.elim res
    | cont => exact False.elim res
/-- raise C(e) where nothing is handled -/
theorem ps_raiseIN {C : Addr} {f x : Str} {k : Nat} {E : XK} {e : Expr} {p pos pos' : Pos} (T : ExC X.K C f) (hm : X.mg x = some (.ref C))
    (F : FnOk X.prog X.w X.K X.mg X.base CX0 k (He.ma X.K C "__init__") (fdOf X.K (He.ma X.K C "__init__")) ["self", f] (spXi C f)) (b : Binds X.K (fdOf X.K (He.ma X.K C "__init__")) ["self", f] []) (hr : Room (k + 1) X.A) (hg : Gl X x) (hc : X.calm = true)
    (tk : L2N.Takes X fun cls d _ H => E cls d H) (ha : PA X (e :: es) ta) (hdb : (x == ("__debug__" : Str)) = false := by decide) (he : starEach (e :: es) X.env = (false, eval e X.env) :: starEach es X.env := by rfl) (hpl : (backTo pos (starEach es X.env)).any (·.1) = false := by rfl) :
    PS X (.Raise (some (.Call (.Name x p) (e :: es) [] pos)) none pos') (tRaiseI C f E ta) := by
  have h := L2N.ps_raise (pos := pos') hc tk (pmk_oexN (p := p) (pos := pos) T.oex T.iC T.tI F hr b (pass0 : Passes CX0 X E0) hg hm (pa_up ha) hdb he hpl)
  exact ⟨fun pins s σ H D I q => h.run pins s σ H D I (mk_read q)⟩
/-- raise C(e) from None in an except suite -/
theorem ps_raiseIH {C : Addr} {f x : Str} {k j : Nat} {E : XK} {e : Expr} {p pos pos' cpos : Pos} (T : ExC X.K C f) (hm : X.mg x = some (.ref C))
    (F : L2H.FnH X.prog X.w X.K X.mg X.base CX0 k (He.ma X.K C "__init__") (fdOf X.K (He.ma X.K C "__init__")) ["self", f] (spXi C f)) (b : Binds X.K (fdOf X.K (He.ma X.K C "__init__")) ["self", f] []) (hr : L2H.RoomH (k + 1) X.A) (hg : Gl X x) (hc : L2H.HotC X)
    (tk : L2.Takes X fun cls d _ H => E cls d H) (ha : PA X (e :: es) ta) (hdb : (x == ("__debug__" : Str)) = false := by decide) (he : starEach (e :: es) X.env = (false, eval e X.env) :: starEach es X.env := by rfl) (hpl : (backTo pos (starEach es X.env)).any (·.1) = false := by rfl) :
    PS X (.Raise (some (.Call (.Name x p) (e :: es) [] pos)) (some (.Constant .none j cpos)) pos') (tRaiseI C f E ta) := by
  have h := L2H.ps_raiseHN (j := j) (cpos := cpos) (pos := pos') hc tk (L2H.pmk5_oexH (p := p) (pos := pos) T.oex T.iC T.tI F hr hc b (pass0 : Passes CX0 X E0) hg hm (pa_up ha) hdb he hpl)
  exact ⟨fun pins s σ H D I q => h.run pins s σ H D I (mk_read q)⟩
end
section
variable {P : Program} {w : World} {K : PySem.W.Frag} {mg : Str → Option Value} {base : Heap} {x qual : Str} {params : Arguments} {body : List Stmt} {scope : Scope} {dvs : List V} {kws : List (Str × V)} {f : Addr} {fd : FuncData}
theorem okH {CX : CXT} {N ps : List Str} {k : Nat} {sp : Sp} (F : FunD K x qual params body scope dvs kws f fd) (S : FnScope N ps scope) (len : ∀ vs H Q E, sp vs H Q E → vs.length = ps.length)
    (hbody : ∀ (cdv : Value) (A : Around) (outer : List Env) (s : Shared) (H : Hp) (vs : List V) (Q : VK) (E : XK) (p : Addr × Obj), sp vs H Q E →
      ∃ t, PSs (L2H.cxH CX P w K mg base N qual scope f cdv A outer s H E p) body t ∧ t { nx := fun _ H' => Q .non H', rt := Q } (start N vs) H) : L2H.FnH P w K mg base CX (k + 1) f fd ps sp := by
  obtain ⟨oc, od, dV, kV, doc, pm, an, cdv, ct, osl, rfl, lk, hcd, _, _⟩ := F.ex
  exact L2H.fn_ofH lk hcd S len fun A outer s H vs Q E p _ _ hsp => hbody cdv A outer s H vs Q E p hsp
end
/-! ### texts joined and split, made -/
def rSplit : V → List V → Hp → VK → Prop := fun x xs H Q => ∃ a b : Str, x = .str a ∧ xs = [.str b] ∧ (b.length == 0) = false ∧ a.length + 2 ≤ sizeLine ∧ rNewStrs (Txt.split a b) H Q
def rRmp : V → List V → Hp → VK → Prop := fun x xs H Q => ∃ a b : Str, x = .str a ∧ xs = [.str b] ∧ a.length ≤ sizeLine ∧ Q (.str (Txt.removeprefix a b)) H
def rStrS : List V → Hp → VK → Prop := fun xs H Q => ∃ a : Str, xs = [.str a] ∧ Q (.str a) H
def rStrA : List V → Hp → VK → Prop := fun xs H Q => rStrI xs H Q ∨ rStrS xs H Q
def rIntS : List V → Hp → VK → Prop := fun xs H Q => ∃ (a : Str) (n : Int), xs = [.str a] ∧ intText? a = some n ∧ a.length ≤ 640 ∧ Q (.int n) H
def tFs (ts : List TE) : TE := fun σ H Q => tJs ts Str.empty σ H fun out H1 => Q (.str out) H1
def StarW (K : PySem.W.Frag) (t : TA) (σ : L2.St) (Q : List V → Hp → Prop) (x : V) (H1 : Hp) : Prop := ∃ p xs, x = V.ref p ∧ (SqT K H1 p xs ∨ SqL K H1 p xs) ∧ t σ H1 fun ys H2 => Q (xs ++ ys) H2
section
variable {X : Cx} {K : PySem.W.Frag} {o e : Expr} {es : List Expr} {to te : TE} {t : TA} {apos pos p : Pos}
theorem call_strS : CallR X (.type "str") rStrS := SkE.call_str_str
theorem call_strA : CallR X (.type "str") rStrA := fun pins s σ H xs us Q I r h => h.elim (fun h => call_strI pins s σ H xs us Q I r h) fun h => call_strS pins s σ H xs us Q I r h
theorem call_intS : CallR X (.type "int") rIntS := L2.call_int_str
theorem pe_splitR (ho : PE X o to) (he : PE X e te) (hs : starEach [e] X.env = [(false, eval e X.env)] := by rfl) (hbase : attributeBase o "split" X.env (eval o X.env) = eval o X.env := by rfl) (hline : (apos.endLine == pos.line) = true := by rfl) :
    PE X (.Call (.Attribute o "split" apos) [e] [] pos) (tM1 rSplit to te) := pe_split ho he hs hbase hline
theorem pe_rmpre (ho : PE X o to) (he : PE X e te) (hs : starEach [e] X.env = [(false, eval e X.env)] := by rfl) (hbase : attributeBase o "removeprefix" X.env (eval o X.env) = eval o X.env := by rfl) (hline : (apos.endLine == pos.line) = true := by rfl) :
    PE X (.Call (.Attribute o "removeprefix" apos) [e] [] pos) (tM1 rRmp to te) := pe_m1 F.slot_str_removeprefix F.type_str_removeprefix mt_removeprefix ho he hs hbase hline
theorem pe_fs {v1 v2 : Expr} {rest : List Expr} {ts : List TE} (h : PJ X (v1 :: v2 :: rest) ts) : PE X (.JoinedStr (v1 :: v2 :: rest) pos) (tFs ts) := pe_joined h
theorem pa_starK (h : X.K = K) (he : PE X e te) (hr : PA X es t) (hs : starEach (.Starred e p :: es) X.env = (true, eval e X.env) :: starEach es X.env := by rfl) : PA X (.Starred e p :: es) (StX.tStar K te t) := h ▸ StX.pa_star he hr hs
end
section
variable {K : PySem.W.Frag} {σ : L2.St} {G H : Hp} {Q : VK} {to te : TE} {t : TA} {ts : List TE} {a b acc y : Str} {QA : List V → Hp → Prop} {ds : List PyData} {x : V}
theorem g_m1 {r : V → List V → Hp → VK → Prop} (q : to σ H fun x H1 => (∃ a, x = .str a) ∧ te σ H1 fun y H2 => r x [y] H2 Q) : tM1 r to te σ H Q := q
theorem g_isS {P : Prop} (q : P) : (∃ a', V.str a = .str a') ∧ P := ⟨⟨a, rfl⟩, q⟩
theorem g_fs (q : tJs ts Str.empty σ H fun out H1 => Q (.str out) H1) : tFs ts σ H Q := q
theorem g_js {QS : Str → Hp → Prop} (q : te σ H fun x H1 => ∃ y : Str, x = .str y ∧ (acc ++ y).length ≤ sizeLine ∧ tJs ts (acc ++ y) σ H1 QS) : tJs (te :: ts) acc σ H QS := q
theorem g_js0 {QS : Str → Hp → Prop} (q : QS acc H) : tJs [] acc σ H QS := q
theorem g_jsW {QS : Str → Hp → Prop} (h : (acc ++ y).length ≤ sizeLine) (q : tJs ts (acc ++ y) σ H QS) : ∃ z : Str, V.str y = .str z ∧ (acc ++ z).length ≤ sizeLine ∧ tJs ts (acc ++ z) σ H QS := ⟨y, rfl, h, q⟩
def FmtW (Q : VK) (x : V) (H1 : Hp) : Prop := (∃ y : Str, x = .str y ∧ y.length ≤ sizeLine ∧ Q (.str y) H1) ∨ ∃ i : Int, x = .int i ∧ i.natAbs.log2 < 1920 ∧ Q (.str (toString i)) H1
theorem g_fmt (q : te σ H fun x H1 => FmtW Q x H1) : tFmt te σ H Q := q
theorem g_fmtS (h : y.length ≤ sizeLine) (q : Q (.str y) H) : FmtW Q (.str y) H := .inl ⟨y, rfl, h, q⟩
theorem g_fmtI {i : Int} (h : i.natAbs.log2 < 1920) (q : Q (.str (toString i)) H) : FmtW Q (.int i) H := .inr ⟨i, rfl, h, q⟩
theorem g_star (q : te σ H fun x H1 => StarW K t σ QA x H1) : StX.tStar K te t σ H QA := q
theorem g_starM {p : Addr} {xs : List V} (h : H p = some (.lst xs)) (q : t σ H fun ys H2 => QA (xs ++ ys) H2) : StarW K t σ QA (.ref p) H := ⟨p, xs, rfl, .inr (.of h), q⟩
theorem g_split {c : Nat} (h : a.length ≤ 100000) (e : Ex G H) (q : ∀ p G' H', Nx [] G H G' H' → Dp K G' (.ref p) (.list ((Txt.split a ⟨#[c]⟩).map .str)) → Q (.ref p) H') : rSplit (.str a) [.str ⟨#[c]⟩] H Q :=
  ⟨a, _, rfl, rfl, rfl, by rw [sizeLine_eq]; omega, fun p hp => let ⟨n, d⟩ := nx_lst e (dpAll_str _) hp; q p _ _ n d⟩
theorem g_rmp (h : a.length ≤ sizeLine) (q : Q (.str (Txt.removeprefix a b)) H) : rRmp (.str a) [.str b] H Q := ⟨a, b, rfl, rfl, h, q⟩
theorem g_intS {n : Int} (h : intText? a = some n) (hl : a.length ≤ 640) (q : Q (.int n) H) : rIntS [.str a] H Q := ⟨a, n, rfl, h, hl, q⟩
theorem g_strAI {i : Int} (h : i.natAbs.log2 < 1920) (q : Q (.str (toString i)) H) : rStrA [.int i] H Q := .inl ⟨i, rfl, h, q⟩
theorem g_strAS (q : Q (.str a) H) : rStrA [.str a] H Q := .inr ⟨a, rfl, q⟩
theorem g_joinM {p : Addr} {ys : List Str} (h : H p = some (.lst (ys.map V.str))) (hl : (ys.map (·.length)).sum + ys.length * a.length ≤ 16777216) (q : Q (.str (Str.join a ys)) H) : rJoin K (.str a) [.ref p] H Q :=
  ⟨a, p, ys, rfl, rfl, .inl (.of h), hl, by rw [join_eq]; exact q⟩
end
end Y
namespace Y
open PySem PySem.Spec PyProof.Rows L2
section
variable {K : PySem.W.Frag} {σ : L2.St} {G H : Hp} {Q : VK} {ds es : List PyData} {x v : V} {lo hi : Option Int} {R : L2.St → Hp → Prop} {d1 d2 d3 : PyData} {i j k : Nat}
/-- a part of a known list -/
theorem g_slK (e : Ex G H) (hx : Dp K G x (.list ds)) (hc : ∀ xs : List V, DpAll K G xs ds → DpAll K G (cutV xs lo hi) es) (q : ∀ p G' H', Nx [] G H G' H' → Dp K G' (.ref p) (.list es) → Q (.ref p) H') : rSlL K x lo hi H Q := by
  obtain ⟨a, xs, rfl, ha, da⟩ := dp_lst hx
  exact ⟨a, xs, rfl, e.seqL ha, fun p hp => let ⟨n, d⟩ := nx_lst e (hc xs da) hp; q p _ _ n d⟩
theorem g_unL2 (e : Ex G H) (h : Dp K G v (.list [d1, d2])) (q : ∀ v1 v2, Dp K G v1 d1 → Dp K G v2 d2 → R ((σ.set i (some v1)).set j (some v2)) H) : gLst K 2 (gCons (gName i) (gCons (gName j) gNil)) v σ H R := by
  obtain ⟨a, xs, rfl, hs, hd⟩ := dp_lst h
  cases hd with
  | cons h1 t => cases t with
    | cons h2 t => cases t; exact ⟨a, _, rfl, e.seqL hs, rfl, _, _, rfl, _, _, rfl, rfl, q _ _ h1 h2⟩
theorem g_unLM3 {p : Addr} {xs : List V} (h : H p = some (.lst xs)) (hd : DpAll K G xs [d1, d2, d3]) (q : ∀ v1 v2 v3, Dp K G v1 d1 → Dp K G v2 d2 → Dp K G v3 d3 → R (((σ.set i (some v1)).set j (some v2)).set k (some v3)) H) : gLst K 3 (gCons (gName i) (gCons (gName j) (gCons (gName k) gNil))) (.ref p) σ H R := by
  cases hd with
  | cons h1 t => cases t with
    | cons h2 t => cases t with
      | cons h3 t => cases t; exact ⟨p, _, rfl, .of h, rfl, _, _, rfl, _, _, rfl, _, _, rfl, rfl, q _ _ _ h1 h2 h3⟩
end
end Y
namespace Y
open PySem PySem.Spec PyProof.Rows L2
def vwOf (n : Str) (rs : List PyData) : PyData := .tuple [.str n, .tuple rs]
theorem g_cont {D : Ends} {σ : L2.St} {H : Hp} (q : D.ct σ H) : tCont D σ H := q
theorem g_brk {D : Ends} {σ : L2.St} {H : Hp} (q : D.bk σ H) : tBreak D σ H := q
end Y

namespace Y
open PySem PySem.Spec PyProof.Rows L2
/-! ### tables -/
section
variable {κ α : Type} [DecidableEq κ]
def gtM (m : List (κ × α)) (k : κ) : Option α := (m.find? fun p => decide (p.1 = k)).map (·.2)
def ptM (m : List (κ × α)) (k : κ) (a : α) : List (κ × α) :=
  if (m.any fun p => decide (p.1 = k)) = true then m.map (fun p => if p.1 = k then (p.1, a) else p) else m ++ [(k, a)]
theorem gtM_cons {p : κ × α} {m : List (κ × α)} {k : κ} : gtM (p :: m) k = if p.1 = k then some p.2 else gtM m k := by
  unfold gtM
  rw [List.find?_cons]
  by_cases h : p.1 = k
  · simp [h]
  · simp [h]
theorem gtM_none {m : List (κ × α)} {k : κ} : gtM m k = none ↔ k ∉ m.map (·.1) := by
  induction m with
  | nil => simp [gtM]
  | cons p m ih =>
    rw [gtM_cons]
    by_cases h : p.1 = k
    · simp [h]
    · rw [if_neg h, ih, List.map_cons, List.mem_cons]
      exact ⟨fun a b => b.elim (fun z => h z.symm) a, fun a b => a (.inr b)⟩
theorem gtM_any {m : List (κ × α)} {k : κ} : (m.any fun p => decide (p.1 = k)) = (gtM m k).isSome := by
  induction m with
  | nil => rfl
  | cons p m ih =>
    rw [gtM_cons, List.any_cons, ih]
    by_cases h : p.1 = k <;> simp [h]
theorem gtM_map {m : List (κ × α)} {k k' : κ} {a : α} : gtM (m.map fun p => if p.1 = k then (p.1, a) else p) k' = if k = k' then (if (gtM m k).isSome then some a else none) else gtM m k' := by
  induction m with
  | nil => simp [gtM]
  | cons p m ih =>
    rw [List.map_cons, gtM_cons, ih, gtM_cons, gtM_cons]
    by_cases h1 : p.1 = k
    · subst h1
      by_cases h2 : p.1 = k' <;> simp [h2]
    · simp only [h1, if_false]
      by_cases h2 : k = k'
      · subst h2
        simp [h1]
      · simp [h2]
theorem gtM_app {m m' : List (κ × α)} {k : κ} : gtM (m ++ m') k = (gtM m k).or (gtM m' k) := by
  induction m with
  | nil => simp [gtM]
  | cons p m ih =>
    rw [List.cons_append, gtM_cons, gtM_cons, ih]
    by_cases h : p.1 = k <;> simp [h]
theorem gtM_ptM {m : List (κ × α)} {k k' : κ} {a : α} : gtM (ptM m k a) k' = if k = k' then some a else gtM m k' := by
  unfold ptM
  rw [gtM_any]
  by_cases h : (gtM m k).isSome = true
  · rw [if_pos h, gtM_map, if_pos h]
  · rw [if_neg h, gtM_app, gtM_cons]
    have h' : gtM m k = none := by simpa using h
    by_cases h2 : k = k'
    · subst h2
      simp [h']
    · simp [h2, gtM]
theorem keys_map {m : List (κ × α)} {k : κ} {a : α} : (m.map fun p => if p.1 = k then (p.1, a) else p).map (·.1) = m.map (·.1) := by
  rw [List.map_map]
  refine List.map_congr_left fun p _ => ?_
  show (if p.1 = k then (p.1, a) else p).1 = p.1
  split <;> rfl
theorem keys_ptM {m : List (κ × α)} {k : κ} {a : α} : (ptM m k a).map (·.1) = if k ∈ m.map (·.1) then m.map (·.1) else m.map (·.1) ++ [k] := by
  unfold ptM
  rw [gtM_any]
  by_cases h : k ∈ m.map (·.1)
  · have : (gtM m k).isSome = true := by
      cases e : gtM m k with
      | none => exact absurd h (gtM_none.mp e)
      | some _ => rfl
    rw [if_pos this, if_pos h, keys_map]
  · rw [if_neg (by rw [gtM_none.mpr h]; simp), if_neg h, List.map_append]
    rfl
theorem len_ptM {m : List (κ × α)} {k : κ} {a : α} : (ptM m k a).length ≤ m.length + 1 := by
  unfold ptM
  split <;> simp
theorem ptM_new {m : List (κ × α)} {k : κ} {a : α} (h : k ∉ m.map (·.1)) : ptM m k a = m ++ [(k, a)] := by
  unfold ptM
  rw [gtM_any, gtM_none.mpr h]
  simp
end
section
variable {K : PySem.W.Frag} {G : Hp} {κ : Type} [DecidableEq κ]
theorem gt_rel (k : κ) : ∀ {kvs : List (κ × V)} {md : List (κ × PyData)}, kvs.map (·.1) = md.map (·.1) → DpAll K G (kvs.map (·.2)) (md.map (·.2)) →
    (∀ x, gtM md k = some x → ∃ v, valV kvs k = some v ∧ Dp K G v x) ∧ (gtM md k = none → valV kvs k = none)
  | [], [], _, _ => ⟨(fun _ h => nomatch h), fun _ => rfl⟩
  | [], _ :: _, h, _ => by simp at h
  | _ :: _, [], h, _ => by simp at h
  | (k1, v) :: kvs, (k2, x) :: md, h, hd => by
    simp only [List.map_cons, List.cons.injEq] at h
    obtain ⟨rfl, h2⟩ := h
    cases hd with
    | cons d1 d2 =>
      have ih := gt_rel k h2 d2
      rw [gtM_cons]
      by_cases hk : k1 = k
      · rw [valV_pos (p := (k1, v)) hk]
        simp only [hk, if_true]
        exact ⟨fun y hy => by cases hy; exact ⟨v, rfl, d1⟩, fun z => nomatch z⟩
      · rw [valV_neg (p := (k1, v)) hk]
        simp only [hk, if_false]
        exact ih
theorem dpAll_at {vs : List V} {ds : List PyData} (hl : vs.length = ds.length) (h : ∀ (i : Nat) v d, vs[i]? = some v → ds[i]? = some d → Dp K G v d) : DpAll K G vs ds := by
  induction vs generalizing ds with
  | nil =>
    cases ds with
    | nil => exact .nil
    | cons _ _ => simp at hl
  | cons v vs ih =>
    cases ds with
    | nil => simp at hl
    | cons d ds =>
      exact .cons (h 0 v d rfl rfl) (ih (by simpa using hl) fun i v' d' h1 h2 => h (i + 1) v' d' h1 h2)
theorem pt_map (k : κ) {v : V} {x : PyData} (dv : Dp K G v x) : ∀ {kvs : List (κ × V)} {md : List (κ × PyData)}, kvs.map (·.1) = md.map (·.1) → DpAll K G (kvs.map (·.2)) (md.map (·.2)) →
    DpAll K G ((kvs.map fun p => if p.1 = k then (p.1, v) else p).map (·.2)) ((md.map fun p => if p.1 = k then (p.1, x) else p).map (·.2))
  | [], [], _, _ => .nil
  | [], _ :: _, h, _ => by simp at h
  | _ :: _, [], h, _ => by simp at h
  | (k1, u) :: kvs, (k2, y) :: md, h, hd => by
    simp only [List.map_cons, List.cons.injEq] at h
    obtain ⟨rfl, h2⟩ := h
    cases hd with
    | cons d1 d2 =>
      have ih := pt_map k dv h2 d2
      rw [List.map_cons, List.map_cons, List.map_cons, List.map_cons]
      refine .cons ?_ ih
      by_cases hk : k1 = k
      · simp only [hk, if_true]; exact dv
      · simp only [hk, if_false]; exact d1
theorem pt_rel (k : κ) {v : V} {x : PyData} (dv : Dp K G v x) {kvs : List (κ × V)} {md : List (κ × PyData)} (h : kvs.map (·.1) = md.map (·.1)) (hd : DpAll K G (kvs.map (·.2)) (md.map (·.2))) :
    (putK kvs k v).map (·.1) = (ptM md k x).map (·.1) ∧ DpAll K G ((putK kvs k v).map (·.2)) ((ptM md k x).map (·.2)) := by
  have e : putK kvs k v = ptM kvs k v := rfl
  refine ⟨by rw [e, keys_ptM, keys_ptM, h], ?_⟩
  rw [e]
  unfold ptM
  have ea : (kvs.any fun p => decide (p.1 = k)) = (md.any fun p => decide (p.1 = k)) := by
    have q1 : ∀ {β : Type} (m : List (κ × β)), (m.any fun p => decide (p.1 = k)) = (m.map (·.1)).any fun a => decide (a = k) := fun m => by rw [List.any_map]; rfl
    rw [q1, q1, h]
  rw [ea]
  split
  · exact pt_map k dv h hd
  · rw [List.map_append, List.map_append]
    exact dpAll_snoc hd dv
end
/-- a dict of data that stands, apart from what is known -/
def DctAt (K : PySem.W.Frag) (d : Addr) (G H : Hp) (md : List (Key × PyData)) : Prop := ∃ kvs, H d = some (.dK kvs) ∧ G d = none ∧ kvs.map (·.1) = md.map (·.1) ∧ DpAll K G (kvs.map (·.2)) (md.map (·.2))
section
variable {K : PySem.W.Frag} {d A : Addr} {G H G' H' : Hp} {md : List (Key × PyData)} {M : List Addr} {o : HO} {k : Key} {x y v : V} {dx : PyData} {Q : VK} {R : Hp → Prop}
theorem DctAt.go (r : DctAt K d G H md) (n : Nx M G H G' H') (hd : d ∉ M) : DctAt K d G' H' md := by
  obtain ⟨kvs, h, g, hk, dd⟩ := r
  exact ⟨kvs, n.fr d _ hd h, n.old d g ⟨_, h, fun _ z => nomatch z⟩, hk, dpAll_mono n.gg dd⟩
theorem DctAt.upd (r : DctAt K d G H md) (h : A ≠ d) : DctAt K d G (upd H A o) md := by
  obtain ⟨kvs, h1, g, r⟩ := r
  exact ⟨kvs, by rw [upd_ne h.symm]; exact h1, g, r⟩
theorem DctAt.live (r : DctAt K d G H md) : H d ≠ none := by
  obtain ⟨kvs, h1, _⟩ := r
  rw [h1]; exact fun z => nomatch z
theorem DctAt.len (r : DctAt K d G H md) : ∃ kvs, H d = some (.dK kvs) ∧ kvs.length = md.length := by
  obtain ⟨kvs, h1, _, hk, _⟩ := r
  exact ⟨kvs, h1, by simpa using congrArg List.length hk⟩
theorem g_newD (e : Ex G H) (q : ∀ p H', Nx [] G H G H' → H p = none → DctAt K p G H' [] → Q (.ref p) H') : tDNewK σ H Q := g_new fun p hp => q p _ (Nx.own e hp) hp ⟨[], upd_same, e.free hp, rfl, .nil⟩
theorem g_dcGet (r : DctAt K d G H md) (hk : y = kV k) (hg : gtM md k = some dx) (q : ∀ v, Dp K G v dx → Q v H) : DGeW Q (.ref d) y H := by
  obtain ⟨kvs, h, g, he, dd⟩ := r
  obtain ⟨v, hv, dv⟩ := (gt_rel k he dd).1 dx hg
  exact ⟨d, v, rfl, .inl ⟨kvs, k, .inl h, hk, hv.symm⟩, q v dv⟩
theorem isSome_rel {kvs : List (Key × V)} (he : kvs.map (·.1) = md.map (·.1)) (dd : DpAll K G (kvs.map (·.2)) (md.map (·.2))) : (valV kvs k).isSome = (gtM md k).isSome := by
  have h := gt_rel k he dd
  cases e : gtM md k with
  | none => rw [h.2 e]; rfl
  | some z =>
    obtain ⟨v, hv, _⟩ := h.1 z e
    rw [hv]; rfl
theorem g_dcIn (r : DctAt K d G H md) (hk : y = kV k) (q : Q (.bl (gtM md k).isSome) H) : DInW Q y (.ref d) H := by
  obtain ⟨kvs, h, g, he, dd⟩ := r
  exact ⟨d, _, rfl, .inl ⟨kvs, k, .inl h, hk, rfl⟩, by rw [isSome_rel he dd]; exact q⟩
theorem g_dcNi (r : DctAt K d G H md) (hk : y = kV k) (q : Q (.bl (!(gtM md k).isSome)) H) : DNiW Q y (.ref d) H := by
  obtain ⟨kvs, h, g, he, dd⟩ := r
  exact ⟨d, _, rfl, .inl ⟨kvs, k, .inl h, hk, rfl⟩, by rw [isSome_rel he dd]; exact q⟩
theorem g_dcPut (e : Ex G H) (r : DctAt K d G H md) (hk : y = kV k) (dv : Dp K G v dx) (hl : md.length < 100000) (q : ∀ H', Nx [d] G H G H' → DctAt K d G H' (ptM md k dx) → R H') : DPuW R v (.ref d) y H := by
  obtain ⟨kvs, h, g, he, dd⟩ := r
  have hlen : kvs.length = md.length := by simpa using congrArg List.length he
  obtain ⟨p1, p2⟩ := pt_rel k dv he dd
  exact ⟨d, _, rfl, .inl ⟨kvs, k, h, hk, szl (by omega), rfl⟩, q _ (Nx.set e g (by simp)) ⟨_, upd_same, g, p1, p2⟩⟩
end
/-! ### while, truth, parts of lists that stand -/
section
variable {K : PySem.W.Frag} {σ : L2.St} {G H : Hp} {Q : VK} {D : Ends} {c : TT} {tb : TS} {ta : TE} {QT : Bool → Hp → Prop} {x y : V} {p b : Addr} {ds es L L' : List PyData}
theorem g_while (n : Nat) (Pv : Nat → L2.St → Hp → Prop) (h0 : Pv n σ H)
    (hs : ∀ m σ' H', Pv m σ' H' → c σ' H' fun b H1 => if b = true then ∃ N : L2.St → Hp → Prop, (∀ σ2 H2, N σ2 H2 → ∃ m', m' < m ∧ Pv m' σ2 H2) ∧ tb { D with nx := N, ct := N, bk := D.nx } σ' H1 else D.nx σ' H1) : tWhile c tb D σ H :=
  ⟨Pv, ⟨n, h0⟩, hs⟩
theorem g_whN {n : Nat} {Pv : Nat → L2.St → Hp → Prop} (q : tb { D with nx := fun σ2 H2 => ∃ m, m < n ∧ Pv m σ2 H2, ct := fun σ2 H2 => ∃ m, m < n ∧ Pv m σ2 H2, bk := D.nx } σ H) :
    ∃ N : L2.St → Hp → Prop, (∀ σ2 H2, N σ2 H2 → ∃ m', m' < n ∧ Pv m' σ2 H2) ∧ tb { D with nx := N, ct := N, bk := D.nx } σ H := ⟨_, fun _ _ z => z, q⟩
def tTru (K : PySem.W.Frag) (ta : TE) : TT := fun σ H Q => ta σ H fun x H' => ∃ k, TruV K x H' k ∧ Q k H'
theorem pt_truthK {X : Cx} {a : Expr} (h : X.K = K) (ha : PE X a ta) (he : ∀ whole, isTrue a X.env whole = (do let v ← whole; standAt a.pos; holding [v] (truthy v))) : PT X a (tTru K ta) := h ▸ pt_truth ha he
def TruW (K : PySem.W.Frag) (QT : Bool → Hp → Prop) (x : V) (H' : Hp) : Prop := ∃ k, TruV K x H' k ∧ QT k H'
theorem g_tru (q : ta σ H fun x H' => TruW K QT x H') : tTru K ta σ H QT := q
theorem g_truL {xs : List V} (h : SqL K H p xs) (q : QT (!xs.isEmpty) H) : TruW K QT (.ref p) H := ⟨_, .inl ⟨xs, h, rfl⟩, q⟩
theorem g_slM {lo hi : Option Int} (e : Ex G H) (r : LstAt K b G H L) (hc : ∀ xs : List V, DpAll K G xs L → DpAll K G (cutV xs lo hi) es) (q : ∀ p H', Nx [] G H G H' → H p = none → LstAt K p G H' es → Q (.ref p) H') : rSlL K (.ref b) lo hi H Q := by
  obtain ⟨xs, h, g, d⟩ := r
  exact ⟨b, xs, rfl, .of h, fun p hp => q p _ (Nx.own e hp) hp ⟨_, upd_same, e.free hp, hc xs d⟩⟩
theorem g_slMHi {k : Nat} {i : Int} (e : Ex G H) (r : LstAt K b G H L) (hj : i = (k : Int)) (q : ∀ p H', Nx [] G H G H' → H p = none → LstAt K p G H' (L.take k) → Q (.ref p) H') : rSlL K (.ref b) none (some i) H Q := by
  subst hj
  exact g_slM e r (fun xs d => by rw [cut_hi]; exact dpAll_take k d) q
theorem g_slMLo {k : Nat} {i : Int} (e : Ex G H) (r : LstAt K b G H L) (hj : i = (k : Int)) (q : ∀ p H', Nx [] G H G H' → H p = none → LstAt K p G H' (L.drop k) → Q (.ref p) H') : rSlL K (.ref b) (some i) none H Q := by
  subst hj
  exact g_slM e r (fun xs d => by rw [cut_lo]; exact dpAll_drop k d) q
theorem g_catM (e : Ex G H) (r1 : LstAt K p G H L) (r2 : LstAt K b G H L') (hl : L.length + L'.length ≤ 100000) (q : ∀ r H', Nx [] G H G H' → H r = none → LstAt K r G H' (L ++ L') → Q (.ref r) H') : rCat (.ref p) (.ref b) H Q := by
  obtain ⟨xs, h, g, d⟩ := r1
  obtain ⟨ys, h2, g2, d2⟩ := r2
  refine ⟨p, b, xs, ys, rfl, rfl, h, h2, by rw [dpAll_len d, dpAll_len d2]; exact szle hl, fun r hr => q r _ (Nx.own e hr) hr ⟨_, upd_same, e.free hr, dpAll_app d d2⟩⟩
theorem g_ixLs {i : Int} {k : Nat} {d : PyData} (r : LstAt K p G H L) (hi : L[k]? = some d) (hj : i = (k : Int)) (q : ∀ v, Dp K G v d → Q v H) : rIxL K (.ref p) (.int i) H Q := by
  obtain ⟨xs, h, g, da⟩ := r
  obtain ⟨v, hv, dv⟩ := dpAll_get da hi
  subst hj
  exact ⟨p, xs, _, v, rfl, rfl, .of h, atI_nat hv, q v dv⟩
theorem g_lenLs (r : LstAt K p G H L) (q : Q (.int (L.length : Int)) H) : rLen K [.ref p] H Q := by
  obtain ⟨xs, h, g, da⟩ := r
  exact ⟨p, xs, rfl, .inl (.of h), by rw [dpAll_len da]; exact q⟩
theorem g_appLs (e : Ex G H) (r : LstAt K p G H L) (dy : Dp K G y d) (hl : L.length < 100000) (q : ∀ H', Nx [p] G H G H' → LstAt K p G H' (L ++ [d]) → Q .non H') : rAppend (.ref p) [y] H Q := by
  obtain ⟨xs, h, g, da⟩ := r
  exact ⟨p, xs, y, rfl, rfl, h, by rw [dpAll_len da]; exact szl (by omega), q _ (Nx.set e g (by simp)) ⟨_, upd_same, g, dpAll_snoc da dy⟩⟩
theorem g_tyLs {P : Prop} (r : LstAt K p G H L) (q : P) : tyV K "list" (.ref p) H ∧ P := by
  obtain ⟨xs, h, g, da⟩ := r
  exact g_tyL h q
theorem g_setLs {i : Int} {k : Nat} {R : Hp → Prop} (e : Ex G H) (r : LstAt K p G H L) (dy : Dp K G y d) (hj : i = (k : Int)) (hk : k < L.length) (q : ∀ H', Nx [p] G H G H' → LstAt K p G H' (L.set k d) → R H') : rSetL (.ref p) (.int i) y H R := by
  obtain ⟨xs, h, g, da⟩ := r
  refine g_setM h hj (by rw [dpAll_len da]; exact hk) (q _ (Nx.set e g (by simp)) ⟨_, upd_same, g, ?_⟩)
  refine dpAll_at (by simp [dpAll_len da]) fun j u w hu hw => ?_
  rw [List.getElem?_set] at hu hw
  rw [dpAll_len da] at hu
  by_cases hkj : k = j
  · subst hkj
    rw [if_pos rfl, if_pos hk] at hu hw
    cases hu; cases hw
    exact dy
  · rw [if_neg hkj] at hu hw
    obtain ⟨d', hd', dd⟩ := dpAll_got da hu
    rw [hw] at hd'
    cases hd'
    exact dd
theorem g_walkLs {P : Addr → Prop} (r : LstAt K p G H L) (q : (∀ M, p ∉ M → Src K M (Itl K p) G H L) → P p) : ∃ b, V.ref p = .ref b ∧ (∃ xs, SqL K H b xs) ∧ P b := by
  obtain ⟨xs, h, g, da⟩ := r
  exact g_walkM h da q
theorem g_lstLs {xs : List V} (e : Ex G H) (h : DpAll K G xs L) (hl : L.length ≤ 100000) (q : ∀ p H', Nx [] G H G H' → H p = none → LstAt K p G H' L → Q (.ref p) H') : MkL xs H Q :=
  ⟨by rw [dpAll_len h]; exact szle hl, fun p hp => q p _ (Nx.own e hp) hp ⟨_, upd_same, e.free hp, h⟩⟩
theorem g_inSs {neg : Bool} {ss : List Str} {t : Str} (r : LstAt K p G H (ss.map .str)) (q : Q (.bl (if neg = true then !decide (t ∈ ss) else decide (t ∈ ss))) H) : rIn K neg (.str t) (.ref p) H Q := by
  obtain ⟨xs, h, g, da⟩ := r
  rw [dpAll_str_inv da] at h
  exact g_inS (.of h) q
theorem g_inSsF {ss : List Str} {t : Str} (r : LstAt K p G H (ss.map .str)) (q : Q (.bl (decide (t ∈ ss))) H) : rIn K false (.str t) (.ref p) H Q := g_inSs r q
theorem g_inSsT {ss : List Str} {t : Str} (r : LstAt K p G H (ss.map .str)) (q : Q (.bl (!decide (t ∈ ss))) H) : rIn K true (.str t) (.ref p) H Q := g_inSs r q
theorem g_eqSame {H : Hp} {x y : V} {d : PyData} {Q : VK} (h1 : Dp K H x d) (h2 : Dp K H y d) (s : SeqAt.shaped d = true) (q : Q (.bl true) H) : rEqD K x y H Q :=
  ⟨d, d, h1, h2, s, s, by rw [SeqAt.eqv_refl _ (shaped_lay s)]; exact q⟩
theorem g_eqL {a b : Addr} (e : Ex G H) (h1 : LstAt K a G H L) (h2 : LstAt K b G H L) (s : SeqAt.shaped (.list L) = true) (q : Q (.bl true) H) : rEqD K (.ref a) (.ref b) H Q :=
  g_eqSame (h1.dp e) (h2.dp e) s q
end
/-! ### a comprehension whose items are told as they are -/
theorem g_lcV {K : PySem.W.Frag} {σ : L2.St} {G H : Hp} {Q : VK} {te : TE} {tt : TT} {J : It} {M : List Addr} {ds : List PyData} {A : Addr} {j : Nat} (S : Src K M J G H ds) (e : Ex G H) (hA : H A = none) (hM : ∀ b ∈ M, H b ≠ none) (hz : ds.length < sizeLine) (Jv : Nat → List V → Hp → Hp → Prop)
    (jA : ∀ i acc G' H' o, Jv i acc G' H' → Jv i acc G' (upd H' A o)) (jN : ∀ i acc G' H' G1 H1, Nx [] G' H' G1 H1 → Jv i acc G' H' → Jv i acc G1 H1) (j0 : Jv 0 [] G H)
    (hs : ∀ i d v acc G' H', ds[i]? = some d → Dp K G' v d → Nx M G H G' H' → acc.length ≤ i → Jv i acc G' H' → ∀ (QE : VK) (QN : Hp → Prop),
      (∀ y G4 H4, Nx M G' H' G4 H4 → Jv (i + 1) (acc ++ [y]) G4 H4 → QE y H4) → (∀ G3 H3, Nx M G' H' G3 H3 → Jv (i + 1) acc G3 H3 → QN H3) →
      tt ((wipe σ [j]).set j (some v)) H' fun b H3 => if b = true then te ((wipe σ [j]).set j (some v)) H3 QE else QN H3)
    (hd : ∀ G' H' ys, Jv ds.length ys G' H' → Nx M G H G' H' → G' A = none → H' A = some (.lst ys) → ys.length ≤ ds.length → Q (.ref A) H') : LcW J (gName j) tt te [j] σ A Q H := by
  have st0 : Nx [] G H G (upd H A (.lst [])) := Nx.own e hA
  have hAM : A ∉ M := fun z => hM A z hA
  refine ⟨fun i m H' => m = ds.length - i ∧ i ≤ ds.length ∧ ∃ G' ys, Nx M G H G' H' ∧ G' A = none ∧ H' A = some (.lst ys) ∧ ys.length ≤ i ∧ Jv i ys G' H',
    ⟨ds.length, by simp, Nat.zero_le _, G, [], st0.pure, e.free hA, upd_same, Nat.le_refl _, jA _ _ _ _ _ j0⟩, ?_⟩
  rintro i m H' ⟨rfl, hi, G', ys, n, gA, hys, hl, jv⟩
  by_cases hlt : i < ds.length
  · refine .inr ⟨S.go i G' H' n hlt, fun H'' => ∃ G'' ys, Nx M G H G'' H'' ∧ G'' A = none ∧ H'' A = some (.lst ys) ∧ ys.length ≤ i + 1 ∧ Jv (i + 1) ys G'' H'',
      fun H'' ⟨G'', ys', r⟩ => ⟨ds.length - (i + 1), by omega, rfl, hlt, G'', ys', r⟩, fun v H1 y => ?_⟩
    have hg : ds[i]? = some ds[i] := by simp [hlt]
    obtain ⟨G1, n1, d1⟩ := S.yld i _ G' H' v H1 n hg y
    have n2 : Nx M G H G1 H1 := n.trans n1.pure
    have gA1 : G1 A = none := n1.old A gA ⟨_, hys, fun _ z => nomatch z⟩
    have hys1 : H1 A = some (.lst ys) := n1.fr A _ (by simp) hys
    refine ⟨wipe1, hs i _ v ys G1 H1 hg d1 n2 hl (jN _ _ _ _ _ _ n1 jv) _ _ (fun y G4 H4 n4 jv' => ?_) (fun G3 H3 n3 jv' => ?_)⟩
    · have gA4 : G4 A = none := n4.old A gA1 ⟨_, hys1, fun _ z => nomatch z⟩
      have hys4 : H4 A = some (.lst ys) := n4.fr A _ hAM hys1
      have n5 : Nx M G H G4 H4 := n2.trans n4
      have n6 : Nx [A] G4 H4 G4 (upd H4 A (.lst (ys ++ [y]))) := Nx.set n4.gh gA4 (by simp)
      have n7 : Nx (A :: M) G H G4 (upd H4 A (.lst (ys ++ [y]))) := (n5.mono fun _ z => List.mem_cons_of_mem _ z).trans (n6.mono fun b z => by simp at z; simp [z])
      exact ⟨ys, hys4, by omega, G4, ys ++ [y], n7.drop hA, gA4, upd_same, by simp; omega, jA _ _ _ _ _ jv'⟩
    · exact ⟨G3, ys, n2.trans n3, n3.old A gA1 ⟨_, hys1, fun _ z => nomatch z⟩, n3.fr A _ hAM hys1, by omega, jv'⟩
  · have e' : i = ds.length := by omega
    subst e'
    exact .inl ⟨S.stop _ G' H' n (Nat.le_refl _), hd G' H' ys jv n gA hys hl⟩
end Y
namespace Y
open PySem PySem.Spec PyProof.Rows L2
section
variable {K : PySem.W.Frag} {G H : Hp} {Q : VK} {p : Addr} {ns : List Str} {i : Int} {L : List PyData}
theorem g_ixLsN (r : LstAt K p G H (ns.map .str)) (h0 : 0 ≤ i) (h1 : i < (ns.length : Int)) (q : ∀ s, s ∈ ns → ns[i.toNat]? = some s → Q (.str s) H) : rIxL K (.ref p) (.int i) H Q := by
  have hl : i.toNat < ns.length := by omega
  refine g_ixLs (k := i.toNat) (d := .str ns[i.toNat]) r (by rw [List.getElem?_map, List.getElem?_eq_getElem hl]; rfl) (by omega) fun v dv => ?_
  cases dp_str dv
  exact q _ (List.getElem_mem hl) (by simp [hl])
theorem g_ixLsD (r : LstAt K p G H L) (h0 : 0 ≤ i) (h1 : i < (L.length : Int)) (q : ∀ v d, d ∈ L → L[i.toNat]? = some d → Dp K G v d → Q v H) : rIxL K (.ref p) (.int i) H Q := by
  have hl : i.toNat < L.length := by omega
  exact g_ixLs (k := i.toNat) (d := L[i.toNat]) r (by simp [hl]) (by omega) fun v dv => q v _ (List.getElem_mem hl) (by simp [hl]) dv
end
end Y
namespace Y
open PySem PySem.Spec PyProof.Rows L2
/-- a loop over a list that stands, its items told as they are -/
theorem g_forV {K : PySem.W.Frag} {σ : L2.St} {G H : Hp} {D : Ends} {g : TG} {tb : TS} {M : List Addr} {a : Addr} {xs : List V} (ha : H a = some (.lst xs)) (hM : a ∉ M) (e : Ex G H) (Pv : Nat → L2.St → Hp → Hp → Prop) (h0 : Pv 0 σ G H)
    (hs : ∀ i v σ' G' H', xs[i]? = some v → Nx M G H G' H' → Pv i σ' G' H' →
      g v σ' H' fun σ2 H2 => tb { D with nx := fun σ3 H3 => ∃ G3, Nx M G H G3 H3 ∧ Pv (i + 1) σ3 G3 H3, ct := fun σ3 H3 => ∃ G3, Nx M G H G3 H3 ∧ Pv (i + 1) σ3 G3 H3, bk := D.nx } σ2 H2)
    (hd : ∀ σ' G' H', Nx M G H G' H' → Pv xs.length σ' G' H' → D.nx σ' H') : ForW (Itl K a) g tb D σ H := by
  refine ⟨fun i m σ' H' => m = xs.length - i ∧ i ≤ xs.length ∧ ∃ G', Nx M G H G' H' ∧ Pv i σ' G' H', ⟨xs.length, by simp, Nat.zero_le _, G, Nx.refl e, h0⟩, ?_⟩
  rintro i m σ' H' ⟨rfl, hi, G', n, p⟩
  have hH : H' a = some (.lst xs) := n.fr a _ hM ha
  by_cases hlt : i < xs.length
  · refine .inr ⟨⟨xs, xs[i], .of hH, by simp [hlt]⟩, fun σ3 H3 => ∃ G3, Nx M G H G3 H3 ∧ Pv (i + 1) σ3 G3 H3, fun σ3 H3 ⟨G3, n3, p3⟩ => ⟨xs.length - (i + 1), by omega, rfl, hlt, G3, n3, p3⟩, fun v H1 y => ?_⟩
    obtain ⟨rfl, f⟩ := y
    exact hs i v σ' G' _ (f xs (.of hH)) n p
  · have e' : i = xs.length := by omega
    subst e'
    exact .inl ⟨⟨xs, .of hH, Nat.le_refl _⟩, hd σ' G' H' n p⟩
theorem g_walkV {H : Hp} {K : PySem.W.Frag} {P : Addr → Prop} {a : Addr} {xs : List V} (h : H a = some (.lst xs)) (q : P a) : ∃ b, V.ref a = .ref b ∧ (∃ xs, SqL K H b xs) ∧ P b := ⟨a, rfl, ⟨xs, .of h⟩, q⟩
/-- a known list of texts, just so -/
def KnL (G : Hp) (v : V) (ss : List Str) : Prop := ∃ b, v = .ref b ∧ G b = some (.lst (ss.map V.str))
theorem KnL.ex {G G' : Hp} {v : V} {ss : List Str} (h : KnL G v ss) (e : Ex G G') : KnL G' v ss := by
  obtain ⟨b, rfl, hb⟩ := h
  exact ⟨b, rfl, e _ _ hb⟩
theorem LstAt.knowL {K : PySem.W.Frag} {p : Addr} {G H G0 H0 : Hp} {M : List Addr} {ss : List Str} (r : LstAt K p G H (ss.map .str)) (n : Nx M G0 H0 G H) (h : H0 p = none) : ∃ G', Nx M G0 H0 G' H ∧ Y.Ex G G' ∧ KnL G' (.ref p) ss := by
  obtain ⟨vs, h1, g, d⟩ := r
  rw [dpAll_str_inv d] at h1
  exact ⟨_, n.know h h1 g, Ex.new g, p, rfl, upd_same⟩
theorem g_catK {K : PySem.W.Frag} {G H : Hp} {Q : VK} {p : Addr} {v : V} {ss ts : List Str} (e : Ex G H) (r1 : LstAt K p G H (ss.map .str)) (r2 : KnL G v ts) (hl : ss.length + ts.length ≤ 100000) (q : ∀ r H', Nx [] G H G H' → H r = none → LstAt K r G H' ((ss ++ ts).map .str) → Q (.ref r) H') : rCat (.ref p) v H Q := by
  obtain ⟨xs, h, g, d⟩ := r1
  obtain ⟨b, rfl, h2⟩ := r2
  rw [dpAll_str_inv d] at h
  refine ⟨p, b, _, _, rfl, rfl, h, e _ _ h2, by rw [List.length_map, List.length_map]; exact szle hl, fun r hr => q r _ (Nx.own e hr) hr ⟨_, upd_same, e.free hr, ?_⟩⟩
  rw [← List.map_append]
  exact dpAll_str _
/-- a list of one text, repeated -/
theorem g_repM {K : PySem.W.Frag} {G H : Hp} {Q : VK} {p : Addr} {L : List PyData} {i : Int} (e : Ex G H) (r : LstAt K p G H L) (h0 : 0 ≤ i) (h1 : i < 1000) (hl : L.length ≤ 100) (q : ∀ r H', Nx [] G H G H' → H r = none → LstAt K r G H' (List.replicate i.toNat L).flatten → Q (.ref r) H') : rRep (.ref p) (.int i) H Q := by
  obtain ⟨xs, h, g, d⟩ := r
  have hb : xs.length * i.toNat ≤ 100 * 1000 := Nat.mul_le_mul (by rw [dpAll_len d]; exact hl) (by omega)
  exact ⟨p, i, xs, rfl, rfl, h, by omega, by omega, Nat.le_trans hb (by rw [sizeLine_eq]; decide), fun r hr => q r _ (Nx.own e hr) hr ⟨_, upd_same, e.free hr, dpAll_rep d _⟩⟩
end Y
namespace Y
open PySem PySem.Spec PyProof.Rows L2
def rInsert : V → List V → Hp → VK → Prop := fun x vs H Q => ∃ (l : Addr) (xs : List V) (i : Int) (y : V), x = .ref l ∧ vs = [.int i, y] ∧ H l = some (.lst xs) ∧ xs.length < sizeLine ∧ 0 ≤ i ∧ i < 2 ^ 63 ∧ Q .non (upd H l (.lst (xs.take i.toNat ++ [y] ++ xs.drop i.toNat)))
theorem mt_insert {X : Cx} : MtR X "list.insert" rInsert := L2.mt_insert
section
variable {K : PySem.W.Frag} {G H : Hp} {Q : VK} {p : Addr} {L : List PyData} {y : V} {d : PyData}
theorem g_insLs {k : Nat} {i : Int} (e : Ex G H) (r : LstAt K p G H L) (dy : Dp K G y d) (hl : L.length < 100000) (hj : i = (k : Int)) (hk : k < 1000) (q : ∀ H', Nx [p] G H G H' → LstAt K p G H' (L.take k ++ [d] ++ L.drop k) → Q .non H') : rInsert (.ref p) [.int i, y] H Q := by
  obtain ⟨xs, h, g, da⟩ := r
  subst hj
  refine ⟨p, xs, _, y, rfl, rfl, h, by rw [dpAll_len da]; exact szl (by omega), by omega, by omega, q _ (Nx.set e g (by simp)) ⟨_, upd_same, g, ?_⟩⟩
  rw [show (k : Int).toNat = k by omega]
  exact dpAll_app (dpAll_app (dpAll_take k da) (.cons dy .nil)) (dpAll_drop k da)
theorem cut_m1 (xs : List V) : cutV xs none (some (-1)) = xs.take (xs.length - 1) := by
  unfold cutV
  rw [HT.sIx_none, List.drop_zero, Nat.sub_zero]
  congr 1
  show (if (-1 : Int) < 0 then ((-1 : Int) + (xs.length : Int)).toNat else min (-1 : Int).toNat xs.length) = _
  rw [if_pos (by decide)]
  omega
theorem g_repLs {i : Int} (e : Ex G H) (r : LstAt K p G H L) (h0 : 0 ≤ i) (h1 : i < 1000) (hl : L.length ≤ 100) (q : ∀ r H', Nx [] G H G H' → H r = none → LstAt K r G H' (List.replicate i.toNat L).flatten → Q (.ref r) H') : rRep (.ref p) (.int i) H Q := g_repM e r h0 h1 hl q
end
end Y

namespace Y
open PySem PySem.Spec PyProof.Rows L2
/-! ### d.update(e) -/
def rUpd : V → List V → Hp → VK → Prop := fun x xs H Q => ∃ (d o : Addr) (kvs more : List (Key × V)), x = .ref d ∧ xs = [.ref o] ∧ H d = some (.dK kvs) ∧ H o = some (.dK more) ∧ d ≠ o ∧ kvs.length + more.length ≤ sizeLine ∧ Q .non (upd H d (.dK (mergeK kvs more)))
theorem mt_update {X : Cx} : MtR X "dict.update" rUpd := by
  intro pins s σ H x xs v us Q I rx rxs h
  obtain ⟨d, o, kvs, more, rfl, rfl, hd, ho, hne, hz, q⟩ := h
  cases rx
  cases rxs with
  | cons ru rn =>
    cases rn
    cases ru
    obtain ⟨z, h0, vs, rel, dd⟩ := dk_of I.hok hd
    obtain ⟨z2, h02, vs2, rel2, dd2⟩ := dk_of I.hok ho
    refine call_meetsIn PySem.F.slot_dict_update dd.typeIs PySem.F.entry_dict_update (PySem.F.args_dict_update_2 _ _) (meets_dict_update (mixKind X.prog X.w) d o hne h02) ⟨vs, vs2, dd, dd2, by rw [← rel.length, ← rel2.length]; exact hz, fun h' dd' _ hs => ?_⟩
    have he : ∃ q, h'.get? d = some q := let ⟨q, _, _, hq, _⟩ := dd'; ⟨q, hq⟩
    exact ⟨.non, _, d_write (t' := s.toks) I (by rw [hd]; exact True.intro) hs he (dk_new (Nat.le_trans (length_mergeK more kvs) hz) h0 (KV.merge rel2 rel) dd'), rfl, q⟩
theorem keys_merge {κ : Type} [DecidableEq κ] (k : κ) : ∀ {more kvs : List (κ × V)}, k ∈ ((more.foldl (fun acc kv => putK acc kv.1 kv.2) kvs).map (·.1)) ↔ k ∈ kvs.map (·.1) ∨ k ∈ more.map (·.1)
  | [], kvs => by simp
  | p :: r, kvs => by
    rw [List.foldl_cons, keys_merge k (more := r)]
    have e : (putK kvs p.1 p.2).map (·.1) = if p.1 ∈ kvs.map (·.1) then kvs.map (·.1) else kvs.map (·.1) ++ [p.1] := keys_ptM (m := kvs)
    rw [e, List.map_cons, List.mem_cons]
    split
    · rename_i h
      constructor
      · rintro (h1 | h1)
        · exact .inl h1
        · exact .inr (.inr h1)
      · rintro (h1 | h1 | h1)
        · exact .inl h1
        · exact .inl (h1 ▸ h)
        · exact .inr h1
    · rw [List.mem_append, List.mem_singleton, or_assoc]
/-- a dict whose keys alone are told -/
def KeysAt (d : Addr) (G H : Hp) (n : Nat) (S : Key → Prop) : Prop := ∃ kvs, H d = some (.dK kvs) ∧ G d = none ∧ kvs.length ≤ n ∧ ∀ k, k ∈ kvs.map (·.1) ↔ S k
section
variable {K : PySem.W.Frag} {G H G' H' : Hp} {Q : VK} {d o : Addr} {n m : Nat} {S S' : Key → Prop} {M : List Addr} {md : List (Key × PyData)} {k : Key} {y : V}
theorem KeysAt.go (r : KeysAt d G H n S) (x : Nx M G H G' H') (hd : d ∉ M) : KeysAt d G' H' n S := by
  obtain ⟨kvs, h, g, r⟩ := r
  exact ⟨kvs, x.fr d _ hd h, x.old d g ⟨_, h, fun _ z => nomatch z⟩, r⟩
theorem KeysAt.live (r : KeysAt d G H n S) : H d ≠ none := by
  obtain ⟨kvs, h1, _⟩ := r
  rw [h1]; exact fun z => nomatch z
theorem DctAt.keys (r : DctAt K d G H md) : KeysAt d G H md.length (fun k => k ∈ md.map (·.1)) := by
  obtain ⟨kvs, h, g, hk, _⟩ := r
  exact ⟨kvs, h, g, by rw [← List.length_map (f := (·.1)), hk, List.length_map]; exact Nat.le_refl _, fun k => by rw [hk]⟩
theorem g_upd (e : Ex G H) (r : KeysAt d G H n S) (r2 : KeysAt o G H m S') (hne : d ≠ o) (hz : n + m ≤ 100000) (q : ∀ H', Nx [d] G H G H' → KeysAt d G H' (n + m) (fun k => S k ∨ S' k) → Q .non H') : rUpd (.ref d) [.ref o] H Q := by
  obtain ⟨kvs, h, g, hl, hk⟩ := r
  obtain ⟨more, h2, g2, hl2, hk2⟩ := r2
  refine ⟨d, o, kvs, more, rfl, rfl, h, h2, hne, szle (by omega), q _ (Nx.set e g (by simp)) ⟨_, upd_same, g, Nat.le_trans (length_mergeK more kvs) (by omega), fun k => ?_⟩⟩
  have e := keys_merge k (more := more) (kvs := kvs)
  rw [hk, hk2] at e
  exact e
theorem g_tyKe {P : Prop} (r : KeysAt d G H n S) (q : P) : tyV K "dict" (.ref d) H ∧ P := by
  obtain ⟨kvs, h, _⟩ := r
  exact ⟨.inr (.inr (.inl ⟨rfl, .inl ⟨kvs, h⟩⟩)), q⟩
theorem valV_keys {kvs : List (Key × V)} : (valV kvs k).isSome = true ↔ k ∈ kvs.map (·.1) := by
  have e : valV kvs k = gtM kvs k := rfl
  rw [e]
  constructor
  · intro h
    exact Classical.byContradiction fun z => by rw [gtM_none.mpr z] at h; cases h
  · intro h
    cases e : gtM kvs k with
    | none => exact absurd h (gtM_none.mp e)
    | some v => rfl
theorem g_keIn {b : Bool} (r : KeysAt d G H n S) (hk : y = kV k) (hb : b = true ↔ S k) (q : Q (.bl b) H) : DInW Q y (.ref d) H := by
  obtain ⟨kvs, h, g, hl, hs⟩ := r
  refine ⟨d, _, rfl, .inl ⟨kvs, k, .inl h, hk, rfl⟩, ?_⟩
  have : (valV kvs k).isSome = b := by rw [Bool.eq_iff_iff, valV_keys, hb]; exact hs k
  rw [this]
  exact q
theorem g_keNi {b : Bool} (r : KeysAt d G H n S) (hk : y = kV k) (hb : b = true ↔ S k) (q : Q (.bl (!b)) H) : DNiW Q y (.ref d) H := by
  obtain ⟨kvs, h, g, hl, hs⟩ := r
  refine ⟨d, _, rfl, .inl ⟨kvs, k, .inl h, hk, rfl⟩, ?_⟩
  have : (valV kvs k).isSome = b := by rw [Bool.eq_iff_iff, valV_keys, hb]; exact hs k
  rw [this]
  exact q
theorem g_keNew (e : Ex G H) (q : ∀ p H', Nx [] G H G H' → H p = none → KeysAt p G H' 0 (fun _ => False) → Q (.ref p) H') : tDNewK σ H Q := g_new fun p hp => q p _ (Nx.own e hp) hp ⟨[], upd_same, e.free hp, Nat.le_refl _, by simp⟩
end
/-! ### {k: v for ..} -/
def DcW (J : It) (g : TG) (tt : TT) (tk tv : TE) (vs : List Nat) (σ : L2.St) (D : Addr) (Q : VK) (H1 : Hp) : Prop := ∃ W : Nat → Nat → Hp → Prop, (∃ m, W 0 m (upd H1 D (.dK []))) ∧ ∀ i m H, W i m H →
  (J.stop i H ∧ Q (.ref D) H) ∨ (J.go i H ∧ ∃ Nx : Hp → Prop, (∀ H', Nx H' → ∃ m', m' < m ∧ W (i + 1) m' H') ∧ ∀ x H', J.yld i H x H' → g x (wipe σ vs) H' fun σ2 H2 => wipe σ2 vs = wipe σ vs ∧ tt σ2 H2 fun b H3 =>
    if b = true then tk σ2 H3 fun y H4 => tv σ2 H4 fun z H5 => ∃ kvs k, y = kV k ∧ H5 D = some (.dK kvs) ∧ kvs.length < sizeLine ∧ Nx (upd H5 D (.dK (putK kvs k z))) else Nx H3)
theorem g_dc {wi : TI} {g : TG} {tt : TT} {tk tv : TE} {vs : List Nat} {σ : L2.St} {H : Hp} {Q : VK} (q : wi σ H fun J H1 => ∀ D, H1 D = none → DcW J g tt tk tv vs σ D Q H1) : tDc wi g tt tk tv vs σ H Q := q
/-- .. over one name -/
theorem g_dcC {K : PySem.W.Frag} {σ : L2.St} {G H : Hp} {Q : VK} {tk tv : TE} {tt : TT} {J : It} {M : List Addr} {ds : List PyData} {A : Addr} {j : Nat} (S : Src K M J G H ds) (e : Ex G H) (hA : H A = none) (hM : ∀ b ∈ M, H b ≠ none) (hz : ds.length < 100000) (Jv : Nat → List (Key × V) → Hp → Hp → Prop)
    (jA : ∀ i kvs G' H' o, Jv i kvs G' H' → Jv i kvs G' (upd H' A o)) (jN : ∀ i kvs G' H' G1 H1, Nx [] G' H' G1 H1 → Jv i kvs G' H' → Jv i kvs G1 H1) (j0 : Jv 0 [] G H)
    (hs : ∀ i d v kvs G' H', ds[i]? = some d → Dp K G' v d → Nx M G H G' H' → H' A ≠ none → Jv i kvs G' H' → ∀ (QE : V → V → Hp → Prop) (QN : Hp → Prop),
      (∀ y z k G4 H4, y = kV k → Nx M G' H' G4 H4 → Jv (i + 1) (putK kvs k z) G4 H4 → QE y z H4) → (∀ G3 H3, Nx M G' H' G3 H3 → Jv (i + 1) kvs G3 H3 → QN H3) →
      tt ((wipe σ [j]).set j (some v)) H' fun b H3 => if b = true then tk ((wipe σ [j]).set j (some v)) H3 fun y H4 => tv ((wipe σ [j]).set j (some v)) H4 fun z H5 => QE y z H5 else QN H3)
    (hd : ∀ G' H' kvs, Jv ds.length kvs G' H' → Nx M G H G' H' → G' A = none → H' A = some (.dK kvs) → kvs.length ≤ ds.length → Q (.ref A) H') : DcW J (gName j) tt tk tv [j] σ A Q H := by
  have st0 : Nx [] G H G (upd H A (.dK [])) := Nx.own e hA
  have hAM : A ∉ M := fun z => hM A z hA
  refine ⟨fun i m H' => m = ds.length - i ∧ i ≤ ds.length ∧ ∃ G' kvs, Nx M G H G' H' ∧ G' A = none ∧ H' A = some (.dK kvs) ∧ kvs.length ≤ i ∧ Jv i kvs G' H',
    ⟨ds.length, by simp, Nat.zero_le _, G, [], st0.pure, e.free hA, upd_same, Nat.le_refl _, jA _ _ _ _ _ j0⟩, ?_⟩
  rintro i m H' ⟨rfl, hi, G', kvs, n, gA, hys, hl, jv⟩
  by_cases hlt : i < ds.length
  · refine .inr ⟨S.go i G' H' n hlt, fun H'' => ∃ G'' kvs, Nx M G H G'' H'' ∧ G'' A = none ∧ H'' A = some (.dK kvs) ∧ kvs.length ≤ i + 1 ∧ Jv (i + 1) kvs G'' H'',
      fun H'' ⟨G'', kvs', r⟩ => ⟨ds.length - (i + 1), by omega, rfl, hlt, G'', kvs', r⟩, fun v H1 y => ?_⟩
    have hg : ds[i]? = some ds[i] := by simp [hlt]
    obtain ⟨G1, n1, d1⟩ := S.yld i _ G' H' v H1 n hg y
    have n2 : Nx M G H G1 H1 := n.trans n1.pure
    have gA1 : G1 A = none := n1.old A gA ⟨_, hys, fun _ z => nomatch z⟩
    have hys1 : H1 A = some (.dK kvs) := n1.fr A _ (by simp) hys
    refine ⟨wipe1, hs i _ v kvs G1 H1 hg d1 n2 (by rw [hys1]; exact fun z => nomatch z) (jN _ _ _ _ _ _ n1 jv) (fun y z H5 => ∃ kvs k, y = kV k ∧ H5 A = some (.dK kvs) ∧ kvs.length < sizeLine ∧ _) _ (fun y z k G4 H4 ey n4 jv' => ?_) (fun G3 H3 n3 jv' => ?_)⟩
    · have gA4 : G4 A = none := n4.old A gA1 ⟨_, hys1, fun _ z => nomatch z⟩
      have hys4 : H4 A = some (.dK kvs) := n4.fr A _ hAM hys1
      have n5 : Nx M G H G4 H4 := n2.trans n4
      have n6 : Nx [A] G4 H4 G4 (upd H4 A (.dK (putK kvs k z))) := Nx.set n4.gh gA4 (by simp)
      have n7 : Nx (A :: M) G H G4 (upd H4 A (.dK (putK kvs k z))) := (n5.mono fun _ z => List.mem_cons_of_mem _ z).trans (n6.mono fun b z => by simp at z; simp [z])
      exact ⟨kvs, k, ey, hys4, szl (by omega), G4, putK kvs k z, n7.drop hA, gA4, upd_same, Nat.le_trans (len_ptM (m := kvs)) (by omega), jA _ _ _ _ _ jv'⟩
    · exact ⟨G3, kvs, n2.trans n3, n3.old A gA1 ⟨_, hys1, fun _ z => nomatch z⟩, n3.fr A _ hAM hys1, by omega, jv'⟩
  · have e' : i = ds.length := by omega
    subst e'
    exact .inl ⟨S.stop _ G' H' n (Nat.le_refl _), hd G' H' kvs jv n gA hys hl⟩
/-! ### {k: v} -/
def DiW (Q : VK) (p : Addr) (ps : List (V × V)) (H2 : Hp) : Prop := H2 p = some (.dK []) ∧ ∃ kvs : List (Key × V), ps = kvs.map (fun kv => (kV kv.1, kv.2)) ∧ kvs.length ≤ 15 ∧ Q (.ref p) (upd H2 p (.dK (mergeK [] kvs)))
section
variable {K : PySem.W.Frag} {σ : L2.St} {G H : Hp} {Q : VK} {trs : List (TE × TE)} {tk tv : TE} {p : Addr} {y : V} {R : List (V × V) → Hp → Prop} {k : Key}
theorem g_disp (q : ∀ p, H p = none → tPairs trs σ (upd H p (.dK [])) fun ps H2 => DiW Q p ps H2) : tDisp trs σ H Q := q
theorem g_pair (q : tk σ H fun x H1 => tv σ H1 fun y H2 => tPairs trs σ H2 fun ps H3 => R ((x, y) :: ps) H3) : tPairs ((tk, tv) :: trs) σ H R := q
theorem g_pair0 (q : R [] H) : tPairs [] σ H R := q
theorem g_di1 {x : V} (h : H p = some (.dK [])) (hx : x = kV k) (q : Q (.ref p) (upd H p (.dK [(k, y)]))) : DiW Q p [(x, y)] H := ⟨h, [(k, y)], by rw [hx]; rfl, by show 1 ≤ 15; decide, q⟩
end
/-! ### for k, v in d.items() -/
theorem unlock_nx {M : List Addr} {G H G' H' : Hp} {d : Addr} {u : HO} {od : Obj} (hd : H d = some u) (gd : G d = none) (hM : d ∉ M) (n : Nx M G (upd H d (.frz od u)) G' H') : H' d = some (.frz od u) ∧ G' d = none ∧ Nx M G H G' (upd H' d u) := by
  have h1 : H' d = some (.frz od u) := n.fr d _ hM upd_same
  have h2 : G' d = none := n.old d gd ⟨_, upd_same, fun _ z => nomatch z⟩
  have lv : ∀ b, H b ≠ none → (upd H d (.frz od u)) b ≠ none := fun b hb => by
    by_cases z : b = d
    · subst z; rw [upd_same]; exact fun w => nomatch w
    · rw [upd_ne z]; exact hb
  have ow : ∀ b, Own H b → Own (upd H d (.frz od u)) b := fun b ⟨o, hb, k⟩ => by
    by_cases z : b = d
    · subst z; exact ⟨_, upd_same, fun _ w => nomatch w⟩
    · exact ⟨o, by rw [upd_ne z]; exact hb, k⟩
  refine ⟨h1, h2, n.gg, n.gh.out h2, fun b g hb => n.old b g (ow b hb), fun b hb => ?_, fun b o hb ho => ?_, fun b hb => ?_⟩
  · by_cases z : b = d
    · subst z; rw [upd_same]; exact fun w => nomatch w
    · rw [upd_ne z]; exact n.live b (lv b hb)
  · by_cases z : b = d
    · subst z
      rw [hd] at ho
      cases ho
      exact upd_same
    · rw [upd_ne z]
      exact n.fr b o hb (by rw [upd_ne z]; exact ho)
  · by_cases z : b = d
    · subst z
      obtain ⟨o, e, k⟩ := hb
      rw [hd] at e
      cases e
      exact ⟨_, upd_same, k⟩
    · obtain ⟨o, e, k⟩ := n.nt b (ow b hb)
      exact ⟨o, by rw [upd_ne z]; exact e, k⟩
def kD : Key → PyData
  | .inl i => .int i
  | .inr s => .str s
theorem kD_dp {K : PySem.W.Frag} {G : Hp} (k : Key) : Dp K G (kV k) (kD k) := by
  cases k with
  | inl i => exact .int i
  | inr s => exact .str s
def LockW (t : TS) (D : Ends) (σ : L2.St) (H : Hp) : Prop := ∃ d u, H d = some u ∧ Mut (some u) ∧ ∀ od, t ⟨fun σ' H' => H' d = some (.frz od u) ∧ D.nx σ' (upd H' d u), fun v H' => H' d = some (.frz od u) ∧ D.rt v (upd H' d u), fun σ' H' => H' d = some (.frz od u) ∧ D.bk σ' (upd H' d u), fun σ' H' => H' d = some (.frz od u) ∧ D.ct σ' (upd H' d u)⟩ σ (upd H d (.frz od u))
theorem g_lock {t : TS} {D : Ends} {σ : L2.St} {H : Hp} (q : LockW t D σ H) : tLock t D σ H := q
theorem g_iItems {td : TE} {σ : L2.St} {H : Hp} {R : It → Hp → Prop} (q : td σ H fun x H1 => ∃ d o kvs, x = .ref d ∧ H1 d = some (.frz o (.dK kvs)) ∧ R (Iti d o kvs) H1) : iItems td σ H R := q
/-- the walk over the entries of a dict that stands, by the entries of its data; the dict stays -/
theorem g_forItems {K : PySem.W.Frag} {σ : L2.St} {G H : Hp} {D : Ends} {i0 : Nat} {g : TG} {tb : TS} {M : List Addr} {d : Addr} {md : List (Key × PyData)} (r : DctAt K d G H md) (e : Ex G H) (hM : d ∉ M) (hv : σ[i0]? = some (some (.ref d))) (Pv : Nat → L2.St → Hp → Hp → Prop) (h0 : ∀ (od : Obj) (u : HO), Pv 0 σ G (upd H d (.frz od u)))
    (hs : ∀ i k x v σ' G' H' H0 G1 H1, md[i]? = some (k, x) → Nx M G H0 G' H' → Pv i σ' G' H' → Nx [] G' H' G1 H1 → Dp K G1 v (.tuple [kD k, x]) → ∀ R : L2.St → Hp → Prop, (∀ σ3 G3 H3, Nx M G H0 G3 H3 → Pv (i + 1) σ3 G3 H3 → R σ3 H3) → ∀ D' : Ends, D'.nx = R → D'.ct = R →
      g v σ' H1 fun σ2 H2 => tb D' σ2 H2)
    (hd : ∀ (σ' : L2.St) (G' H' : Hp) (od : Obj) (u : HO), Nx M G H G' (upd H' d u) → G' d = none → DctAt K d G' (upd H' d u) md → Pv md.length σ' G' H' → D.nx σ' (upd H' d u)) : tLock (tFor (iItems (tVar i0)) g tb) D σ H := by
  obtain ⟨kvs, h, gd, hk, dd⟩ := id r
  have hlen : kvs.length = md.length := by simpa using congrArg List.length hk
  refine ⟨d, _, h, trivial, fun od => ?_⟩
  show ∃ v, σ[i0]? = some (some v) ∧ _
  refine ⟨_, hv, d, od, kvs, rfl, upd_same, ?_⟩
  have st : Ex G (upd H d (.frz od (.dK kvs))) := e.out gd
  refine ⟨fun i m σ' H' => m = kvs.length - i ∧ i ≤ kvs.length ∧ ∃ G', Nx M G (upd H d (.frz od (.dK kvs))) G' H' ∧ Pv i σ' G' H', ⟨kvs.length, by simp, Nat.zero_le _, G, Nx.refl st, h0 _ _⟩, ?_⟩
  rintro i m σ' H' ⟨rfl, hi, G', n, p⟩
  obtain ⟨hf, gd', nu⟩ := unlock_nx h gd hM n
  by_cases hlt : i < kvs.length
  · refine .inr ⟨⟨hf, hlt⟩, fun σ3 H3 => ∃ G3, Nx M G (upd H d (.frz od (.dK kvs))) G3 H3 ∧ Pv (i + 1) σ3 G3 H3, fun σ3 H3 ⟨G3, n3, p3⟩ => ⟨kvs.length - (i + 1), by omega, rfl, hlt, G3, n3, p3⟩, fun v H1 y => ?_⟩
    obtain ⟨T, k, w, hkw, rfl, hT, rfl⟩ := y
    have hmi : md[i]? = some md[i] := by simp [← hlen, hlt]
    obtain ⟨k2, x2⟩ : Key × PyData := md[i]
    have hk1 : (kvs.map (·.1))[i]? = some k := by rw [List.getElem?_map, hkw]; rfl
    have hmk : ∃ x, md[i]? = some (k, x) ∧ Dp K G w x := by
      have h1 : (md.map (·.1))[i]? = some k := by rw [← hk]; exact hk1
      rw [List.getElem?_map] at h1
      obtain ⟨⟨k3, x3⟩, h3, h4⟩ := Option.map_eq_some_iff.mp h1
      simp only at h4
      subst h4
      obtain ⟨x4, h5, d5⟩ := dpAll_got dd (i := i) (v := w) (by rw [List.getElem?_map, hkw]; rfl)
      rw [List.getElem?_map, h3] at h5
      cases h5
      exact ⟨x3, h3, d5⟩
    obtain ⟨x, hx, dx⟩ := hmk
    have h2 := nx_tup (K := K) n.gh (xs := [kV k, w]) (ds := [kD k, x]) (.cons (kD_dp k) (.cons (dp_mono n.gg dx) .nil)) hT
    exact hs i k x _ σ' G' H' _ _ _ hx n p h2.1 h2.2 _ (fun σ3 G3 H3 n3 p3 => ⟨G3, n3, p3⟩) _ rfl rfl
  · have e' : i = md.length := by omega
    subst e'
    refine .inl ⟨⟨hf, by omega⟩, hf, hd σ' G' H' od _ nu gd' ⟨kvs, upd_same, gd', hk, dpAll_mono n.gg dd⟩ p⟩
/-! ### enumerate(list that stands) -/
section
variable {K : PySem.W.Frag} {G H : Hp} {p : Addr} {L : List PyData}
theorem g_walkEs {P : Addr → Prop} (r : LstAt K p G H L) (q : (∀ M, p ∉ M → Src K M (Ite K p) G H (prs 0 L)) → P p) : ∃ a xs, [V.ref p] = [V.ref a] ∧ SqL K H a xs ∧ P a := by
  obtain ⟨xs, h, g, da⟩ := r
  refine ⟨p, xs, rfl, .of h, q fun M hM => ?_⟩
  refine ⟨fun i G' H' n hi => ⟨xs, xs[i]'(by rw [dpAll_len da, ← prs_len 0 L]; exact hi), .of (n.fr p _ hM h), by rw [prs_len] at hi; simp [dpAll_len da, hi]⟩, fun i G' H' n hi => ⟨xs, .of (n.fr p _ hM h), by rw [dpAll_len da, ← prs_len 0 L]; exact hi⟩, fun i d G' H' x H'' n hi y => ?_⟩
  obtain ⟨T, u, rfl, hT, rfl, f⟩ := y
  have hx := f xs (.of (n.fr p _ hM h))
  rw [prs_get] at hi
  cases q : L[i]? with
  | none => rw [q] at hi; cases hi
  | some d0 =>
    rw [q] at hi
    cases hi
    obtain ⟨v, hv, dv⟩ := dpAll_get da q
    rw [hx] at hv
    cases hv
    have h2 := nx_tup (K := K) n.gh (xs := [.int ((i : Nat) : Int), u]) (ds := [.int ((0 + i : Nat) : Int), d0]) (by rw [Nat.zero_add]; exact .cons (.int _) (.cons (dp_mono n.gg dv) .nil)) hT
    exact ⟨_, h2.1, h2.2⟩
end
/-! ### a constant tuple of ints of the module -/
end Y
namespace Y
open PySem PySem.Spec PyProof.Rows L2
theorem vals_ints : ∀ {ns : List Int} {vs : List Value}, vs.map (fun v => match v with | .int i _ => some i | _ => none) = ns.map some → Vals (ns.map V.int) vs
  | [], [], _ => .nil
  | [], _ :: _, h => by simp at h
  | _ :: _, [], h => by simp at h
  | n :: ns, v :: vs, h => by
    simp only [List.map_cons, List.cons.injEq] at h
    obtain ⟨h1, h2⟩ := h
    refine .cons ?_ (vals_ints h2)
    split at h1
    · cases h1
      exact ⟨_, rfl⟩
    · cases h1
theorem tupB_ok {K : PySem.W.Frag} {a : Addr} {ns : List Int} {G : Hp} (h : tupB K a ns = true) (hl : ns.length ≤ 100000) : Dp K G (.ref a) (.tuple (ns.map .int)) := by
  unfold tupB at h
  split at h
  · rename_i its n sl e
    have hv := vals_ints (of_decide_eq_true h)
    refine .tup (.inr ⟨_, its, n, e, rfl, rfl, ?_, hv⟩) (dpAll_ints ns)
    have := Paired.length hv
    rw [List.length_map] at this
    have hs : its.size = its.toList.length := Array.length_toList.symm
    rw [hs, ← this]
    exact szle hl
  · cases h
end Y
namespace Y
open PySem PySem.Spec PyProof.Rows L2
/-- name = {k: v for ..} on one line, the name a local -/
theorem ps_setDc {X : Cx} {i : Nat} {y : Str} {py : Pos} {kx vx tg iter : Expr} {ifs : List Expr} {scope : Scope} {own : List (Str × Nat)} {pos spos : Pos} {wi : TI} {g : TG} {tt : TT} {tk tv : TE} (hc : X.calm = true) (nd : X.N.Nodup) (hy : X.N[i]? = some y) (loc : X.env.scope.names.lookup y = some .local)
    (sw : swapsWith (.DictComp kx vx [⟨tg, iter, ifs, 0⟩] scope pos) (some (.Name y py)) spos.line X.env = pure true) (hi : PI X tg iter wi) (ok : BlkOk X.N X.env.scope scope own)
    (hg : ∀ (s : Shared) (H : Hp) (C : Addr) (cl : List (Str × Addr)) (fp : List Addr), PG (X.blk s H scope (compEnvC scope cl C X.env) fp) tg g) (ht : ∀ (s : Shared) (H : Hp) (C : Addr) (cl : List (Str × Addr)) (fp : List Addr), PTs (X.blk s H scope (compEnvC scope cl C X.env) fp) ifs tt)
    (hk : ∀ (s : Shared) (H : Hp) (C : Addr) (cl : List (Str × Addr)) (fp : List Addr), PE (X.blk s H scope (compEnvC scope cl C X.env) fp) kx tk)
    (he : ∀ (s : Shared) (H : Hp) (C : Addr) (cl : List (Str × Addr)) (fp : List Addr), PE (X.blk s H scope (compEnvC scope cl C X.env) fp) vx tv) (hs : ∀ x, foldedSetIterable iter X.env x = pure x := by intro _; rfl) :
    PS X (.Assign [.Name y py] (.DictComp kx vx [⟨tg, iter, ifs, 0⟩] scope pos) spos) (tAsg (tDc wi g tt tk tv (own.map (·.2))) (gName i)) := by
  constructor
  intro pins s σ H D I q0
  rw [exec_Assign_Name_used _ _ _ _ sw]
  refine wpAny_bind (wpAny_standAt (wpAny_bind ?_))
  show wpAny _ X.A (do let _ ← comprehension (.DictComp kx vx [⟨tg, iter, ifs, 0⟩] scope pos) scope X.env (firstIterPos [⟨tg, iter, ifs, 0⟩] pos) newDict false (eval iter X.env) (some (assign (.Name y py) X.env))) _ _ s
  have q1 : tDc wi g tt tk tv (own.map (·.2)) σ H (fun x H1 => gName i x σ H1 D.nx) := q0
  refine wpAny_bind (thn (dc_core (Qf := fun _ s' => SP X pins D .next s') hc nd I hi ok hg ht hk he hs q1 fun L C s' m H' J qq ns fr => ?_) fun _ s' z => wpAny_pure (wpAny_pure z))
  show wpAny _ _ (assign (.Name y py) X.env (.ref L)) _ _ _
  refine wpAny_assign_Name (store_ok2 (v := V.ref L) J nd hy (.inl loc) rfl (fun s2 J2 ⟨a, sb, at_⟩ => ?_) (.inr loc))
  obtain ⟨x0, x1, x2, x3, x4, x5⟩ := fr
  have away : C ≠ a := at_.elim (fun z => by rw [z]; exact x1) fun z w => x4 y a z w.symm
  exact ⟨m, ns.sameBut sb away, fun h3 sb3 => ⟨_, H', J2.turned (t' := s2.toks) (fun b o hb w => (sb3.2 b hb).trans w) x0 x1 x3 x4 x5, qq⟩⟩
theorem sw_trueD {kx vx : Expr} {gs : List Comprehension} {scope : Scope} {pos py : Pos} {y : Str} {l : Nat} {env : Env} (kf : env.scope.kind = .function) (loc : env.scope.names.lookup y = some .local) (hl : (py.line == pos.line) = true)
    (ha : (scope.names.any fun (n, k) => n == y && (k == .local || k == .cell)) = false) : swapsWith (.DictComp kx vx gs scope pos) (some (.Name y py)) l env = pure true := by
  have e1 : env.kindOf y = some .local := loc
  have e2 : env.blockKind = .function := by unfold Env.blockKind; rw [kf]; rfl
  unfold swapsWith
  simp only [e2, e1, ha, Expr.pos, hl]
  rfl
end Y
namespace Y
open PySem PySem.Spec PyProof.Rows L2
theorem g_rawGet {H : Hp} {Q : VK} {d : Addr} {kvs : List (Key × V)} {k : Key} {y v : V} (h : H d = some (.dK kvs)) (hk : y = kV k) (hv : valV kvs k = some v) (q : Q v H) : DGeW Q (.ref d) y H := ⟨d, v, rfl, .inl ⟨kvs, k, .inl h, hk, hv.symm⟩, q⟩
end Y

namespace Y
open PySem PySem.Spec PyProof.Rows L2
/-! ### min(xs, key=len) over a list of tuples: the first of the shortest -/
def rMinLen (K : PySem.W.Frag) : List V → Hp → VK → Prop := fun us H Q => ∃ (a : Addr) (vs : List V) (kf : Nat → Nat), us = [.ref a] ∧ SqL K H a vs ∧ 0 < vs.length ∧
  (∀ i x, vs[i]? = some x → ∃ t xs, x = .ref t ∧ SqT K H t xs ∧ xs.length = kf i) ∧ ∀ i x, vs[i]? = some x → (∀ j, j < vs.length → kf i ≤ kf j ∧ (j < i → kf i < kf j)) → Q x H
def tMinLen (K : PySem.W.Frag) (t : TA) : TE := fun σ H Q => t σ H fun vs H1 => rMinLen K vs H1 Q
section
variable {X : Cx} {pins : List (Addr × Obj)} {σ : List (Option V)} {H : Hp} {s : Shared} {h' : Heap} {m : Str → Option Value} {tk : Nat}
/-- all but this frame's names are kept, and these tell the same -/
theorem inv_same (I : Inv X pins σ H s) (F : Fr X.base X.env.locals s.heap m) (F' : Fr X.base X.env.locals h' m) (k : ∀ b o, b ≠ X.env.locals → s.heap.get? b = some o → h'.get? b = some o) : Inv X pins σ H { s with heap := h', toks := tk } := by
  refine I.step (g' := s.gens) (d' := s.drawn) (ch := []) (fun _ z => nomatch z) (fun b o hb _ _ e _ => k b o hb e) (fun b o hb _ _ e _ => ⟨o.slots, k b o hb e⟩) (fun _ _ _ _ n => n) (fun b o _ e => ?_) (fun _ _ e => e) (fun _ _ _ e => e) (fun _ ps e => ⟨#[], by simpa using e⟩) (fun m' hm => ?_) (fun a o e => ?_) I.bare
  · by_cases hb : b = X.env.locals
    · obtain ⟨o', _, _, ho, _⟩ := F'.ns
      exact ⟨o', hb ▸ ho⟩
    · exact ⟨o, k b o hb e⟩
  · have : m' = m := by
      obtain ⟨o, es, ep, e, d, _, f⟩ := hm
      obtain ⟨o', es', ep', e', d', _, f'⟩ := F.ns
      rw [e] at e'; cases e'
      rw [d] at d'; cases d'
      funext x
      rw [← f x, ← f' x]
    rw [this]
    exact F'.ns
  · refine (I.hok a o e).stay (fun b u c q => k b u (fun z => ?_) q) (fun _ q => q) fun _ _ q => q
    have hf := I.free
    rw [← z] at hf
    rcases c with c | c
    · rw [c, e] at hf; cases hf
    · rw [hf] at c; cases c
theorem vals_back {vs : List V} {us : List Value} {i : Nat} {v : Value} (r : Vals vs us) (h : us[i]? = some v) : ∃ x, vs[i]? = some x ∧ RelV x v := by
  have hi := (List.getElem?_eq_some_iff.mp h).1
  have hl := r.length
  have e : vs[i]? = some vs[i] := by simp [show i < vs.length by omega]
  obtain ⟨u, hu, ru⟩ := r.get e
  rw [h] at hu
  cases hu
  exact ⟨_, e, ru⟩
theorem min_len {us : List V} {ws : List Value} {Q : VK} (hc : X.calm = true) (I : Inv X pins σ H s) (r : Vals us ws) (h : rMinLen X.K us H Q) : wpAny (model X.prog X.w) X.A (call (.builtin "min") ws [(Str.ofString "key", .builtin "len")]) (EP X pins σ Q) X.xe s := by
  obtain ⟨a, vs, kf, rfl, hs, hne, ht, q⟩ := h
  obtain rfl := Vals.ref1 r
  obtain ⟨its, rv, hl, hz⟩ := I.list hs
  obtain ⟨m, F⟩ := I.fr
  have hlen : vs.length = its.length := rv.length
  have keep : ∀ {h : Heap} {more : List (Addr × Obj)}, Fr X.base X.env.locals h m → News X.base X.env.locals h (allNews X.base s.heap X.env.locals ++ more) → ∀ b o, b ≠ X.env.locals → s.heap.get? b = some o → h.get? b = some o := fun {h more} F' N' b o hb e => by
    cases qb : X.base.get? b with
    | some u =>
      have := I.bk b u qb
      rw [e] at this; cases this
      exact F'.keep b _ qb
    | none => exact (N' (b, o) (List.mem_append_left _ (mem_allNews hb qb e))).1
  have keep0 : ∀ {h : Heap}, Fr X.base X.env.locals h m → News X.base X.env.locals h (allNews X.base s.heap X.env.locals) → ∀ b o, b ≠ X.env.locals → s.heap.get? b = some o → h.get? b = some o := fun {h} F' N' => keep (more := []) F' (by rw [List.append_nil]; exact N')
  have notL : ∀ {b : Addr} {o : Obj} {es : Array Value} {n : Nat}, s.heap.get? b = some o → o.data = .seq es n → b ≠ X.env.locals := fun {b o es n} e d z => by
    obtain ⟨o', es', ep', e', d', _⟩ := F.ns
    rw [← z, e] at e'; cases e'
    rw [d] at d'; cases d'
  refine kmb_min (h₀ := X.base) (L := X.env.locals) (m := m) (news := allNews X.base s.heap X.env.locals) (vs := its) (fun i => (kf i : Int)) (I.ok.hd hc) F news_all (fun h F' N' => ?_) (by omega) (fun i v hv h tk own F' N' => ?_) fun i v h' tk' hv hb F' N' => ?_
  · obtain ⟨o, e, c, n, d⟩ := hl.isList
    exact ⟨o, keep0 F' N' _ _ (notL e d) e, c, n, d⟩
  · obtain ⟨x, hx, rx⟩ : ∃ x, vs[i]? = some x ∧ RelV x v := vals_back rv hv
    obtain ⟨t, xs, rfl, hT, hk⟩ := ht i x hx
    obtain ⟨jts, rj, ⟨o, e, c, n, d⟩, hz2⟩ := I.tuple hT
    cases rx
    have hjl : jts.length = kf i := by rw [← hk]; exact rj.length.symm
    have key : (kf i : Int) = ((jts.toArray.size : Nat) : Int) := by rw [List.size_toArray, hjl]
    rw [key]
    exact len_tuple (s := { s with heap := h, toks := tk }) (items := jts.toArray) ⟨o, keep F' N' _ _ (notL e d) e, c, n, d⟩ (by rw [List.size_toArray, hjl, ← hk]; have := hz2; rw [sizeLine_eq] at this; omega) (KskEnd.intro F' N' fun _ hp => hp)
  · obtain ⟨x, hx, rx⟩ : ∃ x, vs[i]? = some x ∧ RelV x v := vals_back rv hv
    refine ⟨x, H, inv_same I F F' (keep0 F' N'), rx, q i x hx fun j hj => ?_⟩
    have := hb j (by omega)
    exact ⟨by omega, fun z => by have := this.2 z; omega⟩
theorem pe_minLenK {K : PySem.W.Frag} {e : Expr} {p pl kp pos : Pos} {t : TA} (h : X.K = K) (hc : X.calm = true) (hg : Gl X "min") (hm : X.mg "min" = none) (hg2 : Gl X "len") (hm2 : X.mg "len" = none) (ha : PA X [e] t)
    (he : backTo pos (starEach [e] X.env) = (false, eval e X.env) :: backTo pos (starEach [] X.env) := by rfl) (hpl : (backTo pos (starEach [e] X.env)).any (·.1) = false := by rfl)
    (hall : (backToKw pos (keywordEach [⟨some (Str.ofString "key"), .Name "len" pl, kp⟩] X.env)).all (·.1.isSome) = true := by rfl) (hnone : (backToKw pos (keywordEach [⟨some (Str.ofString "key"), .Name "len" pl, kp⟩] X.env)).any (·.1.isNone) = false := by rfl) :
    PE X (.Call (.Name "min" p) [e] [⟨some (Str.ofString "key"), .Name "len" pl, kp⟩] pos) (tMinLen K t) := by
  subst h
  refine ⟨fun pins s σ H Q I h => ?_⟩
  refine wpAny_Call_Name_kw (ld_blt I hg hm (by rfl) ?_)
  refine PyProof.Rows.callWith_kw (thn (ha.run pos pins s σ H _ I h) fun us s1 ⟨vs, H1, I1, r1, q1⟩ => kws_cons (ld_blt I1 hg2 hm2 (by rfl) (kws_nil ?_))) he hpl hall hnone
  exact min_len hc I1 r1 q1
end
end Y
namespace Y
open PySem PySem.Spec PyProof.Rows L2
open RT
/-! ### comprehensions over any target, told items or items as they are -/
structure SrcP (M : List Addr) (J : It) (G H : Hp) (n : Nat) (P : Nat → Hp → V → Prop) : Prop where
  go : ∀ i G' H', Nx M G H G' H' → i < n → J.go i H'
  stop : ∀ i G' H', Nx M G H G' H' → n ≤ i → J.stop i H'
  yld : ∀ i G' H' x H'', Nx M G H G' H' → i < n → J.yld i H' x H'' → ∃ G'', Nx [] G' H' G'' H'' ∧ P i G'' x
section
variable {K : PySem.W.Frag} {σ : L2.St} {G H : Hp} {Q : VK} {te : TE} {tt : TT} {g : TG} {J : It} {M : List Addr} {ds : List PyData} {A : Addr} {n : Nat} {P : Nat → Hp → V → Prop} {js : List Nat}
theorem Src.p (S : Src K M J G H ds) : SrcP M J G H ds.length (fun i G x => ∃ d, ds[i]? = some d ∧ Dp K G x d) where
  go := S.go
  stop := S.stop
  yld := fun i G' H' x H'' nx hi y => by
    have hg : ds[i]? = some ds[i] := by simp [hi]
    obtain ⟨G'', n2, d⟩ := S.yld i _ G' H' x H'' nx hg y
    exact ⟨G'', n2, _, hg, d⟩
/-- the values of a list that stands, as they are -/
theorem src_raw {a : Addr} {vs : List V} (h : H a = some (.lst vs)) (ha : a ∉ M) : SrcP M (Itl K a) G H vs.length (fun i _ x => vs[i]? = some x) where
  go := fun i G' H' n hi => ⟨vs, vs[i], .of (n.fr a _ ha h), by simp [hi]⟩
  stop := fun i G' H' n hi => ⟨vs, .of (n.fr a _ ha h), hi⟩
  yld := fun i G' H' x H'' n hi y => by
    obtain ⟨rfl, f⟩ := y
    exact ⟨G', Nx.refl n.gh, f vs (.of (n.fr a _ ha h))⟩
theorem src_revT {a : Addr} {xs : List V} (hs : SqT K G a xs) (hd : DpAll K G xs ds) : Src K M (ItvT K a xs.length) G H ds.reverse where
  go := fun i G' H' n hi => by
    have hl := dpAll_len hd
    rw [List.length_reverse] at hi
    exact ⟨by omega, xs, xs[xs.length - 1 - i]'(by omega), n.gh.seqT (n.gg.seqT hs), by simp⟩
  stop := fun i G' H' n hi => by
    rw [List.length_reverse, ← dpAll_len hd] at hi
    exact hi
  yld := fun i d G' H' x H'' n hi y => by
    obtain ⟨rfl, f⟩ := y
    have hl := dpAll_len hd
    have hil : i < ds.length := by
      have := (List.getElem?_eq_some_iff.mp hi).1
      rwa [List.length_reverse] at this
    rw [List.getElem?_reverse hil] at hi
    have hx := f xs (n.gh.seqT (n.gg.seqT hs))
    rw [hl] at hx
    obtain ⟨v, hv, dv⟩ := dpAll_get hd hi
    rw [hx] at hv
    cases hv
    exact ⟨G', Nx.refl n.gh, dp_mono n.gg dv⟩
theorem g_lcP (S : SrcP M J G H n P) (e : Ex G H) (hA : H A = none) (hM : ∀ b ∈ M, H b ≠ none) (hz : n < sizeLine) (Jv : Nat → List V → Hp → Hp → Prop)
    (jA : ∀ i acc G' H' o, (H' A = none ∨ ∃ ys, H' A = some (.lst ys)) → Jv i acc G' H' → Jv i acc G' (upd H' A o)) (jN : ∀ i acc G' H' G1 H1, Nx [] G' H' G1 H1 → Jv i acc G' H' → Jv i acc G1 H1) (j0 : Jv 0 [] G H)
    (hs : ∀ i v acc G' H', i < n → P i G' v → Nx M G H G' H' → acc.length ≤ i → Jv i acc G' H' → ∀ (QE : VK) (QN : Hp → Prop),
      (∀ y G4 H4, Nx M G' H' G4 H4 → Jv (i + 1) (acc ++ [y]) G4 H4 → QE y H4) → (∀ G3 H3, Nx M G' H' G3 H3 → Jv (i + 1) acc G3 H3 → QN H3) →
      g v (wipe σ js) H' fun σ2 H2 => wipe σ2 js = wipe σ js ∧ tt σ2 H2 fun b H3 => if b = true then te σ2 H3 QE else QN H3)
    (hd : ∀ G' H' ys, Jv n ys G' H' → Nx M G H G' H' → G' A = none → H' A = some (.lst ys) → ys.length ≤ n → Q (.ref A) H') : LcW J g tt te js σ A Q H := by
  have st0 : Nx [] G H G (upd H A (.lst [])) := Nx.own e hA
  have hAM : A ∉ M := fun z => hM A z hA
  refine ⟨fun i m H' => m = n - i ∧ i ≤ n ∧ ∃ G' ys, Nx M G H G' H' ∧ G' A = none ∧ H' A = some (.lst ys) ∧ ys.length ≤ i ∧ Jv i ys G' H',
    ⟨n, by simp, Nat.zero_le _, G, [], st0.pure, e.free hA, upd_same, Nat.le_refl _, jA _ _ _ _ _ (.inl hA) j0⟩, ?_⟩
  rintro i m H' ⟨rfl, hi, G', ys, nx, gA, hys, hl, jv⟩
  by_cases hlt : i < n
  · refine .inr ⟨S.go i G' H' nx hlt, fun H'' => ∃ G'' ys, Nx M G H G'' H'' ∧ G'' A = none ∧ H'' A = some (.lst ys) ∧ ys.length ≤ i + 1 ∧ Jv (i + 1) ys G'' H'',
      fun H'' ⟨G'', ys', r⟩ => ⟨n - (i + 1), by omega, rfl, hlt, G'', ys', r⟩, fun v H1 y => ?_⟩
    obtain ⟨G1, n1, d1⟩ := S.yld i G' H' v H1 nx hlt y
    have n2 : Nx M G H G1 H1 := nx.trans n1.pure
    have gA1 : G1 A = none := n1.old A gA ⟨_, hys, fun _ z => nomatch z⟩
    have hys1 : H1 A = some (.lst ys) := n1.fr A _ (by simp) hys
    refine hs i v ys G1 H1 hlt d1 n2 hl (jN _ _ _ _ _ _ n1 jv) _ _ (fun y G4 H4 n4 jv' => ?_) (fun G3 H3 n3 jv' => ?_)
    · have gA4 : G4 A = none := n4.old A gA1 ⟨_, hys1, fun _ z => nomatch z⟩
      have hys4 : H4 A = some (.lst ys) := n4.fr A _ hAM hys1
      have n5 : Nx M G H G4 H4 := n2.trans n4
      have n6 : Nx [A] G4 H4 G4 (upd H4 A (.lst (ys ++ [y]))) := Nx.set n4.gh gA4 (by simp)
      have n7 : Nx (A :: M) G H G4 (upd H4 A (.lst (ys ++ [y]))) := (n5.mono fun _ z => List.mem_cons_of_mem _ z).trans (n6.mono fun b z => by simp at z; simp [z])
      exact ⟨ys, hys4, by omega, G4, ys ++ [y], n7.drop hA, gA4, upd_same, by simp; omega, jA _ _ _ _ _ (.inr ⟨_, hys4⟩) jv'⟩
    · exact ⟨G3, ys, n2.trans n3, n3.old A gA1 ⟨_, hys1, fun _ z => nomatch z⟩, n3.fr A _ hAM hys1, by omega, jv'⟩
  · have e' : i = n := by omega
    subst e'
    exact .inl ⟨S.stop _ G' H' nx (Nat.le_refl _), hd G' H' ys jv nx gA hys hl⟩
/-- told items, any target -/
theorem g_lcPS {es : Nat → List PyData} (S : Src K M J G H ds) (e : Ex G H) (hA : H A = none) (hM : ∀ b ∈ M, H b ≠ none) (hz : ds.length < sizeLine) (e0 : es 0 = [])
    (hs : ∀ i d v acc G' H', ds[i]? = some d → Dp K G' v d → Nx M G H G' H' → DpAll K G' acc (es i) → ∀ (QE : VK) (QN : Hp → Prop),
      (∀ y G4 H4 d', Nx M G' H' G4 H4 → Dp K G4 y d' → es (i + 1) = es i ++ [d'] → QE y H4) → (∀ G3 H3, Nx M G' H' G3 H3 → es (i + 1) = es i → QN H3) →
      g v (wipe σ js) H' fun σ2 H2 => wipe σ2 js = wipe σ js ∧ tt σ2 H2 fun b H3 => if b = true then te σ2 H3 QE else QN H3)
    (hd : ∀ G' H', Nx M G H G' H' → LstAt K A G' H' (es ds.length) → Q (.ref A) H') : LcW J g tt te js σ A Q H := by
  refine g_lcP S.p e hA hM hz (fun i acc G' _ => DpAll K G' acc (es i)) (fun _ _ _ _ _ _ h => h) (fun _ _ _ _ _ _ n h => dpAll_mono n.gg h) (by rw [e0]; exact .nil) (fun i v acc G' H' hi hp n _ hj QE QN k1 k2 => ?_) fun G' H' ys hj n g h _ => hd G' H' n ⟨ys, h, g, hj⟩
  obtain ⟨d, hg, dv⟩ := hp
  exact hs i d v acc G' H' hg dv n hj QE QN (fun y G4 H4 d' n4 dy ee => k1 y G4 H4 n4 (by rw [ee]; exact dpAll_snoc (dpAll_mono n4.gg hj) dy)) fun G3 H3 n3 ee => k2 G3 H3 n3 (by rw [ee]; exact dpAll_mono n3.gg hj)
theorem wipe2 {i j : Nat} {a b : V} : wipe (((wipe σ [i, j]).set i (some a)).set j (some b)) [i, j] = wipe σ [i, j] := by
  show (((((σ.set j none).set i none).set i (some a)).set j (some b)).set j none).set i none = (σ.set j none).set i none
  rw [List.set_set, List.set_set]
  by_cases h : i = j
  · subst h; rw [List.set_set, List.set_set, List.set_set]
  · rw [List.set_comm _ _ (Ne.symm h), List.set_set, List.set_comm _ _ h, List.set_set]
end
theorem pi_revAK {X : Cx} {K : PySem.W.Frag} {tg e : Expr} {te : TE} {p pos : Pos} (h : X.K = K) (hg : Gl X "reversed") (hm : X.mg "reversed" = none) (he : PE X e te) (hs : starEach [e] X.env = (false, eval e X.env) :: starEach [] X.env := by rfl) : PI X tg (.Call (.Name "reversed" p) [e] [] pos) (iRevA K te) := h ▸ pi_revA hg hm he hs
theorem g_revT {K : PySem.W.Frag} {G H : Hp} {x : V} {ds : List PyData} {RL RT : Addr → List V → Prop} (e : Ex G H) (h : Dp K G x (.tuple ds)) (q : ∀ a xs, (∀ M, Src K M (ItvT K a xs.length) G H ds.reverse) → RT a xs) : ∃ (a : Addr) (xs : List V), x = .ref a ∧ ((SqL K H a xs ∧ RL a xs) ∨ (SqT K H a xs ∧ RT a xs)) := by
  obtain ⟨a, xs, rfl, hs, hd⟩ := dp_tup h
  exact ⟨a, xs, rfl, .inr ⟨e.seqT hs, q a xs fun M => src_revT hs hd⟩⟩
end Y
namespace Y
open PySem PySem.Spec PyProof.Rows L2 RT
theorem g_iRevA {K : PySem.W.Frag} {σ : L2.St} {H : Hp} {te : TE} {R : It → Hp → Prop} (q : te σ H fun v H1 => ∃ (a : Addr) (xs : List V), v = .ref a ∧ ((SqL K H1 a xs ∧ R (Itv K a xs.length) H1) ∨ (SqT K H1 a xs ∧ R (ItvT K a xs.length) H1))) : iRevA K te σ H R := q
theorem g_minLen {K : PySem.W.Frag} {σ : L2.St} {H : Hp} {t : TA} {Q : VK} (q : t σ H fun vs H1 => rMinLen K vs H1 Q) : tMinLen K t σ H Q := q
end Y
namespace Y
open PySem PySem.Spec PyProof.Rows L2
section
variable {K : PySem.W.Frag} {G H : Hp} {Q : VK} {p b : Addr} {L L' ds : List PyData} {vs xs : List V} {v : V} {i : Nat}
theorem dpAll_back (h : DpAll K G vs ds) (hi : vs[i]? = some v) : ∃ d, ds[i]? = some d ∧ Dp K G v d := by
  have hl := dpAll_len h
  have hi1 := (List.getElem?_eq_some_iff.mp hi).1
  have e : ds[i]? = some (ds[i]'(by omega)) := by simp [show i < ds.length by omega]
  obtain ⟨u, hu, du⟩ := dpAll_get h e
  rw [hi] at hu
  cases hu
  exact ⟨_, e, du⟩
theorem g_extLs (e : Ex G H) (r : LstAt K p G H L) (r2 : LstAt K b G H L') (hl : L.length + L'.length ≤ 100000) (q : ∀ H', Nx [p] G H G H' → LstAt K p G H' (L ++ L') → Q .non H') : rExtend (.ref p) [.ref b] H Q := by
  obtain ⟨xs, h, g, da⟩ := r
  obtain ⟨ys, h2, g2, db⟩ := r2
  exact g_ext h h2 (by rw [dpAll_len da, dpAll_len db]; exact szle hl) (q _ (Nx.set e g (by simp)) ⟨_, upd_same, g, dpAll_app da db⟩)
/-- a tuple of values as they are -/
theorem g_tupRaw (e : Ex G H) (hl : xs.length ≤ sizeLine) (q : ∀ p G' H', Nx [] G H G' H' → H p = none → SqT K G' p xs → Q (.ref p) H') : MkT xs H Q :=
  ⟨hl, fun p hp => q p (upd G p (.tup xs)) _ ((Nx.own e hp).know hp upd_same (e.free hp)) hp (.of upd_same)⟩
/-- the first of the shortest, told: its place -/
theorem g_minLs (h : H p = some (.lst vs)) (e : Ex G H) (d : DpAll K G vs ds) (ns : List (List PyData)) (hd : ds = ns.map .tuple) (hne : 0 < ds.length)
    (q : ∀ (i : Nat) (x : V) (w : List PyData), vs[i]? = some x → ns[i]? = some w → Dp K G x (.tuple w) → (∀ (j : Nat) (u : List PyData), ns[j]? = some u → w.length ≤ u.length ∧ (j < i → w.length < u.length)) → Q x H) : rMinLen K [.ref p] H Q := by
  subst hd
  have hl := dpAll_len d
  have key : ∀ i x, vs[i]? = some x → ∃ w, ns[i]? = some w ∧ Dp K G x (.tuple w) := fun i x hx => by
    obtain ⟨d', hd', dx⟩ := dpAll_back d hx
    rw [List.getElem?_map] at hd'
    obtain ⟨w, hw, rfl⟩ := Option.map_eq_some_iff.mp hd'
    exact ⟨w, hw, dx⟩
  refine ⟨p, vs, fun i => ((ns[i]?).getD []).length, rfl, .of h, by omega, fun i x hx => ?_, fun i x hx hb => ?_⟩
  · obtain ⟨w, hw, dx⟩ := key i x hx
    obtain ⟨t, xs, rfl, hs, da⟩ := dp_tup dx
    exact ⟨t, xs, rfl, e.seqT hs, by show xs.length = ((ns[i]?).getD []).length; rw [hw, dpAll_len da]; rfl⟩
  · obtain ⟨w, hw, dx⟩ := key i x hx
    refine q i x w hx hw dx fun j u hu => ?_
    have hj : j < vs.length := by
      have := (List.getElem?_eq_some_iff.mp hu).1
      rw [List.length_map] at hl
      omega
    have := hb j hj
    simp only [hw, hu, Option.getD_some] at this
    exact this
end
end Y
namespace Y
open PySem PySem.Spec PyProof.Rows L2
section
variable {K : PySem.W.Frag} {G H : Hp} {σ : L2.St} {R : L2.St → Hp → Prop} {t : Addr} {v1 v2 : V} {i j : Nat} {Q : VK}
theorem g_un2R (e : Ex G H) (h : SqT K G t [v1, v2]) (q : R ((σ.set i (some v1)).set j (some v2)) H) : gTup K 2 (gCons (gName i) (gCons (gName j) gNil)) (.ref t) σ H R :=
  ⟨t, _, rfl, e.seqT h, rfl, _, _, rfl, _, _, rfl, rfl, q⟩
end
def mergeM {κ α : Type} [DecidableEq κ] (md more : List (κ × α)) : List (κ × α) := more.foldl (fun acc kv => ptM acc kv.1 kv.2) md
section
variable {K : PySem.W.Frag} {G H : Hp} {Q : VK} {d o : Addr} {md more : List (Key × PyData)}
theorem merge_rel : ∀ {more : List (Key × PyData)} {ks : List (Key × V)} {kvs : List (Key × V)} {md : List (Key × PyData)}, kvs.map (·.1) = md.map (·.1) → DpAll K G (kvs.map (·.2)) (md.map (·.2)) → ks.map (·.1) = more.map (·.1) → DpAll K G (ks.map (·.2)) (more.map (·.2)) →
    (mergeK kvs ks).map (·.1) = (mergeM md more).map (·.1) ∧ DpAll K G ((mergeK kvs ks).map (·.2)) ((mergeM md more).map (·.2))
  | [], [], _, _, h1, h2, _, _ => ⟨h1, h2⟩
  | (k, x) :: more, (k', v) :: ks, kvs, md, h1, h2, h3, h4 => by
    simp only [List.map_cons, List.cons.injEq] at h3
    obtain ⟨rfl, h3⟩ := h3
    cases h4 with
    | cons a t =>
      obtain ⟨p1, p2⟩ := pt_rel (v := v) (x := x) k' a h1 h2
      exact merge_rel (kvs := putK kvs k' v) (md := ptM md k' x) p1 p2 h3 t
theorem mergeM_len : ∀ {more md : List (Key × PyData)}, (mergeM md more).length ≤ md.length + more.length
  | [], _ => by simp [mergeM]
  | p :: more, md => by
    have := mergeM_len (more := more) (md := ptM md p.1 p.2)
    have h2 := len_ptM (m := md) (k := p.1) (a := p.2)
    show (mergeM (ptM md p.1 p.2) more).length ≤ _
    rw [List.length_cons]
    omega
theorem gtM_merge {k : Key} : ∀ {more md : List (Key × PyData)}, gtM (mergeM md more) k = (gtM more.reverse k).or (gtM md k)
  | [], md => by simp [mergeM, gtM]
  | p :: more, md => by
    show gtM (mergeM (ptM md p.1 p.2) more) k = _
    rw [gtM_merge, gtM_ptM, List.reverse_cons, gtM_app, gtM_cons]
    by_cases h : p.1 = k
    · rw [if_pos h, if_pos h]
      cases gtM more.reverse k <;> rfl
    · rw [if_neg h, if_neg h]
      cases gtM more.reverse k <;> rfl
theorem g_updD (e : Ex G H) (r : DctAt K d G H md) (r2 : DctAt K o G H more) (hne : d ≠ o) (hl : md.length + more.length ≤ 100000) (q : ∀ H', Nx [d] G H G H' → DctAt K d G H' (mergeM md more) → Q .non H') : rUpd (.ref d) [.ref o] H Q := by
  obtain ⟨kvs, h, g, hk, dd⟩ := r
  obtain ⟨ks, h2, g2, hk2, dd2⟩ := r2
  have l1 : kvs.length = md.length := by simpa using congrArg List.length hk
  have l2 : ks.length = more.length := by simpa using congrArg List.length hk2
  obtain ⟨m1, m2⟩ := merge_rel hk dd hk2 dd2
  exact ⟨d, o, kvs, ks, rfl, rfl, h, h2, hne, by rw [l1, l2]; exact szle hl, q _ (Nx.set e g (by simp)) ⟨_, upd_same, g, m1, m2⟩⟩
end
end Y
namespace Y
open PySem PySem.Spec PyProof.Rows L2
theorem g_inSd {K : PySem.W.Frag} {G H : Hp} {Q : VK} {v : V} {ss : List Str} {t : Str} (e : Ex G H) (h : Dp K G v (.list (ss.map .str))) (q : Q (.bl (decide (t ∈ ss))) H) : rIn K false (.str t) v H Q := by
  obtain ⟨a, xs, rfl, hs, da⟩ := dp_lst h
  rw [dpAll_str_inv da] at hs
  exact g_inS (neg := false) (e.seqL hs) q
end Y

/-! ### == and != of things that are equal: scalars, tuples, lists, dicts with plain keys and with tuples as keys, nested -/
namespace YQ
open PySem PySem.SeqAt
section
variable {prog : Program} {w : World} {A : Around} {s : Shared}
/-- all pairs of two rows are equal -/
def AllEq (prog : Program) (w : World) (A : Around) (s : Shared) (us ws : Array Value) : Prop := ∀ j (h1 : j < us.size) (h2 : j < ws.size), EqP prog w A.in1 s us[j] ws[j] true
theorem ne_loop {p q : Addr} {us ws : Array Value} {m n : Nat} {d1 d2 : Option Addr} {s1 s2 : Array (Option Value)} (hsz : us.size = ws.size) :
    ∀ (k i : Nat), us.size = i + k → MeetsIn prog w (Builtin.«list.__eq__.loop» ⟨[.ref p, .ref q, rawInt i, rawInt 3], []⟩)
      (fun A R s => (s.heap.get? p = some { cls := .type "list", dict := d1, data := .seq us m, slots := s1 } ∧ s.heap.get? q = some { cls := .type "list", dict := d2, data := .seq ws n, slots := s2 }) ∧ AllEq prog w A s us ws ∧ R (.ok (.ret (.bool false))) s)
  | 0, i, hi => by
    rintro A R ⟨hp, g, d, tk, os⟩ ⟨⟨hl, hb⟩, _, z⟩
    wp_walk using AutoSeq1.wpAny_loadPart' hl, AutoSeq1.wpAny_loadPart' hb
    have a1 : us[((i : Nat) : Int).toNat]? = none := by simp; omega
    have a2 : ws[((i : Nat) : Int).toNat]? = none := by simp; omega
    rw [a1, a2]
    wp_walk using AutoSeq1.wpAny_loadPart' hl, AutoSeq1.wpAny_loadPart' hb
    have e : (us.size != ws.size) = false := by rw [hsz]; simp
    show R (.ok (.ret (.bool (us.size != ws.size)))) _
    rw [e]
    exact z
  | k + 1, i, hi => by
    rintro A R ⟨hp, g, d, tk, os⟩ ⟨⟨hl, hb⟩, he, z⟩
    wp_walk using AutoSeq1.wpAny_loadPart' hl, AutoSeq1.wpAny_loadPart' hb
    have l1 : i < us.size := by omega
    have l2 : i < ws.size := hsz ▸ l1
    have a1 : us[((i : Nat) : Int).toNat]? = some us[i] := by simp [l1]
    have a2 : ws[((i : Nat) : Int).toNat]? = some ws[i] := by simp [l2]
    rw [a1, a2]
    refine wpAny_bind (he i l1 l2 _ _ ?_)
    wp_walk
    have nx : (i : Int) + 1 = ((i + 1 : Nat) : Int) := rfl
    rw [nx]
    refine ⟨plainId_quiet MeetsSeq3.plain_eq_loop _, codeAny_builtin MeetsSeq3.entry_eq_loop ?_⟩
    rw [Around.under_plainId MeetsSeq3.plain_eq_loop _]
    exact ne_loop hsz k (i + 1) (by omega) A R _ ⟨⟨hl, hb⟩, he, z⟩
theorem list_ne {p q : Addr} {us ws : Array Value} {m n : Nat} {d1 d2 : Option Addr} {s1 s2 : Array (Option Value)} (hsz : us.size = ws.size) : MeetsIn prog w (Builtin.«list.__ne__» ⟨[.ref p, .ref q], []⟩)
      (fun A R s => (s.heap.get? p = some { cls := .type "list", dict := d1, data := .seq us m, slots := s1 } ∧ s.heap.get? q = some { cls := .type "list", dict := d2, data := .seq ws n, slots := s2 }) ∧ AllEq prog w A s us ws ∧ R (.ok (.ret (.bool false))) s) := by
  rintro A R ⟨hp, g, d, tk, os⟩ ⟨⟨hl, hb⟩, he, z⟩
  have sub := AutoSeq1.sub_list_list
  have same : ¬ (us.size != ws.size) = true := by rw [hsz]; simp
  wp_walk using AutoSeq1.wpAny_loadPart' hl, AutoSeq1.wpAny_loadPart' hb
  refine ⟨plainId_quiet MeetsSeq3.plain_eq_loop _, codeAny_builtin MeetsSeq3.entry_eq_loop ?_⟩
  rw [Around.under_plainId MeetsSeq3.plain_eq_loop _]
  exact ne_loop hsz us.size 0 (by omega) A R _ ⟨⟨hl, hb⟩, he, z⟩
theorem tup_ne {p q : Addr} {us ws : Array Value} {m n : Nat} {d1 d2 : Option Addr} {s1 s2 : Array (Option Value)} (hsz : us.size = ws.size) : MeetsIn prog w (Builtin.«tuple.__ne__» ⟨[.ref p, .ref q], []⟩)
      (fun A R s => (s.heap.get? p = some { cls := .type "tuple", dict := d1, data := .seq us m, slots := s1 } ∧ s.heap.get? q = some { cls := .type "tuple", dict := d2, data := .seq ws n, slots := s2 }) ∧ AllEq prog w A s us ws ∧ R (.ok (.ret (.bool false))) s) := by
  rintro A R ⟨hp, g, d, tk, os⟩ ⟨⟨hl, hb⟩, he, z⟩
  have sub := AutoSeq1.sub_tuple_tuple
  have zl : (us.toList.zip ws.toList).length = us.size := by simp [hsz]
  wp_walk using AutoSeq1.wpAny_loadPart' hl, AutoSeq1.wpAny_loadPart' hb, wpAny_forIn_list _ (fun todo b s' => b.1 = none ∧ s' = (⟨hp, g, d, tk, os⟩ : Shared) ∧ ∃ i, todo = (us.toList.zip ws.toList).drop i ∧ i ≤ us.size) _
  case turn =>
    rintro ⟨y, x⟩ todo b s' ⟨b1, rfl, i, hz, hi⟩
    have il : i < (us.toList.zip ws.toList).length := Classical.byContradiction fun z => by
      rw [List.drop_of_length_le (by omega)] at hz
      cases hz
    have l1 : i < us.size := zl ▸ il
    have l2 : i < ws.size := hsz ▸ l1
    rw [List.drop_eq_getElem_cons il] at hz
    injection hz with e1 e2
    have ey : y = us[i] := by simpa using congrArg Prod.fst e1
    have ex : x = ws[i] := by simpa using congrArg Prod.snd e1
    subst ey ex
    refine wpAny_bind (he i l1 l2 _ _ ?_)
    wp_walk
    exact ⟨rfl, rfl, i + 1, e2, l1⟩
  case fin =>
    rintro ⟨b1, b2⟩ s' ⟨hb1, rfl, i, hz, hi⟩
    simp only at hb1
    subst hb1
    wp_walk
    have e : (us.size != ws.size) = false := by rw [hsz]; simp
    show R (.ok (.ret (.bool (us.size != ws.size)))) _
    rw [e]
    exact z
  case h => exact ⟨rfl, rfl, 0, rfl, Nat.zero_le _⟩
/-- two rows, equal -/
theorem rcNe_list {p q : Addr} {us ws : Array Value} (hl : s.heap.IsList p us) (hb : s.heap.IsList q ws) (hsz : us.size = ws.size) (hu : A.units < cLine) (he : AllEq prog w A s us ws) (E Q : Value → Shared → Prop) (z : Q (.bool false) s) :
    wpAny (model prog w) A (richCompare .NotEq (.ref p) (.ref q)) Q E s := by
  obtain ⟨⟨c1, d1, a1, s1⟩, ho, h1, n, h2⟩ := hl
  obtain ⟨⟨c2, d2, a2, s2⟩, ho2, h3, n2, h4⟩ := hb
  simp only at h1 h2 h3 h4
  subst h1 h2 h3 h4
  exact wpAny_richCompare_same_room (op := .NotEq) ⟨_, ho, rfl⟩ ⟨_, ho2, rfl⟩ F.slot_list_ne (call_meetsIn F.slot_list_ne ⟨_, ho, rfl⟩ F.entry_list_ne (F.args_list_ne_2 _ _) (list_ne hsz) ⟨⟨ho, ho2⟩, he, (fun x => nomatch x), z⟩) hu
theorem rcNe_tup {p q : Addr} {us ws : Array Value} (hl : s.heap.IsTuple p us) (hb : s.heap.IsTuple q ws) (hsz : us.size = ws.size) (hu : A.units < cLine) (he : AllEq prog w A s us ws) (E Q : Value → Shared → Prop) (z : Q (.bool false) s) :
    wpAny (model prog w) A (richCompare .NotEq (.ref p) (.ref q)) Q E s := by
  obtain ⟨⟨c1, d1, a1, s1⟩, ho, h1, n, h2⟩ := hl
  obtain ⟨⟨c2, d2, a2, s2⟩, ho2, h3, n2, h4⟩ := hb
  simp only at h1 h2 h3 h4
  subst h1 h2 h3 h4
  exact wpAny_richCompare_same_room (op := .NotEq) ⟨_, ho, rfl⟩ ⟨_, ho2, rfl⟩ F.slot_tuple_ne (call_meetsIn F.slot_tuple_ne ⟨_, ho, rfl⟩ F.entry_tuple_ne (F.args_tuple_ne_2 _ _) (tup_ne hsz) ⟨⟨ho, ho2⟩, he, (fun x => nomatch x), z⟩) hu
theorem rcEq_tup {p q : Addr} {us ws : Array Value} (hl : s.heap.IsTuple p us) (hb : s.heap.IsTuple q ws) (hsz : us.size = ws.size) (hu : A.units < cLine) (he : AllEq prog w A s us ws) (E Q : Value → Shared → Prop) (z : Q (.bool true) s) :
    wpAny (model prog w) A (richCompare .Eq (.ref p) (.ref q)) Q E s :=
  GQ.rc_tupG hsz hu (fun _ s' => s' = s) hl hb (fun i h1 h2 s' e => by subst e; exact he i h1 h2 _ _ ⟨rfl, rfl⟩) (fun s' e => by subst e; exact z) rfl
theorem rcEq_list {p q : Addr} {us ws : Array Value} (hl : s.heap.IsList p us) (hb : s.heap.IsList q ws) (hsz : us.size = ws.size) (hu : A.units < cLine) (he : AllEq prog w A s us ws) (E Q : Value → Shared → Prop) (z : Q (.bool true) s) :
    wpAny (model prog w) A (richCompare .Eq (.ref p) (.ref q)) Q E s :=
  rcP_lists (e := fun _ => true) hl hb hsz hu he E Q (by rw [show ((List.range us.size).all fun _ => true) = true from List.all_eq_true.mpr fun _ _ => rfl]; exact z)
/-- dicts, by the walk over their pairs -/
theorem rcNe_dict_of {a b : Addr} (ta : s.TypeIs (.ref a) "dict") (tb : s.TypeIs (.ref b) "dict") (hu : A.units < cLine) (same : ∀ (nm : String) (E : Value → Shared → Prop) (Q : Bool → Shared → Prop), Q true s → wpAny (model prog w) A.in1 (Builtin.Dict.samePairs nm a b) Q E s) (E Q : Value → Shared → Prop) (z : Q (.bool false) s) :
    wpAny (model prog w) A (richCompare .NotEq (.ref a) (.ref b)) Q E s := by
  refine wpAny_richCompare_same_room (op := .NotEq) ta tb F.slot_dict_ne (wpAny_call_entry F.slot_dict_ne ta F.entry_dict_ne ?_ (F.args_dict_ne_2 _ _)) hu
  show wpAny _ _ (Builtin.Dict.dictSlotArgs "__ne__" ⟨[.ref a, .ref b], []⟩ >>= _) _ _ s
  refine wpAny_bind ?_
  unfold Builtin.Dict.dictSlotArgs
  refine wpAny_bind (wpAny_notOrdered_dict ta ?_)
  show wpAny _ _ (pure (Value.ref a, Value.ref b)) _ _ s
  refine wpAny_pure (wpAny_bind (wpAny_isInstance (T := "dict") tb F.sub_dict_dict ?_))
  simp only [Bool.not_true, Bool.false_eq_true, if_false]
  exact wpAny_bind (wpAny_pure (wpAny_bind (wpAny_pure (wpAny_bind (same _ _ _ (wpAny_pure ⟨_, rfl, (fun x => nomatch x), z⟩))))))
theorem rcEq_dict_of {a b : Addr} (ta : s.TypeIs (.ref a) "dict") (tb : s.TypeIs (.ref b) "dict") (hu : A.units < cLine) (same : ∀ (nm : String) (E : Value → Shared → Prop) (Q : Bool → Shared → Prop), Q true s → wpAny (model prog w) A.in1 (Builtin.Dict.samePairs nm a b) Q E s) (E Q : Value → Shared → Prop) (z : Q (.bool true) s) :
    wpAny (model prog w) A (richCompare .Eq (.ref a) (.ref b)) Q E s := by
  refine wpAny_richCompare_same_room (op := .Eq) ta tb F.slot_dict_eq (wpAny_call_entry F.slot_dict_eq ta F.entry_dict_eq ?_ (F.args_dict_eq_2 _ _)) hu
  show wpAny _ _ (Builtin.Dict.dictSlotArgs "__eq__" ⟨[.ref a, .ref b], []⟩ >>= _) _ _ s
  refine wpAny_bind ?_
  unfold Builtin.Dict.dictSlotArgs
  refine wpAny_bind (wpAny_notOrdered_dict ta ?_)
  show wpAny _ _ (pure (Value.ref a, Value.ref b)) _ _ s
  refine wpAny_pure (wpAny_bind (wpAny_isInstance (T := "dict") tb F.sub_dict_dict ?_))
  simp only [Bool.not_true, Bool.false_eq_true, if_false]
  exact wpAny_bind (wpAny_pure (wpAny_bind (wpAny_pure (wpAny_bind (same _ _ _ (wpAny_pure ⟨_, rfl, (fun x => nomatch x), z⟩))))))
/-- two dicts whose keys stand on the heap: every pair of the first has an equal one in the second -/
theorem samePairsH {K : Type} [DecidableEq K] {knd : HeapKind prog w K} {nm : String} {a b : Addr} {ka kb : List (K × Addr × Value)} {Q : Bool → Shared → Prop} {E : Value → Shared → Prop} (ha : (a == sysModules) = false) (hb : (b == sysModules) = false)
    (da : s.heap.DictOfH knd a ka) (db : s.heap.DictOfH knd b kb) (hr : knd.room A) (hl : ka.length = kb.length) (hit : ∀ x ∈ ka, ∃ (j : Nat) (p : Addr × Value), kb[j]? = some (x.1, p) ∧ EqP prog w A s x.2.2 p.2 true) (z : Q true s) :
    wpAny (model prog w) A (Builtin.Dict.samePairs nm a b) Q E s := by
  obtain ⟨oa, ea, na, hoa, _, hda, hka, hisa, _⟩ := da
  obtain ⟨ob, eb, nb, hob, _, hdb, hkb, hisb, hnb⟩ := db
  have la := size_of_entries hka
  have lb := size_of_entries hkb
  unfold Builtin.Dict.samePairs Builtin.Dict.showsAll
  rw [if_neg (by rw [ha]; exact Bool.false_ne_true), if_neg (by rw [hb]; exact Bool.false_ne_true)]
  refine wpAny_bind (wpAny_pure (wpAny_bind (wpAny_pure (wpAny_bind (wpAny_dictEntries hoa hda ?_)))))
  dsimp only
  refine wpAny_bind (wpAny_dictEntries hob hdb ?_)
  rw [if_neg (by rw [la, lb, hl]; simp)]
  refine wpAny_bind (wpAny_dictEpoch hoa hda (wpAny_bind ?_))
  rw [Std.Legacy.Range.forIn_eq_forIn_range']
  simp only [Std.Legacy.Range.size, Nat.sub_zero, Nat.add_sub_cancel, Nat.div_one]
  refine wpAny_forIn_list _ (fun todo st s' => s' = s ∧ st = (none, ()) ∧ ∃ i, i ≤ ea.size ∧ todo = List.range' i (ea.size - i)) _ ?_ ?_ _ _ ⟨rfl, rfl, 0, Nat.zero_le _, by simp⟩
  · rintro x todo st s' ⟨rfl, rfl, i, hi, hx⟩
    have il : i < ea.size := Classical.byContradiction fun q => by
      rw [Nat.sub_eq_zero_of_le (by omega)] at hx
      cases hx
    rw [show ea.size - i = (ea.size - (i + 1)) + 1 by omega, List.range'_succ] at hx
    injection hx with e1 e2
    subst e1
    have xl : x < ka.length := la ▸ il
    have hex : ea[x]? = some (entryOfKey knd ka[x]) := by rw [entry_at hka, List.getElem?_eq_getElem xl]; rfl
    obtain ⟨j0, p0, hj0, heq⟩ := hit ka[x] (List.getElem_mem xl)
    refine wpAny_bind (wpAny_dictEntries hoa hda ?_)
    rw [hex]
    refine wpAny_bind (wpAny_holding (wpAny_bind (wpAny_dictFind_heap hr (hisa _ (List.getElem_mem xl)) hob hdb hkb hisb hnb (fun no => (no j0 p0 hj0).elim) fun j p hj => ?_)))
    have epp : p = p0 := by
      have m1 := List.getElem?_eq_some_iff.mp hj
      have m2 := List.getElem?_eq_some_iff.mp hj0
      obtain ⟨l1, q1⟩ := m1
      obtain ⟨l2, q2⟩ := m2
      have : j = j0 := (List.getElem_inj (i := j) (j := j0) (h₀ := by rw [List.length_map]; exact l1) (h₁ := by rw [List.length_map]; exact l2) hnb).mp (by rw [List.getElem_map, List.getElem_map, q1, q2])
      subst this
      rw [q1] at q2
      exact congrArg Prod.snd q2
    subst epp
    refine wpAny_bind (wpAny_dictEntries hob hdb ?_)
    have hey : eb[j]? = some (entryOfKey knd (ka[x].1, p)) := by rw [entry_at hkb, hj]; rfl
    rw [hey]
    refine wpAny_holding (heq _ _ ?_)
    show wpAny _ _ (if (!true) = true then _ else _) _ _ _
    rw [if_neg (by decide)]
    refine wpAny_bind (wpAny_dictEpoch hoa hda ?_)
    rw [if_neg (by simp)]
    exact wpAny_pure ⟨rfl, rfl, x + 1, il, e2⟩
  · rintro st s' ⟨rfl, rfl, i, hi, hx⟩
    exact wpAny_pure z
end
end YQ
namespace Y
open PySem PySem.Spec PyProof.Rows L2
/-! ### the same over the abstract heap -/
/-- rows of equal things; dicts with equal things at the same keys -/
def EqR2 (K : PySem.W.Frag) (H : Hp) (F : V → V → Prop) (x y : V) : Prop :=
  (∃ a b xs ys, x = .ref a ∧ y = .ref b ∧ SqL K H a xs ∧ SqL K H b ys ∧ Paired F xs ys) ∨ (∃ a b xs ys, x = .ref a ∧ y = .ref b ∧ SqT K H a xs ∧ SqT K H b ys ∧ Paired F xs ys) ∨
    (∃ a b ks ls, x = .ref a ∧ y = .ref b ∧ H a = some (.dK ks) ∧ H b = some (.dK ls) ∧ ks.length = ls.length ∧ ∀ p ∈ ks, ∃ u, valV ls p.1 = some u ∧ F p.2 u) ∨
    ∃ a b ks ls, x = .ref a ∧ y = .ref b ∧ H a = some (.dT ks) ∧ H b = some (.dT ls) ∧ ks.length = ls.length ∧ ∀ p ∈ ks, ∃ u, valV ls p.1 = some u ∧ F p.2 u
/-- equal, nested below n -/
def EqW (K : PySem.W.Frag) (H : Hp) : Nat → V → V → Prop
  | 0 => fun _ _ => False
  | n + 1 => fun x y => (x = y ∧ flatB x = true) ∨ (∃ a, x = .ref a ∧ y = .ref a) ∨ EqR2 K H (EqW K H n) x y
section
variable {X : Cx} {pins : List (Addr × Obj)} {σ : L2.St} {H : Hp} {s : Shared} {A : Around}
theorem allEq_of {F : V → V → Prop} (ih : ∀ x y v u, F x y → RelV x v → RelV y u → SeqAt.EqP X.prog X.w A.in1 s v u true) {xs ys : List V} {us ws : List Value} (hp : Paired F xs ys) (r1 : Vals xs us) (r2 : Vals ys ws) : us.toArray.size = ws.toArray.size ∧ YQ.AllEq X.prog X.w A s us.toArray ws.toArray := by
  refine ⟨by rw [List.size_toArray, List.size_toArray, ← r1.length, ← r2.length]; exact Paired.length hp, fun j h1 h2 => ?_⟩
  have := items_run ih hp r1 r2 j (by simpa using h1) (by simpa using h2)
  simpa using this
theorem same_dK (I : Inv X pins σ H s) {F : V → V → Prop} {a b : Addr} {ks ls : List (Key × V)} (ih : ∀ x y v u, F x y → RelV x v → RelV y u → SeqAt.EqP X.prog X.w A s v u true) (ha : H a = some (.dK ks)) (hb : H b = some (.dK ls)) (hl : ks.length = ls.length) (hp : ∀ p ∈ ks, ∃ u, valV ls p.1 = some u ∧ F p.2 u) :
    (s.TypeIs (.ref a) "dict" ∧ s.TypeIs (.ref b) "dict") ∧ ∀ (nm : String) (E : Value → Shared → Prop) (Q : Bool → Shared → Prop), Q true s → wpAny (model X.prog X.w) A (Builtin.Dict.samePairs nm a b) Q E s := by
  obtain ⟨_, ya, va, ra, da⟩ := dk_of I.hok ha
  obtain ⟨_, yb, vb, rb, db⟩ := dk_of I.hok hb
  refine ⟨⟨da.typeIs, db.typeIs⟩, fun nm E Q q => PySem.W.samePairsP (r := true) ya yb da db (fun _ => hits_run ih rb ra hp) ?_⟩
  have e : va.length = vb.length := by rw [← ra.length, ← rb.length]; exact hl
  rw [e]
  simpa using q
theorem paired_get {α β : Type} {R : α → β → Prop} : ∀ {xs : List α} {ys : List β}, Paired R xs ys → ∀ {i : Nat} (h1 : i < xs.length) (h2 : i < ys.length), R xs[i] ys[i]
  | _, _, .cons h t, 0, _, _ => h
  | _, _, .cons h t, i + 1, h1, h2 => paired_get t (Nat.lt_of_succ_lt_succ h1) (Nat.lt_of_succ_lt_succ h2)
theorem atKey_some {κ α : Type} [DecidableEq κ] {xs : List (κ × α)} {k : κ} {p : α} (h : (xs.find? fun x => decide (x.1 = k)).map (·.2) = some p) : ∃ j : Nat, xs[j]? = some (k, p) := by
  obtain ⟨x, hx, rfl⟩ := Option.map_eq_some_iff.mp h
  obtain ⟨j, hj, e⟩ := List.getElem_of_mem (List.mem_of_find?_eq_some hx)
  have h1 := List.find?_some hx
  rw [decide_eq_true_eq] at h1
  exact ⟨j, by rw [List.getElem?_eq_getElem hj, e, ← h1]⟩
theorem same_dT (I : Inv X pins σ H s) {F : V → V → Prop} {a b : Addr} {ks ls : List (List Key × V)} (hr : (tupleKind (mixKind X.prog X.w)).room A) (ih : ∀ x y v u, F x y → RelV x v → RelV y u → SeqAt.EqP X.prog X.w A s v u true) (ha : H a = some (.dT ks)) (hb : H b = some (.dT ls)) (hl : ks.length = ls.length) (hp : ∀ p ∈ ks, ∃ u, valV ls p.1 = some u ∧ F p.2 u) :
    (s.TypeIs (.ref a) "dict" ∧ s.TypeIs (.ref b) "dict") ∧ ∀ (nm : String) (E : Value → Shared → Prop) (Q : Bool → Shared → Prop), Q true s → wpAny (model X.prog X.w) A (Builtin.Dict.samePairs nm a b) Q E s := by
  obtain ⟨_, ya, va, ra, da⟩ := dt_of I.hok ha
  obtain ⟨_, yb, vb, rb, db⟩ := dt_of I.hok hb
  refine ⟨⟨da.typeIs, db.typeIs⟩, fun nm E Q q => YQ.samePairsH ya yb da db hr (by rw [← Paired.length ra, ← Paired.length rb]; exact hl) (fun x hx => ?_) q⟩
  obtain ⟨i, hi, e⟩ := List.getElem_of_mem hx
  have hil : i < ks.length := by rw [Paired.length ra]; exact hi
  have hpr := paired_get ra hil hi
  rw [e] at hpr
  obtain ⟨h1, _, h3⟩ := hpr
  obtain ⟨u, hu, hF⟩ := hp ks[i] (List.getElem_mem hil)
  have rr : RelO (some u) ((atKey vb ks[i].1).map (·.2)) := by rw [← hu]; exact rb.val _
  obtain ⟨y, hy, ry⟩ := rr.some_of
  obtain ⟨q, hq, rfl⟩ := Option.map_eq_some_iff.mp hy
  obtain ⟨j, hj⟩ := atKey_some hq
  exact ⟨j, q, by rw [← h1]; exact hj, ih _ _ _ _ hF h3 ry⟩
end
section
variable {X : Cx} {pins : List (Addr × Obj)} {σ : L2.St} {H : Hp} {s : Shared}
theorem units_in1 {A : Around} : A.in1.units = A.units + 1 := rfl
theorem eqR2_run (I : Inv X pins σ H s) {A : Around} {F : V → V → Prop} (hu : A.units + 1 < cLine) (ih : ∀ x y v u, F x y → RelV x v → RelV y u → SeqAt.EqP X.prog X.w A.in1 s v u true) {x y : V} {v u : Value} (h : EqR2 X.K H F x y) (rx : RelV x v) (ry : RelV y u) (E Q : Value → Shared → Prop) :
    (Q (.bool true) s → wpAny (model X.prog X.w) A (richCompare .Eq v u) Q E s) ∧ (Q (.bool false) s → wpAny (model X.prog X.w) A (richCompare .NotEq v u) Q E s) := by
  have hu0 : A.units < cLine := by omega
  rcases h with ⟨a, b, xs, ys, rfl, rfl, ha, hb, hp⟩ | ⟨a, b, xs, ys, rfl, rfl, ha, hb, hp⟩ | ⟨a, b, ks, ls, rfl, rfl, ha, hb, hl, hp⟩ | ⟨a, b, ks, ls, rfl, rfl, ha, hb, hl, hp⟩
  all_goals
    cases (show v = Value.ref a from rx)
    cases (show u = Value.ref b from ry)
  · obtain ⟨us, r1, p1, _⟩ := I.list ha
    obtain ⟨ws, r2, p2, _⟩ := I.list hb
    obtain ⟨hsz, he⟩ := allEq_of ih hp r1 r2
    exact ⟨fun q => YQ.rcEq_list p1.isList p2.isList hsz hu0 he E Q q, fun q => YQ.rcNe_list p1.isList p2.isList hsz hu0 he E Q q⟩
  · obtain ⟨us, r1, p1, _⟩ := I.tuple ha
    obtain ⟨ws, r2, p2, _⟩ := I.tuple hb
    obtain ⟨hsz, he⟩ := allEq_of ih hp r1 r2
    exact ⟨fun q => YQ.rcEq_tup p1 p2 hsz hu0 he E Q q, fun q => YQ.rcNe_tup p1 p2 hsz hu0 he E Q q⟩
  · obtain ⟨⟨ta, tb⟩, same⟩ := same_dK I ih ha hb hl hp
    exact ⟨fun q => YQ.rcEq_dict_of ta tb hu0 same E Q q, fun q => YQ.rcNe_dict_of ta tb hu0 same E Q q⟩
  · obtain ⟨⟨ta, tb⟩, same⟩ := same_dT I (tupleKind_room_in1 hu) ih ha hb hl hp
    exact ⟨fun q => YQ.rcEq_dict_of ta tb hu0 same E Q q, fun q => YQ.rcNe_dict_of ta tb hu0 same E Q q⟩
theorem EqR2.refs {K : PySem.W.Frag} {F : V → V → Prop} {x y : V} (h : EqR2 K H F x y) : ∃ a b, x = .ref a ∧ y = .ref b := by
  rcases h with ⟨a, b, _, _, e1, e2, _⟩ | ⟨a, b, _, _, e1, e2, _⟩ | ⟨a, b, _, _, e1, e2, _⟩ | ⟨a, b, _, _, e1, e2, _⟩ <;> exact ⟨a, b, e1, e2⟩
theorem eqW_run (I : Inv X pins σ H s) : ∀ (n : Nat) (A : Around), A.units + n < cLine → ∀ (x y : V) (v u : Value), EqW X.K H n x y → RelV x v → RelV y u → SeqAt.EqP X.prog X.w A s v u true
  | 0, _, _, _, _, _, _, h, _, _ => (show False from h).elim
  | n + 1, A, hu, x, y, v, u, h, rx, ry => by
    rcases h with ⟨rfl, f⟩ | ⟨a, rfl, rfl⟩ | h
    · exact (eqAt_same rx ry f).eqP
    · cases (show v = Value.ref a from rx)
      cases (show u = Value.ref a from ry)
      exact (SeqAt.EqAt.same _).eqP
    · have step := fun E Q => (eqR2_run I (A := A) (by omega) (eqW_run I n A.in1 (by rw [units_in1]; omega)) h rx ry E Q).1
      obtain ⟨a, b, rfl, rfl⟩ := h.refs
      cases (show v = Value.ref a from rx)
      cases (show u = Value.ref b from ry)
      by_cases e : a = b
      · subst e
        exact (SeqAt.EqAt.same _).eqP
      · exact SeqAt.eqP_refs e step
end
section
variable {X : Cx}
/-- x == y, x != y of equal rows, dicts or scalars -/
def rEqW (K : PySem.W.Frag) : R2 := fun x y H Q => ∃ n, n ≤ 60 ∧ (EqR2 K H (EqW K H n) x y ∨ (x = y ∧ scal x y = true)) ∧ Q (.bl true) H
def rNeW (K : PySem.W.Frag) : R2 := fun x y H Q => ∃ n, n ≤ 60 ∧ (EqR2 K H (EqW K H n) x y ∨ (x = y ∧ scal x y = true)) ∧ Q (.bl false) H
theorem op_eqW {K : PySem.W.Frag} (hK : X.K = K) (hu : X.A.units + 64 < cLine) : OpR X (compareOp .Eq) (rEqW K) := by
  subst hK
  rintro pins s σ H x y v u Q I rx ry ⟨n, hn, h | ⟨rfl, h⟩, q⟩
  · exact (eqR2_run I (A := X.A) (by omega) (eqW_run I n X.A.in1 (by rw [units_in1]; omega)) h rx ry _ _).1 ⟨.bl true, H, I, rfl, q⟩
  · exact op_eq pins s σ H x x v u Q I rx ry ⟨h, by rw [decide_eq_true rfl]; exact q⟩
theorem op_neW {K : PySem.W.Frag} (hK : X.K = K) (hu : X.A.units + 64 < cLine) : OpR X (compareOp .NotEq) (rNeW K) := by
  subst hK
  rintro pins s σ H x y v u Q I rx ry ⟨n, hn, h | ⟨rfl, h⟩, q⟩
  · exact (eqR2_run I (A := X.A) (by omega) (eqW_run I n X.A.in1 (by rw [units_in1]; omega)) h rx ry _ _).2 ⟨.bl false, H, I, rfl, q⟩
  · exact op_ne pins s σ H x x v u Q I rx ry ⟨h, by rw [decide_eq_true rfl]; exact q⟩
end
end Y

/-! ### list(reversed(x)), x a list or a tuple -/
namespace YR
open PySem PySem.Spec PySem.Calls PyProof.Rows RT
theorem slot_hint : Slot "reversed" "__length_hint__" "reversed.__length_hint__" :=
  .of (owner := "reversed") (n := "__length_hint__") (by rw [typeLookup_type, builtinLookup_eq_fast]; kernel_rfl) (by decide +kernel) (by decide +kernel) (by decide +kernel)
    (by first | exact .inl (by decide +kernel) | exact .inr (by decide +kernel)) (by rw [isSubtype_type]; kernel_rfl)
theorem entry_hint : entryFor table "reversed.__length_hint__" = some Builtin.«reversed.__length_hint__» := entryFor_of_tree (by kernel_rfl)
theorem args_hint (a : Value) : argsOk "reversed.__length_hint__" ⟨[a], []⟩ := by
  unfold argsOk
  rw [signature?_of (id := "reversed.__length_hint__") (n := ['_', '_', 't', 'n', 'i', 'h', '_', 'h', 't', 'g', 'n', 'e', 'l', '_', '_']) (o := ['d', 'e', 's', 'r', 'e', 'v', 'e', 'r']) (by kernel_rfl) owner_rt]
  kernel_rfl
theorem nolen : typeLookup (.type "reversed") "__len__" = pure none := by rw [typeLookup_type, builtinLookup_eq_fast]; kernel_rfl
section
variable {prog : Program} {w : World} {A : Around} {E : Value → Shared → Prop} {s : Shared}
theorem hint_rt {it t : Addr} {i : Int} {items : Array Value} {Q : Bool → Shared → Prop} (hit : IsRt s.heap it t i) (ht : IsTup s.heap t items) (hi : i = (items.size : Int) - 1) (hz : items.size ≤ sizeLine) (h : ∀ (b : Bool) (tk : Nat), Q b { s with toks := tk }) :
    wpAny (model prog w) A (Builtin.List.listLengthHint (.ref it)) Q E s := by
  obtain ⟨o, ho, hc, hd⟩ := id hit
  rw [sizeLine_eq] at hz
  unfold Builtin.List.listLengthHint
  refine wpAny_bind (wpAny_specialOf hit.typeIs nolen ?_)
  show wpAny _ A (specialOf (Value.ref it) (Str.ofString "__length_hint__") >>= _) _ _ _
  refine wpAny_bind (wpAny_specialOf hit.typeIs slot_hint.lookup ?_)
  generalize hid : ("reversed.__length_hint__" : String) = id0
  wp_delta
  rw [show splitId id0 = some ("reversed", "__length_hint__") from by subst hid; decide +kernel]
  subst hid
  refine wpAny_bind (wpAny_isInstance (b := true) hit.typeIs (by rw [isSubtype_type]; kernel_rfl) ?_)
  refine wpAny_ite_split (fun q => absurd q (by decide)) (fun _ => ?_)
  refine wpAny_ite_split (fun q => absurd q (by decide +kernel)) (fun _ => ?_)
  refine wpAny_bind (wpAny_rule (wpAny_bind ?_))
  rw [slot_hint.bind (.ref it)]
  refine wpAny_pure (wpAny_bind (wpAny_attempt (wpAny_call_entry slot_hint hit.typeIs entry_hint ?_ (args_hint _))))
  unfold Builtin.«reversed.__length_hint__»
  refine wpAny_bind (wpAny_of_eq (a := Value.ref it) rfl ?_)
  refine wpAny_bind (wpAny_field ho hd (x := .ref t) rfl ?_)
  refine wpAny_ite_split (fun q => absurd q (by simp)) (fun _ => ?_)
  refine wpAny_bind (len_tuple (items := items) ht (by omega) ?_)
  refine wpAny_bind (wpAny_of_eq (a := some ((items.size : Nat) : Int)) rfl ?_)
  refine wpAny_bind (wpAny_field (s := { s with toks := s.toks + 1 + 1 }) ho hd (x := rawInt i) rfl ?_)
  subst hi
  show wpAny _ _ (if ((items.size : Nat) : Int) < (items.size : Int) - 1 + 1 then _ else _) _ _ _
  rw [if_neg (by omega)]
  unfold retInt
  refine wpAny_bind (wpAny_mkInt (wpAny_pure ⟨_, rfl, ?_⟩))
  show wpAny _ _ (asInt? (Value.int _ _) >>= _) _ _ _
  refine wpAny_bind (wpAny_of_eq (a := some ((items.size : Int) - 1 + 1)) rfl ?_)
  have e1 : (!Builtin.List.listFitsIndex ((items.size : Int) - 1 + 1)) = false := by
    unfold Builtin.List.listFitsIndex
    simp
    omega
  have e2 : Builtin.List.listTooLong ((items.size : Int) - 1 + 1).toNat = false := by
    unfold Builtin.List.listTooLong
    rw [sizeLine_eq]
    exact decide_eq_false (by omega)
  show wpAny _ _ (if (!Builtin.List.listFitsIndex ((items.size : Int) - 1 + 1)) = true then _ else if ((items.size : Int) - 1 + 1) < 0 then _ else if Builtin.List.listTooLong ((items.size : Int) - 1 + 1).toNat = true then _ else pure (((items.size : Int) - 1 + 1) != 0)) _ _ _
  rw [e1, e2, if_neg Bool.false_ne_true, if_neg (by omega), if_neg Bool.false_ne_true]
  exact wpAny_pure (h _ _)
end
section
variable {prog : Program} {w : World} {A : Around} {E : Value → Shared → Prop} {s : Shared} {T : String} {J : Addr} {fp wr : List Addr} {n : Nat} {P : Nat → Value → Prop} {St : Nat → Heap → Prop}
/-- list(an iterator that stands), from its start -/
theorem list_iter {Q : Value → Shared → Prop} (W : Walks prog w A.in1.in1 J fp wr n P St) (hT : ∀ (z : Shared) i, St i z.heap → z.TypeIs (.ref J) T) (n1 : (Value.type T == Value.type "list") = false) (n2 : (Value.type T == Value.type "tuple") = false)
    (hint : ∀ (z : Shared) (Q : Bool → Shared → Prop) (E : Value → Shared → Prop), St 0 z.heap → (∀ b tk, Q b { z with toks := tk }) → wpAny (model prog w) A.in1.in1 (Builtin.List.listLengthHint (.ref J)) Q E z) (st : St 0 s.heap) (hJ : J ∈ fp) (hfp : ∀ b ∈ fp, b < s.heap.objs.size) (hn : n ≤ sizeLine)
    (hQ : ∀ h' tk acc c, (∀ b o, b ∉ wr → s.heap.get? b = some o → h'.get? b = some o) → h'.get? s.heap.objs.size = some { cls := .type "list", dict := none, data := .seq acc c, slots := #[] } → ItemsOf P acc n → Q (.ref s.heap.objs.size) { s with heap := h', toks := tk }) :
    wpAny (model prog w) A (call (.type "list") [.ref J]) Q E s := by
  obtain ⟨S, hS⟩ : ∃ S, s.heap.objs.size = S := ⟨_, rfl⟩
  rw [hS] at hQ
  have nf : S ∉ fp := fun z => Nat.lt_irrefl S (by have := hfp S z; rwa [hS] at this)
  refine callType_codes (Q₁ := fun o z => o = .ref S ∧ z = { s with heap := s.heap.push { cls := .type "list", data := .seq #[] } }) F.called_list (F.typeCall_list_1 _) F.entry_list_init
    (code_list_new _ ⟨by rw [hS], rfl⟩) ?_
  rintro _ _ ⟨rfl, rfl⟩
  have g1 : (s.heap.push { cls := .type "list", data := .seq #[] }).get? S = some { cls := .type "list", data := .seq #[] } := by rw [← hS]; exact Heap.get?_push_size _ rfl
  have st1 : St 0 (s.heap.push { cls := .type "list", data := .seq #[] }) := W.frame 0 _ _ st fun b _ o e => Heap.get?_push_of_some _ e
  have old1 : ∀ b o, s.heap.get? b = some o → (s.heap.push { cls := .type "list", data := .seq #[] }).get? b = some o := fun b o e => Heap.get?_push_of_some _ e
  have ltS : ∀ b o, s.heap.get? b = some o → b ≠ S := fun b o e z => Nat.lt_irrefl S (by have := Heap.lt_size e; rwa [hS, z] at this)
  generalize s.heap.push { cls := .type "list", data := .seq #[] } = h1 at g1 st1 old1 ⊢
  refine ⟨⟨_, g1, rfl⟩, F.args_list_init_2 _ _, ?_⟩
  show wpAny _ _ (do let old ← Builtin.List.listItems (.ref S); Builtin.List.listUpdate (.ref S) (fun _ => #[]); letGo old.toList.reverse; Builtin.List.listExtendWith (.ref S) (.ref J) .none) _ _ _
  unfold Builtin.List.listItems
  refine wpAny_bind (wpAny_bind (wpAny_seqItems g1 rfl (wpAny_pure ?_)))
  refine wpAny_bind (wpAny_updateSeq g1 rfl ?_)
  have g2 := Heap.get?_update_self (Obj.mapSeq (fun _ => (#[] : Array Value))) g1 rfl
  have old2 : ∀ b o, b ≠ S → h1.get? b = some o → (h1.update S (Obj.mapSeq (fun _ => (#[] : Array Value)))).get? b = some o := fun b o nb e => (Heap.get?_update_other _ _ (Ne.symm nb)).trans e
  have st2 := W.frame 0 _ _ st1 fun b hb o e => old2 b o (fun z => nf (z ▸ hb)) e
  generalize h1.update S (Obj.mapSeq (fun _ => (#[] : Array Value))) = h2 at g2 old2 st2 ⊢
  refine wpAny_bind (wpAny_letGo ?_)
  have fin : ∀ (h3 : Heap) (c₁ tk : Nat), St 0 h3 → (∀ b o, b ≠ S → h2.get? b = some o → h3.get? b = some o) → h3.get? S = some { cls := .type "list", data := .seq #[] c₁ } →
      codeAny (model prog w) A.in1 (.builtin "list.extend.loop" ⟨[.ref S, .ref J, .none], []⟩) (wants (fun r z => r = .none ∧ Q (.ref S) z) E) { s with heap := h3, toks := tk } := by
    intro h3 c₁ tk st3 old3 g3
    refine codeAny_extend_loopS W.toS hn S nf .none n 0 _ #[] c₁ rfl (Nat.zero_le _) st3 g3 (ItemsOf.nil _) fun z acc c hm hz hacc => ⟨rfl, ?_⟩
    rw [Moved.eq_with hm]
    refine hQ z.heap z.toks acc c (fun b o hb e => hm.heap b o (fun hw => ?_) (old3 b o (ltS b o e) (old2 b o (ltS b o e) (old1 b o e)))) hz hacc
    rcases List.mem_cons.mp hw with e2 | e2
    · exact ltS b o e e2
    · exact hb e2
  unfold Builtin.List.listExtendWith
  refine wpAny_bind (wpAny_typeOf (hT _ 0 st2) ?_)
  have d1 : Builtin.List.listSameRef (.ref S) (.ref J) = false := by
    have : S ≠ J := fun z => nf (z ▸ hJ)
    simp [Builtin.List.listSameRef, this]
  simp only [d1, n1, n2, Bool.or_false, Bool.false_eq_true, if_false]
  refine wpAny_bind (W.self 0 _ _ _ st2 (wpAny_bind (wpAny_holding (hint _ _ _ st2 fun b tk => ?_))))
  refine wpAny_ite_split (fun _ => ?_) (fun _ => wpAny_pure ⟨plainId_quiet F.plain_extend_loop _, fin _ _ _ st2 (fun _ _ _ e => e) g2⟩)
  refine wpAny_bind (wpAny_rule (wpAny_bind ?_))
  show wpAny _ _ (updateSeq S (·.push .none) >>= fun _ => updateSeq S (·.pop)) _ _ _
  refine wpAny_bind (wpAny_updateSeq g2 rfl ?_)
  have g3 := Heap.get?_update_self (Obj.mapSeq (·.push Value.none)) g2 rfl
  refine wpAny_updateSeq (hz := by seq_fits) g3 rfl ?_
  have g4 := Heap.get?_update_self (Obj.mapSeq (·.pop)) g3 rfl
  refine wpAny_pure ⟨plainId_quiet F.plain_extend_loop _, fin _ _ _ (W.frame 0 _ _ st2 fun b hb o e => ?_) (fun b o nb e => ?_) g4⟩
  · have nb : b ≠ S := fun z => nf (z ▸ hb)
    exact (Heap.get?_update_other _ _ (Ne.symm nb)).trans ((Heap.get?_update_other _ _ (Ne.symm nb)).trans e)
  · exact (Heap.get?_update_other _ _ (Ne.symm nb)).trans ((Heap.get?_update_other _ _ (Ne.symm nb)).trans e)
end
end YR
namespace YR
open PySem PySem.Spec PySem.Calls PyProof.Rows RT L2
section
variable {prog : Program} {w : World} {A : Around} {E : Value → Shared → Prop} {s : Shared}
/-- the walk of reversed(a tuple) -/
theorem walks_rt {J t : Addr} {items : Array Value} (hh : A.handled = none) (hne : t ≠ J) (hz : items.size ≤ sizeLine) :
    Walks prog w A J [J, t] [J] items.size (fun i v => items[items.size - 1 - i]? = some v) (fun i h => i ≤ items.size ∧ IsRt h J t ((items.size : Int) - 1 - (i : Int)) ∧ IsTup h t items) where
  sub := by simp
  frame := fun i h h' ⟨a, b, c⟩ k => ⟨a, b.at fun o e => k J (by simp) o e, by
    obtain ⟨o, ho, r⟩ := c
    exact ⟨o, k t (by simp) o ho, r⟩⟩
  item := fun i s Q E hi ⟨a, b, c⟩ hQ => by
    have e1 : (items.size : Int) - 1 - (i : Int) = ((items.size - 1 - i : Nat) : Int) := by omega
    rw [e1] at b
    have hx : items[items.size - 1 - i]? = some items[items.size - 1 - i] := by simp [show items.size - 1 - i < items.size by omega]
    refine next_rt_item b c hx hz fun h' b' sb => hQ _ h' _ hx ⟨hi, ?_, ?_⟩ fun q o hq e => (sb.2 q (by simpa using hq)).trans e
    · have e2 : ((items.size - 1 - i : Nat) : Int) - 1 = (items.size : Int) - 1 - ((i + 1 : Nat) : Int) := by omega
      rw [← e2]
      exact b'
    · obtain ⟨o, ho, r⟩ := c
      exact ⟨o, (sb.2 t hne).trans ho, r⟩
  done := fun s Q E ⟨a, b, c⟩ hQ => by
    rw [show (items.size : Int) - 1 - (items.size : Int) = -1 by omega] at b
    exact next_rt_end hh b fun h' eb => hQ h' s.toks fun q o hq e => eb q o (by simpa using hq) e
  self := fun i s Q E ⟨a, b, c⟩ hQ => iter_rt b hQ
theorem hint_lr {J l : Addr} {i : Int} {Q : Bool → Shared → Prop} (hit : s.heap.IsRevIter J l i) (h : Q false s) : wpAny (model prog w) A (Builtin.List.listLengthHint (.ref J)) Q E s := by
  have hT : s.TypeIs (.ref J) "list_reverseiterator" := hit.typeIs
  unfold Builtin.List.listLengthHint
  refine wpAny_bind (wpAny_specialOf hT nolen_lri ?_)
  show wpAny _ A (specialOf (Value.ref J) (Str.ofString "__length_hint__") >>= _) _ _ _
  refine wpAny_bind (wpAny_specialOf hT hint_lri ?_)
  generalize hid : ("list_reverseiterator.__length_hint__" : String) = id0
  wp_delta
  rw [show splitId id0 = some ("list_reverseiterator", "__length_hint__") from by subst hid; decide +kernel]
  subst hid
  refine wpAny_bind (wpAny_isInstance (b := true) hT (by rw [isSubtype_type]; kernel_rfl) (wpAny_pure h))
end
end YR
namespace Y
open PySem PySem.Spec PySem.Calls PyProof.Rows L2 RT
/-- list(reversed(x)) -/
def rListRev (K : PySem.W.Frag) : V → Hp → VK → Prop := fun x H Q => ∃ (a : Addr) (xs : List V), x = .ref a ∧ (SqL K H a xs ∨ SqT K H a xs) ∧ ∀ p, H p = none → Q (.ref p) (upd H p (.lst xs.reverse))
def tListRev (K : PySem.W.Frag) (te : TE) : TE := fun σ H Q => te σ H fun x H1 => rListRev K x H1 Q
theorem pe_listRev {X : Cx} {K : PySem.W.Frag} {e : Expr} {te : TE} {p p2 pos pos2 : Pos} (hK : X.K = K) (hc : X.calm = true) (hg : Gl X "list") (hm : X.mg "list" = none) (hg2 : Gl X "reversed") (hm2 : X.mg "reversed" = none) (he : PE X e te) (hv : bootBuiltins "list" = some (.type "list") := by decide +kernel)
    (hs : starEach [e] X.env = (false, eval e X.env) :: starEach [] X.env := by rfl)
    (hs2 : starEach [.Call (.Name "reversed" p2) [e] [] pos2] X.env = (false, eval (.Call (.Name "reversed" p2) [e] [] pos2) X.env) :: starEach [] X.env := by rfl) :
    PE X (.Call (.Name "list" p) [.Call (.Name "reversed" p2) [e] [] pos2] [] pos) (tListRev K te) := by
  subst hK
  refine ⟨fun pins s σ H Q I h => ?_⟩
  refine Call_ (ld_blt I hg hm hv (PyProof.Rows.callWith_type1 (args_cons (Call_ (ld_blt I hg2 hm2 PyProof.Rows.boot_reversed (PyProof.Rows.callWith_type1 (args_cons (thn (he.run pins s σ H _ I h) fun u s1 ⟨x, H1, I1, rx, q1⟩ => args_nil ?_) hs) hs rfl))) hs2) hs2 rfl))
  obtain ⟨a, xs, ex, hsq, q⟩ := q1
  subst ex
  obtain rfl : u = Value.ref a := rx
  generalize hJ : s1.heap.objs.size = J
  have fJ : FpOk X pins H1 J := I1.fpOk (H' := H1) (by rw [hJ]; exact Nat.le_refl _) (I1.hok.fresh (by rw [hJ]; exact Nat.le_refl _))
  have fin : ∀ {s2 : Shared} {its : List Value} {h' : Heap} {tk c : Nat} {acc : Array Value}, Inv X pins σ H1 s2 → Vals xs its → xs.length ≤ sizeLine → (∀ b o, b ∉ [J] → s2.heap.get? b = some o → h'.get? b = some o) →
      h'.get? s2.heap.objs.size = some { cls := .type "list", dict := none, data := .seq acc c, slots := #[] } → ItemsOf (fun i v => its.toArray[its.toArray.size - 1 - i]? = some v) acc its.toArray.size → EP X pins σ Q (.ref s2.heap.objs.size) { s2 with heap := h', toks := tk } := by
    intro s2 its h' tk c acc I2 rv hz hk hg hi
    refine ⟨.ref _, upd H1 _ (.lst xs.reverse), I2.turnedNew (t' := tk) (ch := [J]) (fun b o hb e => hk b o hb e) (fun b hb => by simp at hb; subst hb; exact fJ) (Nat.le_refl _) (show ObjOk X.prog X.w _ _ _ (.lst xs.reverse) from ⟨by rw [List.length_reverse]; exact hz, acc.toList, c, vals_rev rv hi, ?_⟩), rfl, q _ (I2.hok.fresh (Nat.le_refl _))⟩
    rw [Array.toArray_toList]
    exact hg
  rcases hsq with hsq | hsq
  · obtain ⟨its, rv, p', hz⟩ := I1.list hsq
    have hl := p'.isList
    obtain ⟨ol, hol, _⟩ := id hl
    have hne : a ≠ J := by rw [← hJ]; exact Nat.ne_of_lt (Heap.lt_size hol)
    refine call_reversed_list hl (args_nil ?_)
    have I2 : Inv X pins σ H1 { s1 with heap := s1.heap.push (revObj a ((its.toArray.size : Int) - 1)) } := I1.kept (t' := s1.toks) fun b o e => Heap.get?_push_of_some _ e
    have hn : its.toArray.size ≤ sizeLine := by rw [List.size_toArray, ← rv.length]; exact hz
    rw [hJ]
    refine YR.list_iter (T := "list_reverseiterator") (Walks.listRev (A := X.A.in1.in1) (show X.A.in1.in1.handled = none from I1.ok.hd hc) J a hne its.toArray) (fun z i st => st.2.1.typeIs) (by decide) (by decide) (fun z Q E st h => YR.hint_lr st.2.1 (h false z.toks)) ⟨Nat.zero_le _, ⟨_, by rw [← hJ]; exact Heap.get?_push_size _ rfl, rfl, by simp [revObj]⟩, hl.push _⟩ (by simp) (fun b hb => ?_) hn (fun h' tk acc c hk hg hi => fin I2 rv hz hk hg hi)
    rw [Heap.size_push]
    simp only [List.mem_cons, List.not_mem_nil, or_false] at hb
    rcases hb with rfl | rfl
    · exact hJ ▸ Nat.lt_succ_self _
    · exact Nat.lt_succ_of_lt (Heap.lt_size hol)
  · obtain ⟨its, rv, p', hz⟩ := I1.tuple hsq
    have hl : IsTup s1.heap a its.toArray := p'
    obtain ⟨ol, hol, _⟩ := id hl
    have hne : a ≠ J := by rw [← hJ]; exact Nat.ne_of_lt (Heap.lt_size hol)
    have hn : its.toArray.size ≤ sizeLine := by rw [List.size_toArray, ← rv.length]; exact hz
    have ln := hn
    rw [sizeLine_eq] at ln
    refine call_reversed_tup hl (fun A E Q k => len_tuple hl (by omega) k) (args_nil ?_)
    have I2 : Inv X pins σ H1 { s1 with heap := s1.heap.push (rtObj a ((its.toArray.size : Int) - 1)), toks := s1.toks + 1 + 1 } := I1.kept (t' := s1.toks + 1 + 1) fun b o e => Heap.get?_push_of_some _ e
    rw [hJ]
    refine YR.list_iter (T := "reversed") (YR.walks_rt (A := X.A.in1.in1) (show X.A.in1.in1.handled = none from I1.ok.hd hc) hne hn) (fun z i st => st.2.1.typeIs) (by decide) (by decide) (fun z Q E st h => YR.hint_rt st.2.1 st.2.2 (by simp) hn h) ⟨Nat.zero_le _, ⟨_, by rw [← hJ]; exact Heap.get?_push_size _ rfl, rfl, by simp [rtObj]⟩, ?_⟩ (by simp) (fun b hb => ?_) hn (fun h' tk acc c hk hg hi => fin I2 rv hz hk hg hi)
    · obtain ⟨o, ho, r⟩ := hl
      exact ⟨o, Heap.get?_push_of_some _ ho, r⟩
    · rw [show (Shared.heap { s1 with heap := s1.heap.push (rtObj a ((its.toArray.size : Int) - 1)), toks := s1.toks + 1 + 1 }) = s1.heap.push (rtObj a ((its.toArray.size : Int) - 1)) from rfl, Heap.size_push]
      simp only [List.mem_cons, List.not_mem_nil, or_false] at hb
      rcases hb with rfl | rfl
      · exact hJ ▸ Nat.lt_succ_self _
      · exact Nat.lt_succ_of_lt (Heap.lt_size hol)
end Y
namespace Y
open PySem PySem.Spec PyProof.Rows L2
section
variable {K : PySem.W.Frag} {σ : L2.St} {G H : Hp} {Q : VK} {te : TE} {x : V} {ds : List PyData} {p : Addr}
theorem g_lrev (q : te σ H fun x H1 => rListRev K x H1 Q) : tListRev K te σ H Q := q
theorem dpAll_rev : ∀ {vs : List V} {ds : List PyData}, DpAll K G vs ds → DpAll K G vs.reverse ds.reverse
  | _, _, .nil => .nil
  | _, _, .cons a t => by
    rw [List.reverse_cons, List.reverse_cons]
    exact dpAll_snoc (dpAll_rev t) a
theorem g_lrevT (e : Ex G H) (h : Dp K G x (.tuple ds)) (q : ∀ p H', Nx [] G H G H' → H p = none → LstAt K p G H' ds.reverse → Q (.ref p) H') : rListRev K x H Q := by
  obtain ⟨a, xs, rfl, hs, hd⟩ := dp_tup h
  exact ⟨a, xs, rfl, .inr (e.seqT hs), fun p hp => q p _ (Nx.own e hp) hp ⟨_, upd_same, e.free hp, dpAll_rev hd⟩⟩
theorem g_lrevL (e : Ex G H) (h : Dp K G x (.list ds)) (q : ∀ p H', Nx [] G H G H' → H p = none → LstAt K p G H' ds.reverse → Q (.ref p) H') : rListRev K x H Q := by
  obtain ⟨a, xs, rfl, hs, hd⟩ := dp_lst h
  exact ⟨a, xs, rfl, .inl (e.seqL hs), fun p hp => q p _ (Nx.own e hp) hp ⟨_, upd_same, e.free hp, dpAll_rev hd⟩⟩
theorem g_lrevLs (e : Ex G H) (h : LstAt K p G H ds) (q : ∀ p H', Nx [] G H G H' → H p = none → LstAt K p G H' ds.reverse → Q (.ref p) H') : rListRev K (.ref p) H Q := by
  obtain ⟨xs, hs, g, hd⟩ := h
  exact ⟨p, xs, rfl, .inl (.of hs), fun p hp => q p _ (Nx.own e hp) hp ⟨_, upd_same, e.free hp, dpAll_rev hd⟩⟩
end
end Y

namespace Y
open PySem PySem.Spec PyProof.Rows L2
/-! ### equal things, told by their data -/
section
variable {K : PySem.W.Frag} {G H : Hp}
mutual
theorem eqW_dp : ∀ {v : V} {d : PyData}, Dp K H v d → ∀ {u : V} {n : Nat}, d.depth ≤ n → Dp K H u d → EqW K H (n + 1) v u
  | _, _, .non, u, n, _, h => .inl ⟨by cases h; rfl, rfl⟩
  | _, _, .bl b, u, n, _, h => .inl ⟨by cases h; rfl, rfl⟩
  | _, _, .int i, u, n, _, h => .inl ⟨by cases h; rfl, rfl⟩
  | _, _, .str x, u, n, _, h => .inl ⟨by cases h; rfl, rfl⟩
  | _, _, .lst hs hd, u, n, hn, h => by
    obtain ⟨b, ys, rfl, hs2, hd2⟩ := dp_lst h
    cases n with
    | zero => simp only [PyData.depth] at hn; omega
    | succ n => exact .inr (.inr (.inl ⟨_, _, _, _, rfl, rfl, hs, hs2, eqW_dpAll hd (by simp only [PyData.depth] at hn; omega) hd2⟩))
  | _, _, .tup hs hd, u, n, hn, h => by
    obtain ⟨b, ys, rfl, hs2, hd2⟩ := dp_tup h
    cases n with
    | zero => simp only [PyData.depth] at hn; omega
    | succ n => exact .inr (.inr (.inr (.inl ⟨_, _, _, _, rfl, rfl, hs, hs2, eqW_dpAll hd (by simp only [PyData.depth] at hn; omega) hd2⟩)))
theorem eqW_dpAll : ∀ {vs : List V} {ds : List PyData}, DpAll K H vs ds → ∀ {us : List V} {n : Nat}, PyData.depthAll ds ≤ n → DpAll K H us ds → Paired (EqW K H (n + 1)) vs us
  | _, _, .nil, us, n, _, h => by cases h; exact .nil
  | _, _, .cons a t, us, n, hn, h => by
    cases h with
    | cons b t2 =>
      simp only [PyData.depthAll] at hn
      exact .cons (eqW_dp a (by omega) b) (eqW_dpAll t (by omega) t2)
end
theorem EqW.same {n : Nat} {v : V} (h : flatB v = true) : EqW K H (n + 1) v v := .inl ⟨rfl, h⟩
theorem EqW.r {n : Nat} {v u : V} (h : EqR2 K H (EqW K H n) v u) : EqW K H (n + 1) v u := .inr (.inr h)
/-- two dicts of the same data -/
theorem eqR_dct {a b : Addr} {md : List (Key × PyData)} {n : Nat} (e : Ex G H) (r1 : DctAt K a G H md) (r2 : DctAt K b G H md) (hnd : (md.map (·.1)).Nodup) (hd : ∀ x ∈ md, x.2.depth ≤ n) : EqR2 K H (EqW K H (n + 1)) (.ref a) (.ref b) := by
  obtain ⟨ks, h1, _, k1, d1⟩ := r1
  obtain ⟨ls, h2, _, k2, d2⟩ := r2
  have l1 : ks.length = md.length := by simpa using congrArg List.length k1
  have l2 : ls.length = md.length := by simpa using congrArg List.length k2
  refine .inr (.inr (.inl ⟨a, b, ks, ls, rfl, rfl, h1, h2, by omega, fun p hp => ?_⟩))
  obtain ⟨i, hi, rfl⟩ := List.getElem_of_mem hp
  have him : i < md.length := by omega
  have ek : ks[i].1 = md[i].1 := by
    have := congrArg (fun l => l[i]?) k1
    simp [him, hi] at this
    exact this
  obtain ⟨x, hx, dx⟩ := dpAll_got d1 (i := i) (v := ks[i].2) (by simp [hi])
  have ex : x = md[i].2 := by simp [him] at hx; exact hx.symm
  subst ex
  have hg : gtM md ks[i].1 = some md[i].2 := by
    rw [ek]
    have key : ∀ (m : List (Key × PyData)) (i : Nat) (h : i < m.length), (m.map (·.1)).Nodup → gtM m m[i].1 = some m[i].2 := by
      intro m
      induction m with
      | nil => intro i h; simp at h
      | cons y m ih =>
        intro i h hn
        rw [List.map_cons, List.nodup_cons] at hn
        rw [gtM_cons]
        cases i with
        | zero => simp
        | succ i =>
          simp only [List.getElem_cons_succ]
          have hi2 : i < m.length := by simpa using h
          rw [if_neg (fun z => hn.1 (by rw [z]; exact List.mem_map_of_mem (List.getElem_mem hi2)))]
          exact ih i hi2 hn.2
    exact key md i him hnd
  obtain ⟨u, hu, du⟩ := (gt_rel ks[i].1 k2 d2).1 _ hg
  exact ⟨u, hu, eqW_dp (dp_mono e dx) (hd _ (List.getElem_mem him)) (dp_mono e du)⟩
theorem eqR_tup {a b : Addr} {xs ys : List V} {n : Nat} (e : Ex G H) (h1 : SqT K G a xs) (h2 : SqT K G b ys) (h : Paired (EqW K H n) xs ys) : EqR2 K H (EqW K H n) (.ref a) (.ref b) := .inr (.inl ⟨a, b, xs, ys, rfl, rfl, e.seqT h1, e.seqT h2, h⟩)
theorem g_neW {x y : V} {Q : VK} (n : Nat) (hn : n ≤ 60) (h : EqR2 K H (EqW K H n) x y) (q : Q (.bl false) H) : rNeW K x y H Q := ⟨n, hn, .inl h, q⟩
theorem g_eqW {x y : V} {Q : VK} (n : Nat) (hn : n ≤ 60) (h : EqR2 K H (EqW K H n) x y) (q : Q (.bl true) H) : rEqW K x y H Q := ⟨n, hn, .inl h, q⟩
theorem g_neWs {x : V} {Q : VK} (h : scal x x = true) (q : Q (.bl false) H) : rNeW K x x H Q := ⟨0, by omega, .inr ⟨rfl, h⟩, q⟩
theorem g_eqWs {x : V} {Q : VK} (h : scal x x = true) (q : Q (.bl true) H) : rEqW K x x H Q := ⟨0, by omega, .inr ⟨rfl, h⟩, q⟩
/-- rows that stand, of the same data -/
theorem eqR_lst {a b : Addr} {L : List PyData} {n : Nat} (e : Ex G H) (h1 : LstAt K a G H L) (h2 : LstAt K b G H L) (hd : PyData.depthAll L ≤ n) : EqR2 K H (EqW K H (n + 1)) (.ref a) (.ref b) := by
  obtain ⟨xs, x1, _, d1⟩ := h1
  obtain ⟨ys, y1, _, d2⟩ := h2
  exact .inl ⟨a, b, xs, ys, rfl, rfl, .of x1, .of y1, eqW_dpAll (dpAll_mono e d1) hd (dpAll_mono e d2)⟩
/-- items of a tuple of things that stand -/
theorem g_ixTR {Q : VK} {t : Addr} {xs : List V} {v : V} {i : Int} {k : Nat} (e : Ex G H) (h : SqT K G t xs) (hv : xs[k]? = some v) (hj : i = (k : Int)) (q : Q v H) : rIxT K (.ref t) (.int i) H Q := by
  subst hj
  exact ⟨t, xs, _, v, rfl, rfl, e.seqT h, atI_nat hv, q⟩
theorem g_lenTR {Q : VK} {t : Addr} {xs : List V} (e : Ex G H) (h : SqT K G t xs) (q : Q (.int (xs.length : Int)) H) : rLen K [.ref t] H Q := ⟨t, xs, rfl, .inr (e.seqT h), q⟩
end
end Y
namespace Y
open PySem PySem.Spec PyProof.Rows L2
/-! ### lists, known or standing -/
def LsV (K : PySem.W.Frag) (v : V) (G H : Hp) (L : List PyData) : Prop := ∃ p, v = .ref p ∧ (LstAt K p G H L ∨ Dp K G (.ref p) (.list L))
section
variable {K : PySem.W.Frag} {G H G' H' : Hp} {L : List PyData} {v : V} {p : Addr} {M : List Addr} {Q : VK} {t : Addr} {xs : List V}
theorem LstAt.lsv (r : LstAt K p G H L) : LsV K (.ref p) G H L := ⟨p, rfl, .inl r⟩
theorem LsV.of (h : Dp K G v (.list L)) : LsV K v G H L := by
  obtain ⟨a, vs, rfl, _⟩ := dp_lst h
  exact ⟨a, rfl, .inr h⟩
theorem LsV.go0 (r : LsV K v G H L) (n : Nx [] G H G' H') : LsV K v G' H' L := by
  obtain ⟨p, rfl, r | r⟩ := r
  · exact ⟨p, rfl, .inl (r.go n (by simp))⟩
  · exact ⟨p, rfl, .inr (dp_mono n.gg r)⟩
theorem g_walkV0 {P : Addr → Prop} (e : Ex G H) (r : LsV K v G H L) (q : ∀ p, v = .ref p → Src K [] (Itl K p) G H L → P p) : ∃ b, v = .ref b ∧ (∃ xs, SqL K H b xs) ∧ P b := by
  obtain ⟨p, rfl, r | r⟩ := r
  · exact g_walkLs r fun S => q p rfl (S [] (by simp))
  · obtain ⟨a, xs, ea, hs, hd⟩ := dp_lst r
    cases ea
    exact ⟨p, rfl, ⟨xs, e.seqL hs⟩, q p rfl (src_lst hs hd)⟩
theorem LsV.dp (r : LsV K v G H L) (e : Ex G H) : Dp K H v (.list L) := by
  obtain ⟨p, rfl, r | r⟩ := r
  · exact r.dp e
  · exact dp_mono e r
theorem tyT (h : SqT K H t xs) : TyX K H (.ref t) (.type "tuple") := by
  rcases h with (hs | ⟨o, hs⟩) | ⟨o, its, n, hs, hc, _⟩
  · exact .base (.tup hs)
  · exact .fTuple hs
  · exact .kTuple hs hc
theorem g_isiR (e : Ex G H) (h : SqT K G t xs) (q : Q (.bl true) H) : rIsi K [.ref t, .ty "tuple"] H Q :=
  ⟨.ref t, .ty "tuple", _, _, true, rfl, .ty "tuple", tyT (e.seqT h), kit_ty (by rfl), q⟩
end
end Y

namespace Y
open PySem PySem.Spec PyProof.Rows L2
/-! ### xs[i] op= e over a list -/
def rGetL (K : PySem.W.Frag) : V → V → Hp → VK → Prop := fun o i H Q => ∃ (p : Addr) (xs : List V) (j : Nat) (v : V), o = .ref p ∧ i = .int (j : Int) ∧ SqL K H p xs ∧ xs[j]? = some v ∧ Q v H
theorem get_list {X : Cx} {K : PySem.W.Frag} (hK : X.K = K) : PGet X (rGetL K) := by
  subst hK
  rintro pins s σ H o i ov iv Q I ro ri ⟨p, xs, j, v, rfl, rfl, hs, hv, q⟩
  cases ro
  obtain ⟨t, rfl⟩ := ri
  obtain ⟨its, r, pl, hz⟩ := I.list hs
  obtain ⟨u, hu, ru⟩ := r.get hv
  have hl := r.length
  have hn := line63
  have hj : j < xs.length := (List.getElem?_eq_some_iff.mp hv).1
  exact PySem.wpAny_getItem_list pl.isList (by omega) (by omega) (by simpa using hu) ⟨v, H, I, ru, q⟩
section
variable {K : PySem.W.Frag} {σ : L2.St} {G H : Hp} {Q : VK} {D : Ends} {to ti te : TE} {p : Addr} {L : List PyData} {d : PyData} {i j : Int}
theorem g_augS {tget : V → V → Hp → VK → Prop} {tip : TIp} {tset : TSet} (q : to σ H fun o H1 => ti σ H1 fun i H2 => tget o i H2 fun x H3 => te σ H3 fun y H4 => tip x y H4 fun z H5 => tset o i z H5 fun H6 => D.nx σ H6) : tAugS to ti te tget tip tset D σ H := q
theorem g_getLs {k : Nat} (r : LstAt K p G H L) (hi : L[k]? = some d) (hj : i = (k : Int)) (q : ∀ v, Dp K G v d → Q v H) : rGetL K (.ref p) (.int i) H Q := by
  obtain ⟨xs, h, g, da⟩ := r
  obtain ⟨v, hv, dv⟩ := dpAll_get da hi
  subst hj
  exact ⟨p, xs, k, v, rfl, rfl, .of h, hv, q v dv⟩
theorem g_ipI {f : Int → Int → Int} (q : Q (.int (f i j)) H) : ipI f (.int i) (.int j) H Q := ⟨i, j, rfl, rfl, q⟩
theorem g_au {i : Nat} {te : TE} {tip : TIp} {x : V} (hx : σ[i]? = some (some x)) (q : te σ H fun y H1 => tip x y H1 fun z H2 => D.nx (σ.set i (some z)) H2) : tAug i te tip D σ H := ⟨x, hx, q⟩
end
/-! ### sorted(a dict of ints), d.get(k), d.get(k, x) -/
def rSrtDI : List V → Hp → VK → Prop := fun xs H Q => ∃ (a : Addr) (kvs : List (Key × V)) (ks : List Int), xs = [.ref a] ∧ H a = some (.dK kvs) ∧ kvs.map (·.1) = ks.map Sum.inl ∧ ks.length < 64 ∧ ∀ (ys : List Int) (p : Addr), ys.Perm ks → ys.Pairwise (· ≤ ·) → H p = none → Q (.ref p) (upd H p (.lst (ys.map V.int)))
theorem call_srtDI {X : Cx} (hc : X.calm = true) : CallR X (.builtin "sorted") rSrtDI := fun pins s σ H xs us Q I r ⟨a, kvs, ks, e, h, q⟩ => call_sortedDI hc pins s σ H xs us Q I r ⟨a, kvs, ks, e, .inl h, q⟩
def DG1W (ty : TE) (σ : L2.St) (Q : VK) (x : V) (H1 : Hp) : Prop := ∃ a, x = .ref a ∧ IsD H1 a ∧ ty σ H1 fun y H2 => ∃ o, DGet H2 a y o ∧ Q (o.getD .non) H2
def DG2W (ty tx : TE) (σ : L2.St) (Q : VK) (x : V) (H1 : Hp) : Prop := ∃ a, x = .ref a ∧ IsD H1 a ∧ ty σ H1 fun y H2 => tx σ H2 fun z H3 => ∃ o, DGet H3 a y o ∧ Q (o.getD z) H3
section
variable {K : PySem.W.Frag} {σ : L2.St} {G H : Hp} {Q : VK} {td ty tx : TE} {d : Addr} {md : List (Key × PyData)} {k : Key} {y z : V}
theorem g_dg1 (q : td σ H fun x H1 => DG1W ty σ Q x H1) : tDGet1 td ty σ H Q := q
theorem g_dg2 (q : td σ H fun x H1 => DG2W ty tx σ Q x H1) : tDGet2 td ty tx σ H Q := q
theorem g_dg1W (r : DctAt K d G H md) (q : ty σ H fun y H2 => ∃ o, DGet H2 d y o ∧ Q (o.getD .non) H2) : DG1W ty σ Q (.ref d) H := by
  obtain ⟨kvs, h, _⟩ := r
  exact ⟨d, rfl, .inl ⟨kvs, .inl h⟩, q⟩
theorem g_dg2W (r : DctAt K d G H md) (q : ty σ H fun y H2 => tx σ H2 fun z H3 => ∃ o, DGet H3 d y o ∧ Q (o.getD z) H3) : DG2W ty tx σ Q (.ref d) H := by
  obtain ⟨kvs, h, _⟩ := r
  exact ⟨d, rfl, .inl ⟨kvs, .inl h⟩, q⟩
theorem g_dgR {z : V} (r : DctAt K d G H md) (hk : y = kV k) (q1 : ∀ x v, gtM md k = some x → Dp K G v x → Q v H) (q2 : gtM md k = none → Q z H) : ∃ o, DGet H d y o ∧ Q (o.getD z) H := by
  obtain ⟨kvs, h, g, he, dd⟩ := r
  refine ⟨valV kvs k, .inl ⟨kvs, k, .inl h, hk, rfl⟩, ?_⟩
  cases hg : gtM md k with
  | none =>
    rw [(gt_rel k he dd).2 hg]
    exact q2 hg
  | some x =>
    obtain ⟨v, hv, dv⟩ := (gt_rel k he dd).1 x hg
    rw [hv]
    exact q1 x v hg dv
theorem g_dgO {P : Option V → Prop} (r : DctAt K d G H md) (hk : y = kV k) (q1 : ∀ x v, gtM md k = some x → Dp K G v x → P (some v)) (q2 : gtM md k = none → P none) : ∃ o, DGet H d y o ∧ P o := by
  obtain ⟨kvs, h, g, he, dd⟩ := r
  refine ⟨valV kvs k, .inl ⟨kvs, k, .inl h, hk, rfl⟩, ?_⟩
  cases hg : gtM md k with
  | none =>
    rw [(gt_rel k he dd).2 hg]
    exact q2 hg
  | some x =>
    obtain ⟨v, hv, dv⟩ := (gt_rel k he dd).1 x hg
    rw [hv]
    exact q1 x v hg dv
end
section
variable {K : PySem.W.Frag} {G H : Hp} {Q : VK} {p : Addr} {L : List PyData} {v : V} {d : PyData} {M : List Addr} {G' H' : Hp}
/-- xs.pop() -/
theorem g_popLs (e : Ex G H) (r : LstAt K p G H (L ++ [d])) (q : ∀ v H', Dp K G v d → Nx [p] G H G H' → LstAt K p G H' L → Q v H') : rPop (.ref p) [] H Q := by
  obtain ⟨xs, h, g, da⟩ := r
  have hl := dpAll_len da
  rw [List.length_append, List.length_singleton] at hl
  obtain ⟨v, hv, dv⟩ := dpAll_get da (i := L.length) (d := d) (by simp)
  refine ⟨p, xs, v, rfl, rfl, h, by rw [hl]; simpa using hv, q v _ dv (Nx.set e g (by simp)) ⟨_, upd_same, g, ?_⟩⟩
  have := dpAll_take L.length da
  rw [List.take_left] at this
  rw [List.dropLast_eq_take, hl]
  simpa using this
theorem LsV.go (r : LsV K v G H L) (n : Nx M G H G' H') (hM : ∀ q ∈ M, v ≠ .ref q) : LsV K v G' H' L := by
  obtain ⟨p, rfl, r | r⟩ := r
  · exact ⟨p, rfl, .inl (r.go n fun z => hM p z rfl)⟩
  · exact ⟨p, rfl, .inr (dp_mono n.gg r)⟩
theorem g_lenV (e : Ex G H) (r : LsV K v G H L) (q : Q (.int (L.length : Int)) H) : rLen K [v] H Q := by
  obtain ⟨p, rfl, r | r⟩ := r
  · exact g_lenLs r q
  · exact g_lenL e r q
theorem g_ixV {i : Int} {k : Nat} (e : Ex G H) (r : LsV K v G H L) (hi : L[k]? = some d) (hj : i = (k : Int)) (q : ∀ v, Dp K G v d → Q v H) : rIxL K v (.int i) H Q := by
  obtain ⟨p, rfl, r | r⟩ := r
  · exact g_ixLs r hi hj q
  · exact g_ixL e r hi hj q
theorem g_walkVv {P : Addr → Prop} (e : Ex G H) (r : LsV K v G H L) (q : ∀ p, v = .ref p → (∀ M, (∀ q ∈ M, v ≠ .ref q) → Src K M (Itl K p) G H L) → P p) : ∃ b, v = .ref b ∧ (∃ xs, SqL K H b xs) ∧ P b := by
  obtain ⟨p, rfl, r | r⟩ := r
  · exact g_walkLs r fun S => q p rfl fun M hM => S M fun z => hM p z rfl
  · obtain ⟨a, xs, ea, hs, hd⟩ := dp_lst r
    cases ea
    exact ⟨p, rfl, ⟨xs, e.seqL hs⟩, q p rfl fun M _ => src_lst hs hd⟩
theorem g_walkEv {P : Addr → Prop} (e : Ex G H) (r : LsV K v G H L) (q : ∀ p, v = .ref p → (∀ M, (∀ q ∈ M, v ≠ .ref q) → Src K M (Ite K p) G H (prs 0 L)) → P p) : ∃ a xs, [v] = [V.ref a] ∧ SqL K H a xs ∧ P a := by
  obtain ⟨p, rfl, r | r⟩ := r
  · exact g_walkEs r fun S => q p rfl fun M hM => S M fun z => hM p z rfl
  · exact g_walkE e r fun a ea S => by cases ea; exact q p rfl fun M _ => S M
theorem g_walkVv0 {G0 H0 : Hp} {P : Addr → Prop} (r : LsV K v G0 H0 L) (n : Nx [] G0 H0 G H) (q : ∀ p, v = .ref p → (∀ M, (∀ q ∈ M, H0 q = none ∨ v ≠ .ref q) → Src K M (Itl K p) G H L) → P p) : ∃ b, v = .ref b ∧ (∃ xs, SqL K H b xs) ∧ P b := by
  obtain ⟨p, rfl, r | r⟩ := r
  · exact g_walkLs (r.go n (by simp)) fun S => q p rfl fun M hM => S M fun z => by
      rcases hM p z with h | h
      · exact r.live h
      · exact h rfl
  · obtain ⟨a, xs, ea, hs, hd⟩ := dp_lst (dp_mono n.gg r)
    cases ea
    exact ⟨p, rfl, ⟨xs, n.gh.seqL hs⟩, q p rfl fun M _ => src_lst hs hd⟩
theorem g_walkEv0 {G0 H0 : Hp} {P : Addr → Prop} (r : LsV K v G0 H0 L) (n : Nx [] G0 H0 G H) (q : ∀ p, v = .ref p → (∀ M, (∀ q ∈ M, H0 q = none ∨ v ≠ .ref q) → Src K M (Ite K p) G H (prs 0 L)) → P p) : ∃ a xs, [v] = [V.ref a] ∧ SqL K H a xs ∧ P a := by
  obtain ⟨p, rfl, r | r⟩ := r
  · exact g_walkEs (r.go n (by simp)) fun S => q p rfl fun M hM => S M fun z => by
      rcases hM p z with h | h
      · exact r.live h
      · exact h rfl
  · exact g_walkE n.gh (dp_mono n.gg r) fun a ea S => by cases ea; exact q p rfl fun M _ => S M
theorem g_listV (e : Ex G H) (r : LsV K v G H L) (q : ∀ p H', Nx [] G H G H' → H p = none → LstAt K p G H' L → Q (.ref p) H') : rListOf K [v] H Q := by
  obtain ⟨p, rfl, r | r⟩ := r
  · exact g_listL e r q
  · exact g_listM e r q
end
end Y
namespace Y
open PySem PySem.Spec PyProof.Rows L2
/-- a comprehension over told items or others; the list that is made stands meanwhile -/
theorem g_lcQ {K : PySem.W.Frag} {σ : L2.St} {G H : Hp} {Q : VK} {te : TE} {tt : TT} {g : TG} {J : It} {M : List Addr} {A : Addr} {n : Nat} {P : Nat → Hp → V → Prop} {js : List Nat} (S : SrcP M J G H n P) (e : Ex G H) (hA : H A = none) (hM : ∀ b ∈ M, H b ≠ none) (hz : n < sizeLine) (Jv : Nat → List V → Hp → Hp → Prop)
    (jA : ∀ i acc G' H' o, (H' A = none ∨ ∃ ys, H' A = some (.lst ys)) → Jv i acc G' H' → Jv i acc G' (upd H' A o)) (jN : ∀ i acc G' H' G1 H1, Nx [] G' H' G1 H1 → Jv i acc G' H' → Jv i acc G1 H1) (j0 : Jv 0 [] G H)
    (hs : ∀ i v acc G' H', i < n → P i G' v → Nx M G H G' H' → H' A ≠ none → acc.length ≤ i → Jv i acc G' H' → ∀ (QE : VK) (QN : Hp → Prop),
      (∀ y G4 H4, Nx M G' H' G4 H4 → Jv (i + 1) (acc ++ [y]) G4 H4 → QE y H4) → (∀ G3 H3, Nx M G' H' G3 H3 → Jv (i + 1) acc G3 H3 → QN H3) →
      g v (wipe σ js) H' fun σ2 H2 => wipe σ2 js = wipe σ js ∧ tt σ2 H2 fun b H3 => if b = true then te σ2 H3 QE else QN H3)
    (hd : ∀ G' H' ys, Jv n ys G' H' → Nx M G H G' H' → G' A = none → H' A = some (.lst ys) → ys.length ≤ n → Q (.ref A) H') : LcW J g tt te js σ A Q H := by
  have st0 : Nx [] G H G (upd H A (.lst [])) := Nx.own e hA
  have hAM : A ∉ M := fun z => hM A z hA
  refine ⟨fun i m H' => m = n - i ∧ i ≤ n ∧ ∃ G' ys, Nx M G H G' H' ∧ G' A = none ∧ H' A = some (.lst ys) ∧ ys.length ≤ i ∧ Jv i ys G' H',
    ⟨n, by simp, Nat.zero_le _, G, [], st0.pure, e.free hA, upd_same, Nat.le_refl _, jA _ _ _ _ _ (.inl hA) j0⟩, ?_⟩
  rintro i m H' ⟨rfl, hi, G', ys, nx, gA, hys, hl, jv⟩
  by_cases hlt : i < n
  · refine .inr ⟨S.go i G' H' nx hlt, fun H'' => ∃ G'' ys, Nx M G H G'' H'' ∧ G'' A = none ∧ H'' A = some (.lst ys) ∧ ys.length ≤ i + 1 ∧ Jv (i + 1) ys G'' H'',
      fun H'' ⟨G'', ys', r⟩ => ⟨n - (i + 1), by omega, rfl, hlt, G'', ys', r⟩, fun v H1 y => ?_⟩
    obtain ⟨G1, n1, d1⟩ := S.yld i G' H' v H1 nx hlt y
    have n2 : Nx M G H G1 H1 := nx.trans n1.pure
    have gA1 : G1 A = none := n1.old A gA ⟨_, hys, fun _ z => nomatch z⟩
    have hys1 : H1 A = some (.lst ys) := n1.fr A _ (by simp) hys
    refine hs i v ys G1 H1 hlt d1 n2 (by rw [hys1]; exact fun z => nomatch z) hl (jN _ _ _ _ _ _ n1 jv) _ _ (fun y G4 H4 n4 jv' => ?_) (fun G3 H3 n3 jv' => ?_)
    · have gA4 : G4 A = none := n4.old A gA1 ⟨_, hys1, fun _ z => nomatch z⟩
      have hys4 : H4 A = some (.lst ys) := n4.fr A _ hAM hys1
      have n5 : Nx M G H G4 H4 := n2.trans n4
      have n6 : Nx [A] G4 H4 G4 (upd H4 A (.lst (ys ++ [y]))) := Nx.set n4.gh gA4 (by simp)
      have n7 : Nx (A :: M) G H G4 (upd H4 A (.lst (ys ++ [y]))) := (n5.mono fun _ z => List.mem_cons_of_mem _ z).trans (n6.mono fun b z => by simp at z; simp [z])
      exact ⟨ys, hys4, by omega, G4, ys ++ [y], n7.drop hA, gA4, upd_same, by simp; omega, jA _ _ _ _ _ (.inr ⟨_, hys4⟩) jv'⟩
    · exact ⟨G3, ys, n2.trans n3, n3.old A gA1 ⟨_, hys1, fun _ z => nomatch z⟩, n3.fr A _ hAM hys1, by omega, jv'⟩
  · have e' : i = n := by omega
    subst e'
    exact .inl ⟨S.stop _ G' H' nx (Nat.le_refl _), hd G' H' ys jv nx gA hys hl⟩
end Y
namespace Y
open PySem PySem.Spec PyProof.Rows L2
/-! ### zip of two lists, known or standing -/
def Seen (K : PySem.W.Frag) (M : List Addr) (G H : Hp) (v : V) (L : List PyData) : Prop := ∃ a xs, v = .ref a ∧ DpAll K G xs L ∧ ∀ G' H', Nx M G H G' H' → SqL K H' a xs
def zpD (L1 L2 : List PyData) : List PyData := (L1.zip L2).map fun p => .tuple [p.1, p.2]
section
variable {K : PySem.W.Frag} {G H G0 H0 : Hp} {L L1 L2 : List PyData} {v w : V} {M : List Addr}
theorem LsV.seen (r : LsV K v G0 H0 L) (n : Nx [] G0 H0 G H) (hM : ∀ q ∈ M, H0 q = none ∨ v ≠ .ref q) : Seen K M G H v L := by
  obtain ⟨p, rfl, r | r⟩ := r
  · obtain ⟨xs, h, g, d⟩ := r.go n (by simp)
    refine ⟨p, xs, rfl, d, fun G' H' n' => .of (n'.fr p _ (fun z => ?_) h)⟩
    rcases hM p z with q | q
    · exact r.live q
    · exact q rfl
  · obtain ⟨a, xs, ea, hs, hd⟩ := dp_lst (dp_mono n.gg r)
    cases ea
    exact ⟨p, xs, rfl, hd, fun G' H' n' => n'.gh.seqL (n'.gg.seqL hs)⟩
theorem g_walkZ {P : Addr → Addr → Prop} (e : Ex G H) (s1 : Seen K M G H v L1) (s2 : Seen K M G H w L2) (q : ∀ a b, Src K M (Itz K a b) G H (zpD L1 L2) → P a b) : ∃ a b xs ys, [v, w] = [V.ref a, V.ref b] ∧ SqL K H a xs ∧ SqL K H b ys ∧ P a b := by
  obtain ⟨a, xs, rfl, d1, f1⟩ := s1
  obtain ⟨b, ys, rfl, d2, f2⟩ := s2
  have l1 := dpAll_len d1
  have l2 := dpAll_len d2
  refine ⟨a, b, xs, ys, rfl, f1 _ _ (Nx.refl e), f2 _ _ (Nx.refl e), q a b ⟨fun i G' H' n hi => ?_, fun i G' H' n hi => ?_, fun i d G' H' x H'' n hi y => ?_⟩⟩
  · simp only [zpD, List.length_map, List.length_zip] at hi
    exact ⟨xs, ys, xs[i]'(by omega), ys[i]'(by omega), f1 _ _ n, f2 _ _ n, by simp, by simp⟩
  · simp only [zpD, List.length_map, List.length_zip] at hi
    refine ⟨xs, ys, f1 _ _ n, f2 _ _ n, ?_⟩
    rw [l1, l2]
    exact (by omega : L1.length ≤ i ∨ L2.length ≤ i)
  · obtain ⟨T, x1, y1, rfl, hT, rfl, g1, g2⟩ := y
    have hx := g1 _ (f1 _ _ n)
    have hy := g2 _ (f2 _ _ n)
    unfold zpD at hi
    rw [List.getElem?_map] at hi
    obtain ⟨⟨a1, b1⟩, hz, rfl⟩ := Option.map_eq_some_iff.mp hi
    obtain ⟨h1, h2⟩ := List.getElem?_zip_eq_some.mp hz
    obtain ⟨v1, hv1, dv1⟩ := dpAll_get d1 h1
    obtain ⟨v2, hv2, dv2⟩ := dpAll_get d2 h2
    rw [hx] at hv1
    rw [hy] at hv2
    cases hv1
    cases hv2
    have h2 := nx_tup (K := K) n.gh (xs := [x1, y1]) (ds := [a1, b1]) (.cons (dp_mono n.gg dv1) (.cons (dp_mono n.gg dv2) .nil)) hT
    exact ⟨_, h2.1, h2.2⟩
end
end Y
namespace Y
open PySem PySem.Spec PyProof.Rows L2
/-! ### ints of a list -/
theorem g_iZip {K : PySem.W.Frag} {ta : TA} {σ : L2.St} {H : Hp} {R : It → Hp → Prop} (q : ta σ H fun vs H1 => ∃ a b xs ys, vs = [.ref a, .ref b] ∧ SqL K H1 a xs ∧ SqL K H1 b ys ∧ R (Itz K a b) H1) : iZip K ta σ H R := q
theorem LstAt.ints {K : PySem.W.Frag} {p : Addr} {G H : Hp} {ns : List Int} (r : LstAt K p G H (ns.map .int)) : H p = some (.lst (ns.map V.int)) := by
  obtain ⟨vs, h, _, d⟩ := r
  rw [h, dpAll_ints_inv d]
theorem LsV.ints {K : PySem.W.Frag} {v : V} {G H : Hp} {ns : List Int} (r : LsV K v G H (ns.map .int)) (e : Ex G H) : ∃ p, v = .ref p ∧ SqL K H p (ns.map V.int) := by
  obtain ⟨p, rfl, r | r⟩ := r
  · exact ⟨p, rfl, .of r.ints⟩
  · obtain ⟨a, xs, ea, hs, hd⟩ := dp_lst r
    cases ea
    rw [← dpAll_ints_inv hd]
    exact ⟨p, rfl, e.seqL hs⟩
theorem inV_int {ns : List Int} {i : Int} : inV (.int i) (ns.map V.int) = decide (i ∈ ns) := by
  show (ns.map V.int).any (fun y => eqV y (.int i)) = _
  rw [List.any_map, Bool.eq_iff_iff, List.any_eq_true, decide_eq_true_eq]
  constructor
  · rintro ⟨x, hx, hx2⟩
    have : x = i := eq_of_beq hx2
    exact this ▸ hx
  · intro hx
    exact ⟨i, hx, beq_self_eq_true i⟩
theorem g_inIF {K : PySem.W.Frag} {G H : Hp} {Q : VK} {v : V} {ns : List Int} {i : Int} (e : Ex G H) (r : LsV K v G H (ns.map .int)) (q : Q (.bl (decide (i ∈ ns))) H) : rIn K false (.int i) v H Q := by
  obtain ⟨p, rfl, h⟩ := r.ints e
  refine ⟨p, _, rfl, .inl h, rfl, ?_, ?_⟩
  · rw [List.all_map]
    exact List.all_eq_true.mpr fun _ _ => rfl
  · rw [inV_int]
    exact q
theorem g_inIT {K : PySem.W.Frag} {G H : Hp} {Q : VK} {v : V} {ns : List Int} {i : Int} (e : Ex G H) (r : LsV K v G H (ns.map .int)) (q : Q (.bl (!decide (i ∈ ns))) H) : rIn K true (.int i) v H Q := by
  obtain ⟨p, rfl, h⟩ := r.ints e
  refine ⟨p, _, rfl, .inl h, rfl, ?_, ?_⟩
  · rw [List.all_map]
    exact List.all_eq_true.mpr fun _ _ => rfl
  · rw [inV_int]
    exact q
end Y
namespace Y
open PySem PySem.Spec PyProof.Rows L2
/-! ### x is True, x is False, whatever x is -/
def rIsA : R2 := fun x y H Q => ∃ b : Bool, y = .bl b ∧ Q (.bl (decide (x = .bl b))) H
def rNotA : R2 := fun x y H Q => ∃ b : Bool, y = .bl b ∧ Q (.bl (!decide (x = .bl b))) H
theorem same_bl {X : Cx} {M : Model} {A : Around} {E : Value → Shared → Prop} {s : Shared} {x : V} {u : Value} {b : Bool} {R : Bool → Shared → Prop} (r : RelV x u) (q : R (decide (x = .bl b)) s) : wpAny M A (isSame u (.bool b)) R E s := by
  have other : x ≠ .bl b → plainIs u (.bool b) = true → (u == Value.bool b) = false → wpAny M A (isSame u (.bool b)) R E s := fun hn h1 h2 => wpAny_isSame_plain h1 (by rw [h2]; rw [decide_eq_false hn] at q; exact q)
  cases x with
  | bl c =>
    cases (show u = Value.bool c from r)
    refine wpAny_isSame_plain rfl ?_
    have e : (Value.bool c == Value.bool b) = decide (V.bl c = V.bl b) := by cases c <;> cases b <;> rfl
    rw [e]
    exact q
  | ref a => cases r; exact other (fun z => nomatch z) rfl rfl
  | non => cases r; exact other (fun z => nomatch z) rfl rfl
  | int i => obtain ⟨t, rfl⟩ := r; exact other (fun z => nomatch z) rfl rfl
  | str x => obtain ⟨t, rfl⟩ := r; exact other (fun z => nomatch z) rfl rfl
  | byt x => obtain ⟨t, rfl⟩ := r; exact other (fun z => nomatch z) rfl rfl
  | flt x => obtain ⟨t, rfl⟩ := r; exact other (fun z => nomatch z) rfl rfl
  | ty n => cases r; exact other (fun z => nomatch z) rfl rfl
theorem op_isA {X : Cx} : OpR X (compareOp .Is) rIsA := by
  intro pins s σ H x y v u Q I rx ry h
  obtain ⟨b, rfl, q⟩ := h
  cases (show u = Value.bool b from ry)
  exact wpAny_bind (same_bl (X := X) rx (wpAny_pure (fin_bl I q rfl)))
theorem g_isA {x : V} {b : Bool} {H : Hp} {Q : VK} (q : Q (.bl (decide (x = .bl b))) H) : rIsA x (.bl b) H Q := ⟨b, rfl, q⟩
end Y
namespace Y
open PySem PySem.Spec PyProof.Rows L2
/-! ### sorted of texts: of a dict, of a list; the order is one -/
def rSrtDS : List V → Hp → VK → Prop := fun xs H Q => ∃ (a : Addr) (kvs : List (Key × V)) (ks : List Str), xs = [.ref a] ∧ H a = some (.dK kvs) ∧ kvs.map (·.1) = ks.map Sum.inr ∧ ks.length < 64 ∧ ∀ (ys : List Str) (p : Addr), ys.Perm ks → sortedS ys = true → H p = none → Q (.ref p) (upd H p (.lst (ys.map V.str)))
theorem call_srtDS {X : Cx} (hc : X.calm = true) : CallR X (.builtin "sorted") rSrtDS := fun pins s σ H xs us Q I r ⟨a, kvs, ks, e, h, q⟩ => call_sortedD hc pins s σ H xs us Q I r ⟨a, kvs, ks, e, .inl h, q⟩
theorem cr_sortedSK {X : Cx} {K : PySem.W.Frag} (h : X.K = K) : CallR X (.builtin "sorted") (rSortedS K) := h ▸ cr_sortedS
theorem rising_le : ∀ (p : Str) (l : List Str), risingS p l = true → (p :: l).Pairwise fun a b => a.cps.toList ≤ b.cps.toList
  | p, [], _ => by simp
  | p, x :: r, h => by
    have h0 : (!ltCps x.cps.toList p.cps.toList && risingS x r) = true := h
    rw [Bool.and_eq_true, Bool.not_eq_true', ltCps_eq, decide_eq_false_iff_not] at h0
    have ih := rising_le x r h0.2
    have hpx : p.cps.toList ≤ x.cps.toList := h0.1
    refine List.pairwise_cons.mpr ⟨fun y hy => ?_, ih⟩
    rcases List.mem_cons.mp hy with rfl | hy
    · exact hpx
    · exact List.le_trans hpx ((List.pairwise_cons.mp ih).1 y hy)
theorem sorted_le : ∀ (l : List Str), sortedS l = true → l.Pairwise fun a b => a.cps.toList ≤ b.cps.toList
  | [], _ => .nil
  | x :: r, h => rising_le x r h
theorem sorted_one {xs ys : List Str} (h : xs.Perm ys) (hx : sortedS xs = true) (hy : sortedS ys = true) : xs = ys :=
  List.Perm.eq_of_pairwise (fun a b _ _ h1 h2 => by
    have e := List.le_antisymm h1 h2
    obtain ⟨⟨a⟩⟩ := a
    obtain ⟨⟨b⟩⟩ := b
    exact congrArg (fun l => Str.mk ⟨l⟩) e) (sorted_le _ hx) (sorted_le _ hy) h
end Y

/-! ### sorted(.., key = a lambda): the key of a cell is its row, then its column -/
namespace Y
open PySem PySem.Spec PyProof.Rows L2
/-- the parameters and the body: lambda cell: (cell[1], cell[0]) -/
structure LamYX (ps : Arguments) (body : Expr) (sc : Scope) : Prop where
  co : sc.isCoroutine = false
  gen : sc.isGenerator = false
  kind : sc.kind = .function
  nm : sc.names = [(("cell" : Str), NameKind.local)]
  bind : ∀ (q : Str) (cl : List (Str × Addr)) (pm cv ctv v : Value), bindArgs (PySem.W.kla_fn "<lambda>" q ps body sc cl pm cv ctv) ⟨[v], []⟩ = pure [(("cell" : Str), v)]
  dfl : ∀ env, defaultsOf ps env = ([], [])
  body : ∃ p1 p2 p3 p4 p5 p6 p7 k1 k2 k3, body = .Tuple [.Subscript (.Name "cell" p1) (.Constant (.int 1) k1 p2) p3, .Subscript (.Name "cell" p4) (.Constant (.int 0) k2 p5) p6] k3 p7
theorem eval_ix {prog : Program} {w : World} {A : Around} {E : Value → Shared → Prop} {s : Shared} {env : Env} {m : Str → Option Value} {t : Addr} {items : Array Value} {i : Int} {j : Nat} {v : Value} {p1 p2 p3 : Pos} {k1 : Nat} {Q : Value → Shared → Prop}
    (hk : env.scope.kind = .function) (hn : env.kindOf "cell" = some .local) (hm : s.heap.Ns env.locals m) (hv : m "cell" = some (.ref t)) (ht : IsTup s.heap t items) (h0 : -2 ^ 63 ≤ i) (h1 : i < 2 ^ 63) (hj : seqIndex? i items.size = some j) (hx : items[j]? = some v)
    (q : Q v { heap := s.heap, gens := s.gens, drawn := s.drawn, toks := s.toks + 1, os := s.os }) : wpAny (model prog w) A (eval (.Subscript (.Name "cell" p1) (.Constant (.int i) k1 p2) p3) env) Q E s := by
  refine wpAny_Subscript_Constant_late ?_
  refine wpAny_Name ?_
  refine wpAny_loadName_local hk hn hm hv ?_
  refine wpAny_Constant_int ?_
  exact ⟨"tuple", "tuple.__getitem__", slot_tuple_getitem.lookup, ht.typeIs, getItem_tuple ht h0 h1 hj hx q⟩
theorem lam_yx {prog : Program} {w : World} {A : Around} {s : Shared} {f t c' : Addr} {q : Str} {ps : Arguments} {body : Expr} {sc : Scope} {cl : List (Str × Addr)} {pm ctv : Value} {x y : Int} {tx ty : Tok} (L : LamYX ps body sc)
    (hA : A.depth + 2 < recursionLimit) (hf : s.heap.get? f = some (PySem.W.kla_obj "<lambda>" q ps body sc cl pm c' ctv)) (hc : s.heap.CodeRec (.ref c') q) (hn : s.heap.NoLimit) (ht : IsTup s.heap t #[.int x tx, .int y ty]) :
    wpAny (model prog w) A (call (.ref f) [.ref t]) (PySem.W.KeyPure (.tuple [.int y, .int x]) s) (fun _ _ => False) s := by
  refine wpAny_call ?_
  refine PySem.W.kla_callFunE (by omega) hf rfl L.co L.gen rfl hc ?_
  rw [L.bind]
  refine wpAny_pure ?_
  refine wpAny_newFunctionEnv (fun y hy => ?_) (fun y hy => ?_) (fun h' hN hS => ⟨hn.fresh _ hS, ?_⟩) L.kind
  · have : sc.names = [(("cell" : Str), NameKind.local)] := L.nm
    rw [show (PySem.W.kla_fn "<lambda>" q ps body sc cl pm (.ref c') ctv).scope.names = sc.names from rfl, this] at hy
    simp only [List.mem_cons, List.not_mem_nil, or_false] at hy
    subst hy
    exact fun z => nomatch z
  · simp only [List.mem_cons, List.not_mem_nil, or_false] at hy
    subst hy
    show List.lookup _ sc.names = _
    rw [L.nm]
    rfl
  have old : ∀ b o, s.heap.get? b = some o → h'.get? b = some o := fun b o hb => by
    rw [hS.2 b (Nat.ne_of_lt (Heap.lt_size hb))]
    exact Heap.get?_push_of_some _ hb
  have tup : ∀ {h : Heap}, (∀ b o, s.heap.get? b = some o → h.get? b = some o) → IsTup h t #[.int x tx, .int y ty] := fun k => by
    obtain ⟨o, h1, h2⟩ := ht
    exact ⟨o, k _ _ h1, h2⟩
  refine PySem.W.kla_codeExpr ?_
  obtain ⟨p1, p2, p3, p4, p5, p6, p7, k1, k2, k3, hb⟩ := L.body
  rw [hb]
  refine wpAny_Tuple_spliced ?_
  have hloc : (List.lookup ("cell" : Str) [(("cell" : Str), Value.ref t)].reverse : Option Value) = some (.ref t) := rfl
  refine spliced_more ?_ rfl
  refine eval_ix (t := t) (items := #[.int x tx, .int y ty]) (j := 1) (m := fun x => List.lookup x [(("cell" : Str), Value.ref t)].reverse) L.kind (by show List.lookup _ sc.names = _; rw [L.nm]; rfl) hN hloc (tup old) (by decide) (by decide) rfl rfl ?_
  refine spliced_more ?_ rfl
  refine eval_ix (t := t) (items := #[.int x tx, .int y ty]) (j := 0) (m := fun x => List.lookup x [(("cell" : Str), Value.ref t)].reverse) L.kind (by show List.lookup _ sc.names = _; rw [L.nm]; rfl) hN hloc (tup old) (by decide) (by decide) rfl rfl ?_
  refine spliced_none ?_
  refine ⟨by show 2 ≤ sizeLine; decide, ?_⟩
  refine ⟨_, _, rfl, fun b o hb => Heap.get?_push_of_some _ (old b o hb), ?_⟩
  refine .tuple (Heap.get?_push_size _ rfl) rfl rfl ?_
  exact .cons (.int y ty) (.cons (.int x tx) .nil)
/-- the thing at f is this function, its code at c' -/
def LamO (f : Addr) (q : Str) (ps : Arguments) (body : Expr) (sc : Scope) (c' : Addr) : HO := .ext fun h => ∃ pm ctv cl, h.get? f = some (PySem.W.kla_obj "<lambda>" q ps body sc cl pm c' ctv)
/-- the making of a function: nothing but its code in the table, if it was not there -/
def LamG (P : Addr) (q : Str) (H H1 : Hp) (c' : Addr) : Prop := (H1 = H ∧ H c' = some (LamX.CodeO c' q)) ∨
  ∃ (tab : Array Value) (pos : Pos), H P = some (.tbl tab) ∧ H c' = none ∧ H1 = upd (upd H P (.tbl (tab ++ #[rawInt ↑pos.line, rawInt ↑pos.col, .ref c']))) c' (LamX.CodeO c' q)
def tLamE (P : Addr) (q : Str) (ps : Arguments) (body : Expr) (sc : Scope) : TE := fun _ H Q => LamX.TabS H P q ∧ ∀ H1 f c', LamG P q H H1 c' → LamX.TabS H1 P q → H1 f = none → H1 c' = some (LamX.CodeO c' q) → Q (.ref f) (upd H1 f (LamO f q ps body sc c'))
theorem pe_lamE {X : Cx} {c P : Addr} {ps : Arguments} {body : Expr} {sc : Scope} {pos : Pos} (L : LamYX ps body sc) (TB : LamX.TabB X.base X.mg c P) (hcode : X.env.code = .ref c) : PE X (.Lambda ps body sc pos) (tLamE P (X.env.qual ++ "<lambda>") ps body sc) := by
  refine ⟨fun pins s σ H Q I ht => ?_⟩
  obtain ⟨⟨tab, hP, hT, hA⟩, q⟩ := ht
  refine PySem.W.kla_eval (L.dfl _) ?_
  have nofree : ∀ y ∈ sc.names, y.2 = NameKind.free → ∃ c, List.lookup y.1 X.env.cells = some c := fun y hy hf => by
    rw [L.nm] at hy
    simp only [List.mem_cons, List.not_mem_nil, or_false] at hy
    subst hy
    cases hf
  have hPo : s.heap.get? P = some (PySem.W.tabObj tab) := I.hok P _ hP
  have ob : ∀ (H1 : Hp) (h' : Heap) (c' : Addr) (ctv pm : Value) (cl : List (Str × Addr)), ObjOk X.prog X.w (upd H1 h'.objs.size (LamO h'.objs.size (X.env.qual ++ "<lambda>") ps body sc c')) (h'.push (PySem.W.kla_obj "<lambda>" (X.env.qual ++ "<lambda>") ps body sc cl pm c' ctv)) h'.objs.size (LamO h'.objs.size (X.env.qual ++ "<lambda>") ps body sc c') := fun H1 h' c' ctv pm cl => by
    have e := Heap.get?_push_size h' (o := PySem.W.kla_obj "<lambda>" (X.env.qual ++ "<lambda>") ps body sc cl pm c' ctv) rfl
    exact ⟨⟨_, _, _, e⟩, ⟨_, e⟩, fun h1 h2 ⟨pm, ctv, cl, h3⟩ k => ⟨pm, ctv, cl, k _ h3⟩⟩
  cases hit : codeAmong pos tab.toList with
  | some cv =>
    obtain ⟨c', rfl, hc'⟩ := hA pos cv hit
    refine PySem.W.kla_makeFunctionHit (closure_ok nofree) I.ok.glob (I.mod.glob.keeps I.bk) hcode (TB.code.keeps I.bk) hPo hT hit (TB.bm.keeps I.bk) (fun ctv h' tk k1 k2 => ?_)
    have fr : H h'.objs.size = none := HOk.fresh I.hok k2
    refine ⟨.ref h'.objs.size, _, I.laid (fun b o hb => Heap.get?_push_of_some _ (k1 b o hb)) k2 (ob H h' c' ctv _ _), rfl, q H _ c' (.inl ⟨rfl, hc'⟩) ⟨tab, hP, hT, hA⟩ fr hc'⟩
  | none =>
    refine PySem.W.kla_makeFunction (closure_ok nofree) I.ok.glob (I.mod.glob.keeps I.bk) hcode (TB.code.keeps I.bk) hPo hT hit TB.gP (TB.bm.keeps I.bk) (fun c' ctv h' tk k1 k2 k3 k4 k5 => ?_)
    have hc0 : H c' = none := HOk.fresh I.hok k2
    have hcP : c' ≠ P := fun z => by rw [z, hP] at hc0; cases hc0
    obtain ⟨_, o, vs, t, e1, e2, e3, e4⟩ := k4
    cases e1
    have I1 := LamX.inv_table (more := #[rawInt ↑pos.line, rawInt ↑pos.col, .ref c']) (t' := tk) I hP (fun b o hb hs => k1 b o hb hs) k5 k2 ⟨o, vs, t, e2, e3, e4⟩
    have fr : (upd (upd H P (.tbl (tab ++ #[rawInt ↑pos.line, rawInt ↑pos.col, .ref c']))) c' (LamX.CodeO c' (X.env.qual ++ "<lambda>"))) h'.objs.size = none := HOk.fresh I1.hok (Nat.le_refl _)
    refine ⟨.ref h'.objs.size, _, I1.laid (t' := tk) (a := h'.objs.size) (fun b o hb => Heap.get?_push_of_some _ hb) (Nat.le_refl _) (ob _ h' c' ctv _ _), rfl, q _ _ c' (.inr ⟨tab, pos, hP, hc0, rfl⟩) ⟨_, by rw [upd_ne hcP.symm, upd_same], ?_, ?_⟩ fr upd_same⟩
    · rw [Array.toList_append]
      exact TriplesOk_snoc _ _ _ _ hT
    · intro p' cv hp
      rw [Array.toList_append] at hp
      rcases LamX.among_app _ hT hp with h | h
      · obtain ⟨c2, e, h2⟩ := hA p' cv h
        refine ⟨c2, e, ?_⟩
        have n1 : c2 ≠ c' := fun z => by rw [z, hc0] at h2; cases h2
        have n2 : c2 ≠ P := fun z => by rw [z, hP] at h2; cases h2
        rw [upd_ne n1, upd_ne n2]
        exact h2
      · exact ⟨c', h, upd_same⟩
/-- a cell: its column and its row -/
abbrev Cell := Int × Int
def yxLe (p q : Cell) : Bool := decide (p.2 < q.2 ∨ p.2 = q.2 ∧ p.1 ≤ q.1)
/-- the value is this cell -/
def ClV (K : PySem.W.Frag) (H : Hp) (v : V) (c : Cell) : Prop := ∃ t, v = .ref t ∧ SqT K H t [.int c.1, .int c.2]
def rSrtYX (K : PySem.W.Frag) (vs zs : List V) (H : Hp) (Q : VK) : Prop := ∃ (a f c' : Addr) (q : Str) (ps : Arguments) (body : Expr) (sc : Scope) (xs : List V) (cs : List Cell) (S : V → Cell → Prop), (∀ v c, S v c → ClV K H v c) ∧ vs = [.ref a] ∧ zs = [.ref f] ∧ LamYX ps body sc ∧
  H f = some (LamO f q ps body sc c') ∧ H c' = some (LamX.CodeO c' q) ∧ SqL K H a xs ∧ PySem.Paired S xs cs ∧
  ∀ p ys, H p = none → PySem.Paired S ys (cs.mergeSort yxLe) → Q (.ref p) (upd H p (.lst ys))
theorem paired_each {α β γ : Type} {R : α → β → Prop} {S : α → γ → Prop} : ∀ {xs : List α} {us : List β} {cs : List γ}, PySem.Paired R xs us → PySem.Paired S xs cs → PySem.W.EachIs (fun u c => ∃ x, R x u ∧ S x c) us cs
  | _, _, _, .nil, .nil => .nil
  | _, _, _, .cons a as, .cons b bs => .cons ⟨_, a, b⟩ (paired_each as bs)
theorem each_paired {S : V → Cell → Prop} : ∀ {us : List Value} {cs : List Cell}, PySem.W.EachIs (fun u c => ∃ x, RelV x u ∧ S x c) us cs → ∃ xs, Vals xs us ∧ PySem.Paired S xs cs
  | _, _, .nil => ⟨[], .nil, .nil⟩
  | _, _, .cons ⟨x, a, b⟩ r => by
    obtain ⟨xs, h1, h2⟩ := each_paired r
    exact ⟨x :: xs, .cons a h1, .cons b h2⟩
theorem cr_srtYX {X : Cx} {k : Nat} (hr : Room k X.A) : CallRK X (.builtin "sorted") ["key"] (rSrtYX X.K) := by
  intro pins s σ H xs zs us ws Q I hx hz ⟨a, f, c', q, ps, body, sc, vs, cs, S, hS, e1, e2, L, hf, hc, hl, hp, hq⟩
  subst e1 e2
  cases hx with
  | cons h1 h2 =>
  cases h2
  cases hz with
  | cons g1 g2 =>
  cases g2
  cases h1
  cases g1
  obtain ⟨its, hv, pl, hle⟩ := I.list hl
  obtain ⟨⟨pm, ctv, cl, hfo⟩, _⟩ := I.hok f _ hf
  obtain ⟨⟨oc, cvs, ct, hco, hcd, hcs⟩, _⟩ := I.hok c' _ hc
  have hE := paired_each hv hp
  have hlen : vs.length = cs.length := hv.length.trans hE.length
  refine PySem.W.sorted_key_data (b := false) (fun c : Cell => PyData.tuple [.int c.2, .int c.1]) pl.isList hE ?_ ?_ (by omega) (fun x _ => ?_) (ksk_s1 _ _) (fun x => ksk_l1 _ _) (fun x => ksk_t1 _ _) (fun v x hR hm h tk hk => ?_) (fun out c h' tk hk hno hat hl' hR => ?_)
  · exact PySem.W.AllAlike.of fun b b' => by simp [PySem.W.alike, PySem.W.alikeAll]
  · exact PySem.W.Sortable.tuples fun b => ⟨_, _, rfl⟩
  · have := hr.un
    show X.A.units + 2 + PyData.depth (.tuple [.int x.2, .int x.1]) < cLine
    have e : PyData.depth (.tuple [.int x.2, .int x.1]) ≤ 1 := by simp [PyData.depth, PyData.depthAll]
    omega
  · obtain ⟨x0, hrel, hsx⟩ := hR
    obtain ⟨t, rfl, ht⟩ := hS _ _ hsx
    cases hrel
    obtain ⟨its2, hv2, htup, _⟩ := I.tuple ht
    cases hv2 with
    | cons r1 r2 =>
    cases r2 with
    | cons r3 r4 =>
    cases r4
    obtain ⟨tx, rfl⟩ := r1
    obtain ⟨ty, rfl⟩ := r3
    obtain ⟨o, k1, k2⟩ := htup
    have := hr.dp
    exact lam_yx L (by show X.A.depth + 2 < recursionLimit; omega) (hk _ _ hfo) ⟨c', oc, cvs, ct, rfl, hk _ _ hco, hcd, hcs⟩ (I.nolimit.keeps hk) ⟨o, hk _ _ k1, k2⟩
  · rw [PySem.W.dataLe_ii (fun c : Cell => c.2) (fun c : Cell => c.1)] at hR
    obtain ⟨ys, hys, hcl⟩ := each_paired hR
    refine ⟨.ref (s.heap.objs.size + 1), _, I.laid (o := .lst ys) (a := s.heap.objs.size + 1) (t' := tk) hk (Nat.le_succ _) ⟨by rw [hys.length, hl', ← hlen]; exact hle, _, _, hys, hat⟩, rfl, hq _ ys (HOk.fresh I.hok (Nat.le_succ _)) hcl⟩
end Y

/-! ### dict(d) of a dict whose keys are tuples -/
namespace Y
open PySem PySem.Spec PyProof.Rows L2
/-- the hash of a key -/
def kHash (k : List L2.Key) : Int := reduceHash (Builtin.Tuple.tupleHashOf (k.map fun a => match a with | .inl i => hashInt i | .inr _ => 0))
def rDictT : List V → Hp → VK → Prop := fun xs H Q => ∃ d kvs, xs = [.ref d] ∧ Rd H d (.dT kvs) ∧ (∀ e ∈ kvs, ∀ a ∈ e.1, ∃ i : Int, a = .inl i) ∧ (kvs.map fun e => kHash e.1).Nodup ∧ ∀ p, H p = none → Q (.ref p) (upd H p (.dT kvs))
theorem kHash_eq {P : Program} {w : World} {k : List L2.Key} (h : ∀ a ∈ k, ∃ i : Int, a = .inl i) : tupleKeyHash (mixKind P w) k = kHash k := by
  unfold tupleKeyHash kHash
  congr 2
  refine List.map_congr_left fun a ha => ?_
  obtain ⟨i, rfl⟩ := h a ha
  rfl
theorem kt_mem {H : Hp} : ∀ {kvs : List (List L2.Key × V)} {xs : List (List L2.Key × Addr × Value)}, KT H kvs xs → xs.map (·.1) = kvs.map (·.1)
  | _, _, .nil => rfl
  | _, _, .cons h r => by rw [List.map_cons, List.map_cons, kt_mem r, h.1]
theorem kt_tup {H : Hp} : ∀ {kvs : List (List L2.Key × V)} {xs : List (List L2.Key × Addr × Value)}, KT H kvs xs → ∀ x ∈ xs, H x.2.1 = some (.tup (x.1.map kV))
  | _, _, .nil, x, hx => absurd hx (by simp)
  | _, _, .cons h r, x, hx => by
    rcases List.mem_cons.mp hx with rfl | hx
    · rw [← h.1]; exact h.2.1
    · exact kt_tup r x hx
theorem kt_up {H : Hp} {a : Addr} {o : HO} (fr : H a = none) : ∀ {kvs : List (List L2.Key × V)} {xs : List (List L2.Key × Addr × Value)}, KT H kvs xs → PySem.Paired (fun p q => p.fst = q.fst ∧ (upd H a o) q.snd.fst = some (HO.tup (List.map kV p.fst)) ∧ RelV p.snd q.snd.snd) kvs xs
  | _, _, .nil => .nil
  | _, _, .cons h r => .cons ⟨h.1, by rw [upd_ne (ne_of_none h.2.1 fr)]; exact h.2.1, h.2.2⟩ (kt_up fr r)
theorem call_dictT {X : Cx} (hu : X.A.units + 10 < cLine) : CallR X (.type "dict") rDictT := by
  intro pins s σ H xs us Q I r ⟨d, kvs, e, h, hi, hn, q⟩
  subst e
  cases r with
  | cons r1 r2 =>
  cases r2
  cases r1
  obtain ⟨hl, hs, ps, hk, hd⟩ := dt_rd I.hok h
  have e1 := kt_mem hk
  have htup : ∀ x ∈ ps, s.TypeIs (.ref x.2.1) "tuple" := fun x hx => by
    obtain ⟨_, its, _, ht⟩ := I.hok _ _ (kt_tup hk x hx)
    exact ht.typeIs
  have hhash : (ps.map fun x => (tupleKind (mixKind X.prog X.w)).hash x.1).Nodup := by
    have e2 : (ps.map fun x => (tupleKind (mixKind X.prog X.w)).hash x.1) = kvs.map fun e => kHash e.1 := by
      have e3 : (ps.map fun x => (tupleKind (mixKind X.prog X.w)).hash x.1) = (ps.map (·.1)).map fun k => tupleKeyHash (mixKind X.prog X.w) k := by rw [List.map_map]; rfl
      rw [e3, e1, List.map_map]
      exact List.map_congr_left fun e he => kHash_eq (hi e he)
    rw [e2]
    exact hn
  have plen : ps.length = kvs.length := by simpa using congrArg List.length e1
  let h1 := s.heap.push { cls := Value.type "dict", data := Data.dict #[] }
  have old : ∀ b o, s.heap.get? b = some o → h1.get? b = some o := fun b o hb => Heap.get?_push_of_some _ hb
  have hne : s.heap.objs.size ≠ d := fun z => by
    obtain ⟨o, _, _, ho, _⟩ := hd
    rw [← z] at ho
    exact Nat.lt_irrefl _ (Heap.lt_size ho)
  refine callType_codes (Q₁ := fun obj s1 => obj = .ref s.heap.objs.size ∧ s1 = { heap := h1, gens := s.gens, drawn := s.drawn, toks := s.toks, os := s.os }) F.kt_called_dict (F.kt_typeCall_dict_1 _) F.entry_dict_init (kt_code_dict_new _ ⟨rfl, rfl⟩) (fun obj s1 hq => ?_)
  obtain ⟨rfl, rfl⟩ := hq
  have hnew : Heap.DictOfH (tupleKind (mixKind X.prog X.w)) h1 s.heap.objs.size [] := Heap.DictOfH.new s.heap
  have hold : Heap.DictOfH (tupleKind (mixKind X.prog X.w)) h1 d ps := by
    obtain ⟨o, es, ep, ho, hx, hd1, hes, hks, hnd⟩ := hd
    refine ⟨o, es, ep, old _ _ ho, hx, hd1, hes, fun x hx => ?_, hnd⟩
    obtain ⟨o2, items, n2, k1, k2, k3, k4⟩ := hks x hx
    exact ⟨o2, items, n2, old _ _ k1, k2, k3, k4⟩
  have hty : ({ heap := h1, gens := s.gens, drawn := s.drawn, toks := s.toks, os := s.os } : Shared).TypeIs (.ref s.heap.objs.size) "dict" := hnew.typeIs
  refine ⟨hty, F.args_dict_init_2 _ _, ?_⟩
  unfold Builtin.«dict.__init__» Builtin.Dict.selfAndRest
  refine wpAny_bind (wpAny_bind (wpAny_notOrdered_dict hty ?_))
  refine wpAny_bind (show wpAny _ _ (pure s.heap.objs.size) _ _ _ from wpAny_pure (wpAny_pure ?_))
  refine updateFrom_dictH (K := List L2.Key) (knd := tupleKind (mixKind X.prog X.w)) (A := X.A.in1) (kvs := []) (more := ps) Value.none (by show X.A.units + 1 + 1 < cLine; omega) hne hs hnew hold (.inr ⟨fun x hx => ?_, hhash⟩) (by show 0 + ps.length ≤ sizeLine; omega) (fun h' k1 k2 k3 => ?_)
  · obtain ⟨_, its, _, o, ho, hc⟩ := I.hok _ _ (kt_tup hk x hx)
    have ht : IsTup h1 x.2.1 its.toArray := ⟨o, old _ _ ho, hc⟩
    exact ht.typeIs
  · rw [storedAllH_nil_of_nodup ps hd.nodup] at k1
    refine ⟨rfl, .ref s.heap.objs.size, _, I.laid (o := .dT kvs) (t' := s.toks) (a := s.heap.objs.size) (h' := h') (fun b o hb => ?_) (Nat.le_refl _) ?_, rfl, q _ (HOk.fresh I.hok (Nat.le_refl _))⟩
    · rw [k3.2 b (Nat.ne_of_lt (Heap.lt_size hb))]
      exact old b o hb
    · obtain ⟨o, es, ep, ho, hx, hd1, hes, hks, hnd⟩ := k1
      refine ⟨hl, ?_, ps, ?_, o, es, ep, ho, hx, hd1, hes, hnd⟩
      · exact beq_eq_false_iff_ne.mpr (Nat.ne_of_gt I.big)
      · have fr : H s.heap.objs.size = none := HOk.fresh I.hok (Nat.le_refl _)
        have lift : ∀ {kvs : List (List L2.Key × V)} {xs : List (List L2.Key × Addr × Value)}, KT H kvs xs → PySem.Paired (fun p q => p.fst = q.fst ∧ (upd H s.heap.objs.size (.dT kvs)) q.snd.fst = some (HO.tup (List.map kV p.fst)) ∧ RelV p.snd q.snd.snd) kvs xs := fun k => kt_up fr k
        exact lift hk
end Y

namespace Y
open PySem PySem.Spec PyProof.Rows L2
/-! ### cells, lists of cells -/
def ckey (c : Cell) : List L2.Key := [.inl c.1, .inl c.2]
theorem ckey_inj {a b : Cell} (h : ckey a = ckey b) : a = b := by
  injection h with h1 h2
  injection h2 with h2 _
  exact Prod.ext (Sum.inl.inj h1) (Sum.inl.inj h2)
abbrev celD (c : Cell) : PyData := .tuple [.int c.1, .int c.2]
def Cl (G : Hp) (v : V) (c : Cell) : Prop := ∃ b, v = .ref b ∧ G b = some (.tup [.int c.1, .int c.2])
section
variable {K : PySem.W.Frag} {α : Type} {G H G' H' : Hp} {M : List Addr} {v : V} {c : Cell} {p A d : Addr} {o : HO} {cs : List Cell} {Q : VK} {x y : Int} {σ : L2.St}
theorem Cl.go (h : Cl G v c) (e : Ex G G') : Cl G' v c := by
  obtain ⟨b, rfl, hb⟩ := h
  exact ⟨b, rfl, e _ _ hb⟩
theorem Cl.dp (h : Cl G v c) : Dp K G v (celD c) := by
  obtain ⟨b, rfl, hb⟩ := h
  exact .tup (.of hb) (.cons (.int _) (.cons (.int _) .nil))
/-- a tuple that stands is known from now on -/
theorem know1 {xs : List V} {q : Addr} (e : Ex G H) (h : H q = some (.tup xs)) : ∃ G', Nx [] G H G' H ∧ G' q = some (.tup xs) := by
  cases hg : G q with
  | none => exact ⟨_, (Nx.refl e).knowT h hg, upd_same⟩
  | some o =>
    have := e _ _ hg
    rw [h] at this
    cases this
    exact ⟨G, Nx.refl e, hg⟩
theorem g_cl (e : Ex G H) (q : ∀ p G' H', Nx [] G H G' H' → H p = none → Cl G' (.ref p) (x, y) → Q (.ref p) H') : MkT [.int x, .int y] H Q :=
  ⟨by show 2 ≤ sizeLine; decide, fun p hp => q p _ _ ((Nx.own e hp).know hp upd_same (e.free hp)) hp ⟨p, rfl, upd_same⟩⟩
theorem pr_mono {R S : V → α → Prop} (f : ∀ v c, R v c → S v c) : ∀ {vs : List V} {cs : List α}, PySem.Paired R vs cs → PySem.Paired S vs cs
  | _, _, .nil => .nil
  | _, _, .cons a r => .cons (f _ _ a) (pr_mono f r)
theorem pr_get {R : V → α → Prop} : ∀ {vs : List V} {cs : List α} {i : Nat} {c : α}, PySem.Paired R vs cs → cs[i]? = some c → ∃ v, vs[i]? = some v ∧ R v c
  | _, _, 0, _, .cons a r, h => by cases h; exact ⟨_, rfl, a⟩
  | _, _, i + 1, _, .cons a r, h => pr_get (i := i) r h
  | _, _, 0, _, .nil, h => by cases h
  | _, _, i + 1, _, .nil, h => by cases h
theorem pr_got {R : V → α → Prop} : ∀ {vs : List V} {cs : List α} {i : Nat} {v : V}, PySem.Paired R vs cs → vs[i]? = some v → ∃ c, cs[i]? = some c ∧ R v c
  | _, _, 0, _, .cons a r, h => by cases h; exact ⟨_, rfl, a⟩
  | _, _, i + 1, _, .cons a r, h => pr_got (i := i) r h
  | _, _, 0, _, .nil, h => by cases h
  | _, _, i + 1, _, .nil, h => by cases h
theorem pr_len {R : V → α → Prop} : ∀ {vs : List V} {cs : List α}, PySem.Paired R vs cs → vs.length = cs.length
  | _, _, .nil => rfl
  | _, _, .cons _ r => by rw [List.length_cons, List.length_cons, pr_len r]
theorem pr_app {R : V → α → Prop} : ∀ {vs : List V} {cs : List α} {ws : List V} {ds : List α}, PySem.Paired R vs cs → PySem.Paired R ws ds → PySem.Paired R (vs ++ ws) (cs ++ ds)
  | _, _, _, _, .nil, h => h
  | _, _, _, _, .cons a r, h => .cons a (pr_app r h)
theorem pr_snoc {R : V → α → Prop} {vs : List V} {cs : List α} {v : V} {c : α} (h : PySem.Paired R vs cs) (a : R v c) : PySem.Paired R (vs ++ [v]) (cs ++ [c]) := pr_app h (.cons a .nil)
theorem pr_dp {f : α → PyData} {R : V → α → Prop} (h : ∀ v c, R v c → Dp K G v (f c)) : ∀ {vs : List V} {cs : List α}, PySem.Paired R vs cs → DpAll K G vs (cs.map f)
  | _, _, .nil => .nil
  | _, _, .cons a r => .cons (h _ _ a) (pr_dp h r)
/-- a list that stands, its items told by R over what is known -/
def LsR (R : Hp → V → α → Prop) (p : Addr) (G H : Hp) (cs : List α) : Prop := ∃ vs, H p = some (.lst vs) ∧ G p = none ∧ PySem.Paired (R G) vs cs
/-- R stays when more is known -/
def Mono (R : Hp → V → α → Prop) : Prop := ∀ G G' v c, Ex G G' → R G v c → R G' v c
variable {R : Hp → V → α → Prop} {as bs : List α}
theorem LsR.go (mR : Mono R) (r : LsR R p G H as) (n : Nx M G H G' H') (hp : p ∉ M) : LsR R p G' H' as := by
  obtain ⟨vs, h, g, q⟩ := r
  exact ⟨vs, n.fr p _ hp h, n.old p g ⟨_, h, fun _ z => nomatch z⟩, pr_mono (fun v c => mR _ _ v c n.gg) q⟩
theorem LsR.upd (r : LsR R p G H as) (h : A ≠ p) : LsR R p G (upd H A o) as := by
  obtain ⟨vs, h1, g, q⟩ := r
  exact ⟨vs, by rw [upd_ne h.symm]; exact h1, g, q⟩
theorem LsR.live (r : LsR R p G H as) : H p ≠ none := by
  obtain ⟨vs, h1, _⟩ := r
  rw [h1]; exact fun z => nomatch z
theorem src_lsR (mR : Mono R) {vs : List V} (h : H p = some (.lst vs)) (q : PySem.Paired (R G) vs as) (hM : p ∉ M) : SrcP M (Itl K p) G H as.length (fun i G x => ∃ c, as[i]? = some c ∧ R G x c) where
  go := fun i G' H' n hi => ⟨vs, vs[i]'(by rw [pr_len q]; exact hi), .of (n.fr p _ hM h), by simp⟩
  stop := fun i G' H' n hi => ⟨vs, .of (n.fr p _ hM h), by rw [pr_len q]; exact hi⟩
  yld := fun i G' H' x H'' n hi y => by
    obtain ⟨rfl, f⟩ := y
    have hx := f vs (.of (n.fr p _ hM h))
    obtain ⟨c, hc, rc⟩ := pr_got q hx
    exact ⟨G', Nx.refl n.gh, c, hc, mR _ _ _ _ n.gg rc⟩
theorem g_walkR0 {P : Addr → Prop} (r : LsR R p G H as) (q : ∀ vs, H p = some (.lst vs) → PySem.Paired (R G) vs as → P p) : ∃ b, V.ref p = .ref b ∧ (∃ xs, SqL K H b xs) ∧ P b := by
  obtain ⟨vs, h, _, hp⟩ := r
  exact ⟨p, rfl, ⟨vs, .of h⟩, q vs h hp⟩
/-- a loop over told items of any kind -/
theorem g_forQ {D : Ends} {g : TG} {tb : TS} {J : It} {n : Nat} {P : Nat → Hp → V → Prop} (S : SrcP M J G H n P) (e : Ex G H) (Pv : Nat → L2.St → Hp → Hp → Prop) (h0 : Pv 0 σ G H)
    (hs : ∀ i v σ' G' H' G1 H1, i < n → Nx M G H G' H' → Pv i σ' G' H' → Nx [] G' H' G1 H1 → P i G1 v →
      g v σ' H1 fun σ2 H2 => tb { D with nx := fun σ3 H3 => ∃ G3, Nx M G H G3 H3 ∧ Pv (i + 1) σ3 G3 H3, ct := fun σ3 H3 => ∃ G3, Nx M G H G3 H3 ∧ Pv (i + 1) σ3 G3 H3, bk := D.nx } σ2 H2)
    (hd : ∀ σ' G' H', Nx M G H G' H' → Pv n σ' G' H' → D.nx σ' H') : ForW J g tb D σ H := by
  refine ⟨fun i m σ' H' => m = n - i ∧ i ≤ n ∧ ∃ G', Nx M G H G' H' ∧ Pv i σ' G' H', ⟨n, by simp, Nat.zero_le _, G, Nx.refl e, h0⟩, ?_⟩
  rintro i m σ' H' ⟨rfl, hi, G', nx, p⟩
  by_cases hlt : i < n
  · refine .inr ⟨S.go i G' H' nx hlt, fun σ3 H3 => ∃ G3, Nx M G H G3 H3 ∧ Pv (i + 1) σ3 G3 H3, fun σ3 H3 ⟨G3, n3, p3⟩ => ⟨n - (i + 1), by omega, rfl, hlt, G3, n3, p3⟩, fun v H1 y => ?_⟩
    obtain ⟨G1, n1, d1⟩ := S.yld i G' H' v H1 nx hlt y
    exact hs i v σ' G' H' G1 H1 hlt nx p n1 d1
  · have e' : i = n := by omega
    subst e'
    exact .inl ⟨S.stop _ G' H' nx (Nat.le_refl _), hd σ' G' H' nx p⟩
theorem cl_mono : Mono Cl := fun _ _ _ _ e h => h.go e
abbrev ClsAt (p : Addr) (G H : Hp) (cs : List Cell) : Prop := LsR Cl p G H cs
theorem ClsAt.lst (r : ClsAt p G H cs) : LstAt K p G H (cs.map celD) := by
  obtain ⟨vs, h, g, q⟩ := r
  exact ⟨vs, h, g, pr_dp (fun v c h => h.dp) q⟩
theorem g_lsrN {xs : List V} (e : Ex G H) (h : PySem.Paired (R G) xs as) (hl : as.length ≤ 100000) (q : ∀ p H', Nx [] G H G H' → H p = none → LsR R p G H' as → Q (.ref p) H') : MkL xs H Q :=
  ⟨by rw [pr_len h]; exact szle hl, fun p hp => q p _ (Nx.own e hp) hp ⟨_, upd_same, e.free hp, h⟩⟩
theorem g_lsrCat {b : Addr} (e : Ex G H) (r1 : LsR R p G H as) (r2 : LsR R b G H bs) (hl : as.length + bs.length ≤ 100000) (q : ∀ r H', Nx [] G H G H' → H r = none → LsR R r G H' (as ++ bs) → Q (.ref r) H') : rCat (.ref p) (.ref b) H Q := by
  obtain ⟨xs, h1, g1, q1⟩ := r1
  obtain ⟨ys, h2, g2, q2⟩ := r2
  exact g_cat h1 h2 (by rw [pr_len q1, pr_len q2]; exact szle hl) e fun r H' n hr hh gr => q r H' n hr ⟨_, hh, gr, pr_app q1 q2⟩
theorem g_lsrApp {a : α} (mR : Mono R) (e : Ex G H) (r : LsR R p G H as) (ha : R G v a) (hl : as.length < 100000) (q : ∀ H', Nx [p] G H G H' → LsR R p G H' (as ++ [a]) → Q .non H') : rAppend (.ref p) [v] H Q := by
  obtain ⟨xs, h, g, hq⟩ := r
  exact ⟨p, xs, v, rfl, rfl, h, by rw [pr_len hq]; exact szl (by omega), q _ (Nx.set e g (by simp)) ⟨_, upd_same, g, pr_snoc hq ha⟩⟩
/-- an item of such a list, by its place -/
theorem g_ixLsR {i : Int} {k : Nat} {a : α} (r : LsR R p G H as) (hk : as[k]? = some a) (hi : i = (k : Int)) (q : ∀ v, R G v a → Q v H) : rIxL K (.ref p) (.int i) H Q := by
  obtain ⟨xs, h, g, hq⟩ := r
  obtain ⟨v, hv, rv⟩ := pr_get hq hk
  exact g_ixM h hv hi (q v rv)
end
end Y
/-! ### dicts of cells -/
namespace Y
open PySem PySem.Spec PyProof.Rows L2
abbrev Pic := List (Cell × Int)
def picK (m : Pic) : List (List L2.Key × V) := m.map fun e => (ckey e.1, V.int e.2)
/-- a dict of cells that stands; it may be locked -/
def PicRd (d : Addr) (G H : Hp) (m : Pic) : Prop := Rd H d (.dT (picK m)) ∧ G d = none
def PicAt (d : Addr) (G H : Hp) (m : Pic) : Prop := H d = some (.dT (picK m)) ∧ G d = none
section
variable {K : PySem.W.Frag} {G H G' H' : Hp} {M : List Addr} {v y : V} {c : Cell} {p A d : Addr} {o : HO} {m : Pic} {Q : VK} {σ : L2.St} {i : Int} {R : Hp → Prop}
theorem PicAt.rd (r : PicAt d G H m) : PicRd d G H m := ⟨.inl r.1, r.2⟩
theorem PicAt.go (r : PicAt d G H m) (n : Nx M G H G' H') (hd : d ∉ M) : PicAt d G' H' m := ⟨n.fr d _ hd r.1, n.old d r.2 ⟨_, r.1, fun _ z => nomatch z⟩⟩
theorem PicRd.go (r : PicRd d G H m) (n : Nx M G H G' H') (hd : d ∉ M) : PicRd d G' H' m := by
  obtain ⟨h | ⟨o, h⟩, g⟩ := r
  · exact ⟨.inl (n.fr d _ hd h), n.old d g ⟨_, h, fun _ z => nomatch z⟩⟩
  · exact ⟨.inr ⟨o, n.fr d _ hd h⟩, n.old d g ⟨_, h, fun _ z => nomatch z⟩⟩
theorem PicAt.upd (r : PicAt d G H m) (h : A ≠ d) : PicAt d G (upd H A o) m := ⟨by rw [upd_ne h.symm]; exact r.1, r.2⟩
theorem PicAt.live (r : PicAt d G H m) : H d ≠ none := by rw [r.1]; exact fun z => nomatch z
theorem pic_get {c : Cell} : ∀ {m : Pic}, valV (picK m) (ckey c) = (gtM m c).map V.int
  | [] => rfl
  | (k, x) :: m => by
    have ih := pic_get (c := c) (m := m)
    unfold valV picK gtM at ih ⊢
    rw [List.map_cons]
    by_cases h : k = c
    · rw [List.find?_cons_of_pos (by simp [h]), List.find?_cons_of_pos (by simp [h])]
      rfl
    · rw [List.find?_cons_of_neg (by simpa using fun z => h (ckey_inj z)), List.find?_cons_of_neg (by simpa using h)]
      exact ih
theorem pic_put : putK (picK m) (ckey c) (.int i) = picK (ptM m c i) := by
  have e : putK (picK m) (ckey c) (.int i) = ptM (picK m) (ckey c) (.int i) := rfl
  rw [e]
  unfold ptM picK
  rw [List.any_map]
  have e2 : (m.any ((fun p => decide (p.1 = ckey c)) ∘ fun e : Cell × Int => (ckey e.1, V.int e.2))) = m.any fun p => decide (p.1 = c) := by
    congr 1
    funext e
    exact decide_eq_decide.mpr ⟨fun h => ckey_inj h, fun h => congrArg ckey h⟩
  rw [e2]
  split
  · rw [List.map_map, List.map_map]
    refine List.map_congr_left fun e _ => ?_
    show (if ckey e.1 = ckey c then (ckey e.1, V.int i) else (ckey e.1, V.int e.2)) = (ckey (if e.1 = c then (e.1, i) else e).1, V.int (if e.1 = c then (e.1, i) else e).2)
    by_cases h : e.1 = c
    · rw [if_pos (congrArg ckey h), if_pos h]
    · rw [if_neg (fun z => h (ckey_inj z)), if_neg h]
  · rw [List.map_append]
    rfl
theorem g_pcIn (e : Ex G H) (r : PicRd d G H m) (h : Cl G y c) (q : Q (.bl (gtM m c).isSome) H) : DInW Q y (.ref d) H := by
  obtain ⟨b, rfl, hb⟩ := h
  exact ⟨d, _, rfl, .inr ⟨_, ckey c, b, r.1, rfl, e _ _ hb, rfl⟩, by rw [pic_get, Option.isSome_map]; exact q⟩
theorem g_pcNi (e : Ex G H) (r : PicRd d G H m) (h : Cl G y c) (q : Q (.bl (!(gtM m c).isSome)) H) : DNiW Q y (.ref d) H := by
  obtain ⟨b, rfl, hb⟩ := h
  exact ⟨d, _, rfl, .inr ⟨_, ckey c, b, r.1, rfl, e _ _ hb, rfl⟩, by rw [pic_get, Option.isSome_map]; exact q⟩
theorem g_pcGet (e : Ex G H) (r : PicRd d G H m) (h : Cl G y c) (hg : gtM m c = some i) (q : Q (.int i) H) : DGeW Q (.ref d) y H := by
  obtain ⟨b, rfl, hb⟩ := h
  exact ⟨d, .int i, rfl, .inr ⟨_, ckey c, b, r.1, rfl, e _ _ hb, by rw [pic_get, hg]; rfl⟩, q⟩
theorem g_pcPut (e : Ex G H) (r : PicAt d G H m) (h : Cl G y c) (hl : m.length < 100000) (q : ∀ H', Nx [d] G H G H' → PicAt d G H' (ptM m c i) → R H') : DPuW R (.int i) (.ref d) y H := by
  obtain ⟨b, rfl, hb⟩ := h
  refine ⟨d, _, rfl, .inr ⟨_, ckey c, b, r.1, rfl, e _ _ hb, by unfold picK; rw [List.length_map]; exact szl (by omega), rfl⟩, q _ (Nx.set e r.2 (by simp)) ⟨?_, r.2⟩⟩
  rw [upd_same, pic_put]
theorem g_pcNew (e : Ex G H) (q : ∀ p H', Nx [] G H G H' → H p = none → PicAt p G H' [] → Q (.ref p) H') : tDNewT σ H Q := fun p hp => q p _ (Nx.own e hp) hp ⟨upd_same, e.free hp⟩
theorem g_pcLen (r : PicAt d G H m) (q : Q (.int (m.length : Int)) H) : rLenT [.ref d] H Q := ⟨d, _, rfl, r.1, by rw [show (picK m).length = m.length from List.length_map ..]; exact q⟩
def rListT : List V → Hp → VK → Prop := fun xs H Q => ∃ d kvs, xs = [V.ref d] ∧ Rd H d (.dT kvs) ∧ ∀ p bs, H p = none → IsKeys H kvs bs → Q (.ref p) (L2.upd H p (.lst (bs.map V.ref)))
theorem call_listT {X : Cx} (hc : X.calm = true) : CallR X (.type "list") rListT := call_list_dT hc
theorem know_keys : ∀ {m : Pic} {bs : List Addr} {G : Hp}, Ex G H → IsKeys H (picK m) bs → ∃ G', Nx [] G H G' H ∧ PySem.Paired (Cl G') (bs.map V.ref) (m.map (·.1))
  | [], _, G, e, .nil => ⟨G, Nx.refl e, .nil⟩
  | (c, x) :: m, b :: bs, G, e, .cons h r => by
    obtain ⟨G1, n1, p1⟩ := know_keys (m := m) e r
    obtain ⟨G2, n2, hb⟩ := know1 n1.gh h
    exact ⟨G2, n1.trans n2, .cons ⟨b, rfl, hb⟩ (pr_mono (fun _ _ h => h.go n2.gg) p1)⟩
theorem g_pcList (e : Ex G H) (r : PicRd d G H m) (q : ∀ p G' H', Nx [] G H G' H' → H p = none → ClsAt p G' H' (m.map (·.1)) → Q (.ref p) H') : rListT [.ref d] H Q := by
  refine ⟨d, _, rfl, r.1, fun p bs hp hk => ?_⟩
  obtain ⟨G1, n1, h1⟩ := know_keys e hk
  exact q p G1 _ (n1.trans (Nx.own n1.gh hp)) hp ⟨_, upd_same, n1.gh.free hp, h1⟩
/-- the hashes of the cells are apart -/
def HNd (m : Pic) : Prop := (m.map fun e => kHash (ckey e.1)).Nodup
theorem g_pcCopy (e : Ex G H) (r : PicRd d G H m) (hn : HNd m) (q : ∀ p H', Nx [] G H G H' → H p = none → PicAt p G H' m → Q (.ref p) H') : rDictT [.ref d] H Q := by
  refine ⟨d, _, rfl, r.1, fun x hx a ha => ?_, ?_, fun p hp => q p _ (Nx.own e hp) hp ⟨upd_same, e.free hp⟩⟩
  · obtain ⟨z, _, rfl⟩ := List.mem_map.mp hx
    unfold ckey at ha
    simp only [List.mem_cons, List.not_mem_nil, or_false] at ha
    rcases ha with rfl | rfl <;> exact ⟨_, rfl⟩
  · unfold picK
    rw [List.map_map]
    exact hn
theorem src_pic {od : Obj} (h : H d = some (.frz od (.dT (picK m)))) (hM : d ∉ M) : SrcP M (Itkt d od (picK m)) G H m.length (fun i G v => ∃ c, (m.map (·.1))[i]? = some c ∧ Cl G v c) where
  go := fun i G' H' n hi => ⟨n.fr d _ hM h, by unfold picK; rw [List.length_map]; exact hi⟩
  stop := fun i G' H' n hi => ⟨n.fr d _ hM h, by unfold picK; rw [List.length_map]; exact hi⟩
  yld := fun i G' H' x H'' n hi y => by
    obtain ⟨rfl, k, v, q, hk, rfl, hq⟩ := y
    unfold picK at hk
    rw [List.getElem?_map] at hk
    obtain ⟨e0, he, h2⟩ := Option.map_eq_some_iff.mp hk
    cases h2
    obtain ⟨G2, n2, hb⟩ := know1 n.gh hq
    exact ⟨G2, n2, e0.1, by rw [List.getElem?_map, he]; rfl, q, rfl, hb⟩
/-- what is walked is locked meanwhile -/
theorem g_lockE {t : TE} (r : PicAt d G H m) (q : ∀ od, t σ (L2.upd H d (.frz od (.dT (picK m)))) (fun v H' => H' d = some (.frz od (.dT (picK m))) ∧ Q v (L2.upd H' d (.dT (picK m))))) : tLockE t σ H Q := ⟨d, _, r.1, trivial, q⟩
theorem g_lockS {t : TS} {D : Ends} (r : PicAt d G H m) (q : ∀ od, t ⟨fun σ' H' => H' d = some (.frz od (.dT (picK m))) ∧ D.nx σ' (L2.upd H' d (.dT (picK m))), fun v H' => H' d = some (.frz od (.dT (picK m))) ∧ D.rt v (L2.upd H' d (.dT (picK m))), fun σ' H' => H' d = some (.frz od (.dT (picK m))) ∧ D.bk σ' (L2.upd H' d (.dT (picK m))), fun σ' H' => H' d = some (.frz od (.dT (picK m))) ∧ D.ct σ' (L2.upd H' d (.dT (picK m)))⟩ σ (L2.upd H d (.frz od (.dT (picK m))))) : tLock t D σ H := ⟨d, _, r.1, trivial, q⟩
theorem pic_lock {od : Obj} (r : PicAt d G H m) (e : Ex G H) : Ex G (L2.upd H d (.frz od (.dT (picK m)))) ∧ PicRd d G (L2.upd H d (.frz od (.dT (picK m)))) m := ⟨e.out r.2, .inr ⟨od, upd_same⟩, r.2⟩
theorem pic_unlock {od : Obj} (r : PicAt d G H m) (hM : d ∉ M) (n : Nx M G (L2.upd H d (.frz od (.dT (picK m)))) G' H') : H' d = some (.frz od (.dT (picK m))) ∧ Nx M G H G' (L2.upd H' d (.dT (picK m))) ∧ PicAt d G' (L2.upd H' d (.dT (picK m))) m := by
  obtain ⟨a, b, c⟩ := unlock_nx r.1 r.2 hM n
  exact ⟨a, c, upd_same, b⟩
theorem g_iKeysT {td : TE} {R2 : It → Hp → Prop} {od : Obj} {kvs : List (List L2.Key × V)} (q : td σ H fun x H1 => x = .ref d ∧ H1 d = some (.frz od (.dT kvs)) ∧ R2 (Itkt d od kvs) H1) (hm : ∀ (P Q : VK), (∀ x H1, P x H1 → Q x H1) → td σ H P → td σ H Q) : iKeys td σ H R2 := hm _ _ (fun x H1 ⟨a, b, c⟩ => ⟨d, od, a, .inr ⟨kvs, b, c⟩⟩) q
/-- two dicts of the same cells and values, whatever the order -/
theorem eqR_pic {a b : Addr} {m2 : Pic} (r1 : PicAt a G H m) (r2 : PicAt b G H m2) (hl : m.length = m2.length) (hs : ∀ c x, (c, x) ∈ m → gtM m2 c = some x) (n : Nat) : EqR2 K H (EqW K H (n + 1)) (.ref a) (.ref b) := by
  refine .inr (.inr (.inr ⟨a, b, _, _, rfl, rfl, r1.1, r2.1, by unfold picK; rw [List.length_map, List.length_map]; exact hl, fun p hp => ?_⟩))
  obtain ⟨⟨c, x⟩, hx, rfl⟩ := List.mem_map.mp hp
  exact ⟨.int x, by rw [pic_get, hs c x hx]; rfl, .inl ⟨rfl, rfl⟩⟩
end
end Y

namespace Y
open PySem PySem.Spec PyProof.Rows L2
/-! ### a def that makes a lambda: its code is told; the table of its lambdas stands -/
theorem okC {P : Program} {w : World} {K : PySem.W.Frag} {mg : Str → Option Value} {base : Heap} {x qual : Str} {params : Arguments} {body : List Stmt} {scope : Scope} {dvs : List V} {kws : List (Str × V)} {p : Str × Option Str} {fd : FuncData} {CX : CXT} {N ps : List Str} {k : Nat} {sp : Sp}
    (F : FunD K x qual params body scope dvs kws (He.fAd K p) fd) (sc : FnScope N ps scope) (h1 : ∀ (vs : List V) (H : Hp) (Q : VK) (E : XK), sp vs H Q E → vs.length = ps.length)
    (h2 : ∀ (A : Around) (outer : List Env) (s : Shared) (H : Hp) (vs : List V) (Q : VK) (E : XK), Room k (A.deeper (envOfC qual scope s.heap.objs.size (He.fAd K p) (.ref (He.codeOf K p)))) → sp vs H Q E → ∃ t, PSs (cxOf CX P w K mg base N qual scope (He.fAd K p) (.ref (He.codeOf K p)) A outer s H E) body t ∧ t { nx := fun x H' => Q V.non H', rt := Q } (L2.start N vs) H) :
    FnOk P w K mg base CX (k + 1) (He.fAd K p) fd ps sp := by
  obtain ⟨oc, od, dV, kV, doc, pm, an, cdv, ct, osl, rfl, hl, hc, _, _⟩ := F.ex
  obtain ⟨c, rfl⟩ := He.codeIn_ref hc
  have e : He.codeOf K p = c := He.codeOf_eq hl rfl
  refine ⟨h1, fun A outer s H args us vs Q E hr e0 hb hv hsp => ?_⟩
  exact LamX.run_ofS hl hc sc hr e0 hb hv (h1 _ _ _ _ hsp) fun hr2 => by
    rw [← e] at hr2 ⊢
    exact h2 A outer s H vs Q E hr2 hsp
/-- the table at P, apart from what is known; its codes are known -/
def TabAt (P : Addr) (q : Str) (G H : Hp) : Prop := G P = none ∧ ∃ tab, H P = some (.tbl tab) ∧ TriplesOk tab.toList ∧ ∀ pos cv, codeAmong pos tab.toList = some cv → ∃ c, cv = .ref c ∧ G c = some (LamX.CodeO c q)
section
variable {K : PySem.W.Frag} {P a : Addr} {q : Str} {G H G' H' : Hp} {M : List Addr} {cs : List Cell} {ps : Arguments} {body : Expr} {sc : Scope} {Q : VK} {σ : L2.St}
theorem TabAt.go (t : TabAt P q G H) (n : Nx M G H G' H') (hP : P ∉ M) : TabAt P q G' H' := by
  obtain ⟨g, tab, h, hT, hA⟩ := t
  exact ⟨n.old P g ⟨_, h, fun _ z => nomatch z⟩, tab, n.fr P _ hP h, hT, fun pos cv hc => by
    obtain ⟨c, e, hg⟩ := hA pos cv hc
    exact ⟨c, e, n.gg _ _ hg⟩⟩
theorem TabAt.tab (t : TabAt P q G H) (e : Ex G H) : LamX.TabS H P q := by
  obtain ⟨g, tab, h, hT, hA⟩ := t
  exact ⟨tab, h, hT, fun pos cv hc => by
    obtain ⟨c, e2, hg⟩ := hA pos cv hc
    exact ⟨c, e2, e _ _ hg⟩⟩
theorem TabAt.live (t : TabAt P q G H) : H P ≠ none := by
  obtain ⟨g, tab, h, _⟩ := t
  rw [h]; exact fun z => nomatch z
theorem TabAt.neL {α : Type} {R : Hp → V → α → Prop} {as : List α} (t : TabAt P q G H) (r : LsR R a G H as) : a ≠ P := fun z => by
  obtain ⟨g, tab, h, _⟩ := t
  obtain ⟨vs, h1, _⟩ := r
  rw [z, h] at h1
  cases h1
theorem TabAt.neP {m : Pic} (t : TabAt P q G H) (r : PicAt a G H m) : a ≠ P := fun z => by
  obtain ⟨g, tab, h, _⟩ := t
  have h1 := r.1
  rw [z, h] at h1
  cases h1
theorem TabAt.neD {m : List (Key × PyData)} (t : TabAt P q G H) (r : DctAt K a G H m) : a ≠ P := fun z => by
  obtain ⟨g, tab, h, _⟩ := t
  obtain ⟨_, h1, _⟩ := r
  rw [z, h] at h1
  cases h1
theorem g_srtYX (e : Ex G H) (t : TabAt P q G H) (r : ClsAt a G H cs) (L : LamYX ps body sc) (k : ∀ p G' H', Nx [P] G H G' H' → TabAt P q G' H' → H p = none → ClsAt p G' H' (cs.mergeSort yxLe) → Q (.ref p) H') :
    tCons (tLamE P q ps body sc) tNil σ H fun zs H2 => rSrtYX K [.ref a] zs H2 Q := by
  have haP := t.neL r
  refine ⟨t.tab e, fun H1 f c' hG hT hf hc => ?_⟩
  have key : ∃ G1, Nx [P] G H G1 H1 ∧ TabAt P q G1 H1 := by
    obtain ⟨g, tab, h, hT0, hA⟩ := id t
    rcases hG with ⟨rfl, _⟩ | ⟨tab2, pos, h2, hc0, rfl⟩
    · exact ⟨G, Nx.refl e, t⟩
    · rw [h] at h2
      cases h2
      have hcP : c' ≠ P := fun z => by rw [z, h] at hc0; cases hc0
      have n1 : Nx [P] G H G (L2.upd H P (.tbl (tab ++ #[rawInt ↑pos.line, rawInt ↑pos.col, .ref c']))) := Nx.set e g (by simp)
      have n2 := Nx.new (o := LamX.CodeO c' q) n1.gh (p := c') (by rw [upd_ne hcP]; exact hc0)
      refine ⟨_, n1.trans n2.pure, by rw [upd_ne hcP.symm]; exact g, _, by rw [upd_ne hcP.symm, upd_same], ?_, fun p' cv hp => ?_⟩
      · rw [Array.toList_append]
        exact TriplesOk_snoc _ _ _ _ hT0
      · rw [Array.toList_append] at hp
        rcases LamX.among_app _ hT0 hp with h3 | h3
        · obtain ⟨c2, e2, h4⟩ := hA p' cv h3
          exact ⟨c2, e2, by rw [upd_ne (fun z => by rw [z, n1.gh.free (by rw [upd_ne hcP]; exact hc0)] at h4; cases h4)]; exact h4⟩
        · exact ⟨c', h3, upd_same⟩
  obtain ⟨G1, n1, t1⟩ := key
  have n2 : Nx [] G1 H1 G1 (L2.upd H1 f (LamO f q ps body sc c')) := Nx.own n1.gh hf
  have r1 := r.go cl_mono n1 (by simp [haP])
  obtain ⟨vs, h1, g1, p1⟩ := r1.go cl_mono n2 (by simp)
  have hcf : c' ≠ f := fun z => by rw [z, hf] at hc; cases hc
  refine ⟨a, f, c', q, ps, body, sc, vs, cs, Cl G1, fun v c hv => ?_, rfl, rfl, L, upd_same, by rw [upd_ne hcf]; exact hc, .of h1, p1, fun p ys hp hy => ?_⟩
  · obtain ⟨b, rfl, hb⟩ := hv
    exact ⟨b, rfl, .of (n2.gh _ _ hb)⟩
  · have n3 : Nx [] G1 (L2.upd H1 f (LamO f q ps body sc c')) G1 (L2.upd (L2.upd H1 f (LamO f q ps body sc c')) p (.lst ys)) := Nx.own n2.gh hp
    exact k p G1 _ (n1.trans (n2.trans n3).pure) (t1.go (n2.trans n3) (by simp)) (n1.fresh (n2.fresh hp)) ⟨ys, upd_same, n2.gh.free hp, hy⟩
/-- the first heap, the table hidden -/
def hide (H : Hp) (P : Addr) : Hp := fun b => if b = P then none else H b
theorem start_tab {ns : List Int} (h : H P = some (.tbl #[])) (hs : SqL K H a (ns.map V.int)) : Ex (hide H P) H ∧ TabAt P q (hide H P) H ∧ SqL K (hide H P) a (ns.map V.int) := by
  refine ⟨fun b o hb => ?_, ⟨by simp [hide], #[], h, ?_⟩, ?_⟩
  · unfold hide at hb
    split at hb
    · cases hb
    · exact hb
  · obtain ⟨ps, h1, h2, h3⟩ := LamX.TabS.nil (q := q) h
    rw [h] at h1
    cases h1
    exact ⟨h2, fun pos cv hc => nomatch hc⟩
  · rcases hs with (h1 | ⟨o, h1⟩) | h1
    · exact .inl (.inl (by unfold hide; rw [if_neg (fun z => by rw [z, h] at h1; cases h1)]; exact h1))
    · exact .inl (.inr ⟨o, by unfold hide; rw [if_neg (fun z => by rw [z, h] at h1; cases h1)]; exact h1⟩)
    · exact .inr h1
end
end Y
namespace Y
open PySem PySem.Spec PyProof.Rows L2
theorem call_dictTR {X : Cx} {k : Nat} (hr : Room k X.A) : CallR X (.type "dict") rDictT := call_dictT (by have := hr.un; omega)
end Y
namespace Y
open PySem PySem.Spec PyProof.Rows L2
theorem g_ckw {r : List V → List V → Hp → VK → Prop} {ta tk : TA} {σ : L2.St} {H : Hp} {Q : VK} (q : ta σ H fun vs H1 => tk σ H1 fun zs H2 => r vs zs H2 Q) : tCKw r ta tk σ H Q := q
end Y

namespace Y
open PySem PySem.Spec PyProof.Rows L2
section
variable {K : PySem.W.Frag} {α β : Type} {G H G' H' : Hp} {M : List Addr} {v : V} {c : Cell} {p A a d : Addr} {cs : List Cell} {Q : VK} {σ : L2.St} {te : TE} {tt : TT} {g : TG} {J : It} {n : Nat} {P : Nat → Hp → V → Prop} {js : List Nat}
/-- the items of a known tuple, as they are -/
theorem src_rawT {xs : List V} (h : SqT K G a xs) : SrcP M (Itt K a) G H xs.length (fun i _ x => xs[i]? = some x) where
  go := fun i G' H' n hi => ⟨xs, xs[i], n.gh.seqT (n.gg.seqT h), by simp [hi]⟩
  stop := fun i G' H' n hi => ⟨xs, n.gh.seqT (n.gg.seqT h), hi⟩
  yld := fun i G' H' x H'' n hi y => by
    obtain ⟨rfl, f⟩ := y
    exact ⟨G', Nx.refl n.gh, f xs (n.gh.seqT (n.gg.seqT h))⟩
theorem g_walkRawT {P : Addr → Prop} {xs : List V} (e : Ex G H) (h : SqT K G a xs) (q : P a) : ∃ b, V.ref a = .ref b ∧ (∃ xs, SqT K H b xs) ∧ P b := ⟨a, rfl, ⟨xs, e.seqT h⟩, q⟩
/-- a comprehension over told items, its own items told by R' -/
theorem g_lcR {R' : Hp → V → β → Prop} {es : Nat → List β} (mR : Mono R') (S : SrcP M J G H n P) (e : Ex G H) (hA : H A = none) (hM : ∀ b ∈ M, H b ≠ none) (hz : n < sizeLine) (e0 : es 0 = [])
    (hs : ∀ i v acc G' H', i < n → P i G' v → Nx M G H G' H' → PySem.Paired (R' G') acc (es i) → ∀ (QE : VK) (QN : Hp → Prop),
      (∀ y G4 H4 b, Nx M G' H' G4 H4 → R' G4 y b → es (i + 1) = es i ++ [b] → QE y H4) → (∀ G3 H3, Nx M G' H' G3 H3 → es (i + 1) = es i → QN H3) →
      g v (wipe σ js) H' fun σ2 H2 => wipe σ2 js = wipe σ js ∧ tt σ2 H2 fun b H3 => if b = true then te σ2 H3 QE else QN H3)
    (hd : ∀ G' H', Nx M G H G' H' → LsR R' A G' H' (es n) → Q (.ref A) H') : LcW J g tt te js σ A Q H := by
  refine g_lcP S e hA hM hz (fun i acc G' _ => PySem.Paired (R' G') acc (es i)) (fun _ _ _ _ _ _ h => h) (fun _ _ _ _ _ _ n h => pr_mono (fun v c => mR _ _ v c n.gg) h) (by rw [e0]; exact .nil) (fun i v acc G' H' hi hp n _ hj QE QN k1 k2 => ?_) fun G' H' ys hj n g h _ => hd G' H' n ⟨ys, h, g, hj⟩
  exact hs i v acc G' H' hi hp n hj QE QN (fun y G4 H4 b n4 dy ee => k1 y G4 H4 n4 (by rw [ee]; exact pr_snoc (pr_mono (fun v c => mR _ _ v c n4.gg) hj) dy)) fun G3 H3 n3 ee => k2 G3 H3 n3 (by rw [ee]; exact pr_mono (fun v c => mR _ _ v c n3.gg) hj)
end
/-! ### the one sorted list -/
theorem sorted_uniq {α : Type} {le : α → α → Prop} (anti : ∀ a b, le a b → le b a → a = b) : ∀ {xs ys : List α}, xs.Perm ys → xs.Pairwise le → ys.Pairwise le → xs = ys
  | [], ys, h, _, _ => by rw [List.nil_perm.mp h]
  | x :: xs, [], h, _, _ => by cases List.perm_nil.mp h
  | x :: xs, y :: ys, h, h1, h2 => by
    rw [List.pairwise_cons] at h1 h2
    have e : x = y := by
      rcases List.mem_cons.mp (h.mem_iff.mp (List.mem_cons_self ..) : x ∈ y :: ys) with e | hx
      · exact e
      rcases List.mem_cons.mp (h.mem_iff.mpr (List.mem_cons_self ..) : y ∈ x :: xs) with e | hy
      · exact e.symm
      exact anti _ _ (h1.1 _ hy) (h2.1 _ hx)
    subst e
    rw [sorted_uniq anti (List.Perm.cons_inv h) h1.2 h2.2]
def lexLe (p q : Cell) : Bool := decide (p.1 < q.1 ∨ p.1 = q.1 ∧ p.2 ≤ q.2)
theorem lexLe_trans (a b c : Cell) (h1 : lexLe a b = true) (h2 : lexLe b c = true) : lexLe a c = true := by
  unfold lexLe at *
  rw [decide_eq_true_eq] at *
  omega
theorem lexLe_total (a b : Cell) : (lexLe a b || lexLe b a) = true := by
  unfold lexLe
  rw [Bool.or_eq_true, decide_eq_true_eq, decide_eq_true_eq]
  omega
theorem lexLe_anti (a b : Cell) (h1 : lexLe a b = true) (h2 : lexLe b a = true) : a = b := by
  unfold lexLe at *
  rw [decide_eq_true_eq] at *
  exact Prod.ext (by omega) (by omega)
theorem yxLe_trans (a b c : Cell) (h1 : yxLe a b = true) (h2 : yxLe b c = true) : yxLe a c = true := by
  unfold yxLe at *
  rw [decide_eq_true_eq] at *
  omega
theorem yxLe_total (a b : Cell) : (yxLe a b || yxLe b a) = true := by
  unfold yxLe
  rw [Bool.or_eq_true, decide_eq_true_eq, decide_eq_true_eq]
  omega
theorem yxLe_anti (a b : Cell) (h1 : yxLe a b = true) (h2 : yxLe b a = true) : a = b := by
  unfold yxLe at *
  rw [decide_eq_true_eq] at *
  exact Prod.ext (by omega) (by omega)
theorem lexLe_not {p q : Cell} : SrtO.lexB q p = false → lexLe p q = true := fun h => by
  unfold lexLe
  unfold SrtO.lexB at h
  rw [decide_eq_true_eq]
  split at h
  · have := of_decide_eq_false h
    omega
  · have := of_decide_eq_false h
    omega
theorem inRows_perm {cs ds : List Cell} (h : cs.Perm ds) : cs.mergeSort yxLe = ds.mergeSort yxLe :=
  sorted_uniq (le := fun a b => yxLe a b = true) yxLe_anti ((List.mergeSort_perm _ _).trans (h.trans (List.mergeSort_perm _ _).symm)) (List.pairwise_mergeSort yxLe_trans yxLe_total _) (List.pairwise_mergeSort yxLe_trans yxLe_total _)
def swp (c : Cell) : Cell := (c.2, c.1)
theorem rows_swap {cs : List Cell} : ((cs.map swp).mergeSort lexLe).map swp = cs.mergeSort yxLe := by
  refine sorted_uniq (le := fun a b => yxLe a b = true) yxLe_anti ?_ ?_ (List.pairwise_mergeSort yxLe_trans yxLe_total _)
  · have h1 := (List.mergeSort_perm (cs.map swp) lexLe).map swp
    have e : (cs.map swp).map swp = cs := by
      rw [List.map_map]
      have : cs.map (swp ∘ swp) = cs.map id := List.map_congr_left fun c _ => rfl
      rw [this, List.map_id]
    rw [e] at h1
    exact h1.trans (List.mergeSort_perm _ _).symm
  · refine List.pairwise_map.mpr ((List.pairwise_mergeSort lexLe_trans lexLe_total _).imp fun {a b} h => ?_)
    unfold lexLe at h
    unfold yxLe swp
    simpa using h
/-- sorted of cells by column, then row -/
def cellV (H : Hp) (v : V) : Cell := match v with
  | .ref t => match H t with
    | some (.tup [.int x, .int y]) => (x, y)
    | _ => (0, 0)
  | _ => (0, 0)
theorem cellV_of {G H : Hp} {v : V} {c : Cell} (e : Ex G H) (h : Cl G v c) : cellV H v = c := by
  obtain ⟨b, rfl, hb⟩ := h
  show (match H b with | some (.tup [.int x, .int y]) => ((x, y) : Cell) | _ => (0, 0)) = c
  rw [e _ _ hb]
theorem g_srtP {K : PySem.W.Frag} {G H : Hp} {a : Addr} {cs : List Cell} {Q : VK} (e : Ex G H) (r : ClsAt a G H cs) (q : ∀ p H', Nx [] G H G H' → H p = none → ClsAt p G H' (cs.mergeSort lexLe) → Q (.ref p) H') : rSortedPO K [.ref a] H Q := by
  obtain ⟨vs, h, g, hp⟩ := r
  have hm : ∀ v ∈ vs, Cl G v (cellV H v) := fun v hv => by
    obtain ⟨i, hi⟩ := List.getElem?_of_mem hv
    obtain ⟨c, _, hc⟩ := pr_got hp hi
    rw [cellV_of e hc]
    exact hc
  have hcs : vs.map (cellV H) = cs := by
    clear h g hm q
    induction hp with
    | nil => rfl
    | cons a _ ih => rw [List.map_cons, cellV_of e a, ih]
  refine ⟨a, vs, cellV H, rfl, .of h, fun x hx => ?_, fun ys p hs hst hpn => q p _ (Nx.own e hpn) hpn ⟨ys, upd_same, e.free hpn, ?_⟩⟩
  · obtain ⟨b, rfl, hb⟩ := hm x hx
    exact ⟨b, rfl, e _ _ hb⟩
  · have e1 : ys.map (cellV H) = cs.mergeSort lexLe := by
      refine sorted_uniq (le := fun a b => lexLe a b = true) lexLe_anti ?_ ?_ (List.pairwise_mergeSort lexLe_trans lexLe_total _)
      · have := hst.perm.map (cellV H)
        rw [hcs] at this
        exact this.trans (List.mergeSort_perm _ _).symm
      · exact List.pairwise_map.mpr (hs.imp fun {x y} h => lexLe_not h)
    rw [← e1]
    have hm2 : ∀ v ∈ ys, Cl G v (cellV H v) := fun v hv => hm v (hst.perm.mem_iff.mp hv)
    clear e1 hst hs
    induction ys with
    | nil => exact .nil
    | cons y ys ih => exact .cons (hm2 y (by simp)) (ih fun v hv => hm2 v (List.mem_cons_of_mem _ hv))
end Y
namespace Y
open PySem PySem.Spec PyProof.Rows L2
def KeysW (R : It → Hp → Prop) (x : V) (H1 : Hp) : Prop := ∃ d o, x = .ref d ∧ ((∃ kvs, H1 d = some (.frz o (.dK kvs)) ∧ R (Itk d o kvs) H1) ∨ ∃ kvs, H1 d = some (.frz o (.dT kvs)) ∧ R (Itkt d o kvs) H1)
theorem g_iKeys0 {td : TE} {σ : L2.St} {H : Hp} {R : It → Hp → Prop} (q : td σ H fun x H1 => KeysW R x H1) : iKeys td σ H R := q
theorem g_keysT {R : It → Hp → Prop} {H : Hp} {d : Addr} {o : Obj} {kvs : List (List L2.Key × V)} (h : H d = some (.frz o (.dT kvs))) (q : R (Itkt d o kvs) H) : KeysW R (.ref d) H := ⟨d, o, rfl, .inr ⟨kvs, h, q⟩⟩
theorem lsR_new {α : Type} {R : Hp → V → α → Prop} {p d : Addr} {G H : Hp} {as : List α} {o : HO} (r : LsR R p G H as) (h : d ≠ p) : LsR R p G (L2.upd H d o) as := r.upd h
end Y

/-! ### min(.., key = a lambda whose keys are pairs of ints) -/
namespace Y
open PySem PySem.Spec PyProof.Rows L2
def lt2 (a b : Int × Int) : Bool := HT.lexLt [a.1, a.2] [b.1, b.2]
theorem lt2_iff {a b : Int × Int} : lt2 a b = true ↔ (a.1 < b.1 ∨ a.1 = b.1 ∧ a.2 < b.2) := by
  unfold lt2
  rw [HT.lexLt_cons, HT.lexLt_cons, HT.lexLt_nil_nil]
  by_cases h : a.1 = b.1
  · rw [if_pos h]
    by_cases h2 : a.2 = b.2
    · rw [if_pos h2]; simp; omega
    · rw [if_neg h2, decide_eq_true_eq]; omega
  · rw [if_neg h, decide_eq_true_eq]; omega
theorem min_name : (toString "min" ++ toString ".loop" : String) = "min.loop" := by decide +kernel
/-- all but what is at I and S is kept -/
def Kept2 (I S : Addr) (h h' : Heap) : Prop := ∀ b o, b ≠ I → b ≠ S → h.get? b = some o → h'.get? b = some o
theorem reads_pair {h : Heap} {v : Value} {a b : Int} (r : Reads h v (.tuple [.int a, .int b]) []) : ∃ t ta tb, v = .ref t ∧ IsTup h t #[.int a ta, .int b tb] := by
  cases r with
  | tuple h1 h2 h3 h4 =>
    rename_i t o vs n
    cases vs with
    | mk l =>
    generalize hz : ([] : List Addr) = as at h4
    cases h4 with
    | cons r1 r2 =>
    cases r1
    cases r2 with
    | cons r3 r4 =>
    cases r3
    cases r4
    exact ⟨t, _, _, rfl, o, h1, h2, n, h3⟩
section
variable {prog : Program} {w : World} {A : Around} {s : Shared} {I S f : Addr} {n : Nat} {P : Nat → Value → Prop} {St : Nat → Heap → Prop} {fp : List Addr} {kd : Nat → Int × Int} {R : Result → Shared → Prop}
theorem mk_loop (hu : A.units + 10 < cLine) (W : Walks prog w A.in1 I fp [I] n P St) (hSf : S ∉ fp) (hIS : S ≠ I) (hI : ∀ j h items, St j h → ¬ IsTup h I items)
    (key : ∀ i v h tk, i < n → P i v → Kept2 I S s.heap h → wpAny (model prog w) A.in1 (call (.ref f) [v]) (PySem.W.KeyPure (.tuple [.int (kd i).1, .int (kd i).2]) { heap := h, gens := s.gens, drawn := s.drawn, toks := tk, os := s.os }) (fun _ _ => False) { heap := h, gens := s.gens, drawn := s.drawn, toks := tk, os := s.os })
    (fin : ∀ b v h tk, b < n → P b v → (∀ i, i < n → lt2 (kd i) (kd b) = false) → Kept2 I S s.heap h → R (.ok (.ret v)) { heap := h, gens := s.gens, drawn := s.drawn, toks := tk, os := s.os }) :
    ∀ (r j b : Nat) (h : Heap) (tk : Nat) (vb : Value) (t : Addr) (t1 t2 : Tok) (c : Nat), n - j = r → 1 ≤ j → j ≤ n → Kept2 I S s.heap h → St j h → h.get? S = some (seqObj "list" #[vb, .ref t] c) → IsTup h t #[.int (kd b).1 t1, .int (kd b).2 t2] → P b vb → b < j → (∀ i, i < j → lt2 (kd i) (kd b) = false) → t ≠ I → t ≠ S →
      codeAny (model prog w) A (.builtin "min.loop" ⟨[.ref I, .ref f, .ref S], []⟩) R { heap := h, gens := s.gens, drawn := s.drawn, toks := tk, os := s.os } := by
  intro r
  induction r with
  | zero =>
    intro j b h tk vb t t1 t2 c hr h1 hj hk hSt hS hT hP hb hmin htI htS
    have : j = n := by omega
    subst this
    refine codeAny_builtin F.entry_min_loop ?_
    rw [Around.under_plainId F.plain_min_loop]
    refine wpAny_bind (wpAny_seqItems hS rfl ?_)
    refine wpAny_bind (wpAny_tryCatch (W.done _ _ _ hSt fun h' tk' hk' => ?_))
    have hS' : h'.get? S = some (seqObj "list" #[vb, .ref t] c) := hk' _ _ (by simp [hIS]) hS
    refine wpAny_bind (wpAny_updateSeq hS' rfl ?_ (by show 2 ≤ sizeLine; decide) (by show 0 ≤ sizeLine + 1; omega))
    refine wpAny_bind (wpAny_letGo ?_)
    refine wpAny_pure ?_
    refine fin b vb _ _ hb hP hmin fun a o ha hb2 hg => ?_
    have := hk' a o (by simp [ha]) (hk a o ha hb2 hg)
    rw [← this]
    exact (Heap.SameBut.update _ _ _).2 a hb2
  | succ r ih =>
    intro j b h tk vb t t1 t2 c hr h1 hj hk hSt hS hT hP hb hmin htI htS
    have hjn : j < n := by omega
    refine codeAny_builtin F.entry_min_loop ?_
    rw [Around.under_plainId F.plain_min_loop]
    refine wpAny_bind (wpAny_seqItems hS rfl ?_)
    refine wpAny_bind (wpAny_tryCatch (W.item j _ _ _ hjn hSt fun v h' tk' hPv hSt' hk' => ?_))
    have hS' : h'.get? S = some (seqObj "list" #[vb, .ref t] c) := hk' _ _ (by simp [hIS]) hS
    have kept' : Kept2 I S s.heap h' := fun a o ha hb2 hg => hk' a o (by simp [ha]) (hk a o ha hb2 hg)
    refine wpAny_bind (wpAny_tryCatch (wpAny_holding (wpAny_mono (key j v h' tk' hjn hPv kept') (fun kv s2 hkp => ?_) (fun _ _ z => z.elim))))
    obtain ⟨h2, tk2, rfl, keep2, hr2⟩ := hkp
    obtain ⟨u, ta, tb, rfl, hU⟩ := reads_pair hr2
    have hS2 : h2.get? S = some (seqObj "list" #[vb, .ref t] c) := keep2 _ _ hS'
    have hT2 : IsTup h2 t #[.int (kd b).1 t1, .int (kd b).2 t2] := by
      obtain ⟨o, k1, k2⟩ := hT
      exact ⟨o, keep2 _ _ (hk' _ _ (by simp [htI]) k1), k2⟩
    have hSt2 : St (j + 1) h2 := W.frame _ _ _ hSt' fun a _ o ho => keep2 a o ho
    have kept2 : Kept2 I S s.heap h2 := fun a o ha hb2 hg => keep2 a o (kept' a o ha hb2 hg)
    refine wpAny_bind (wpAny_tryCatch (wpAny_holding (wpAny_bind ?_)))
    have cmp : ∀ (Q E : Value → Shared → Prop), Q (.bool (lt2 (kd j) (kd b))) { heap := h2, gens := s.gens, drawn := s.drawn, toks := tk2, os := s.os } → wpAny (model prog w) A.in1 (richCompare .Lt (.ref u) (.ref t)) Q E { heap := h2, gens := s.gens, drawn := s.drawn, toks := tk2, os := s.os } := fun Q E q =>
      HT.lt_tupInts (s := { heap := h2, gens := s.gens, drawn := s.drawn, toks := tk2, os := s.os }) hU hT2 (.cons _ _ (.cons _ _ .nil)) (.cons _ _ (.cons _ _ .nil)) (by show A.units + 1 < cLine; omega) q
    refine cmp _ _ ?_
    refine wpAny_bind (wpAny_holding (wpAny_truthy_bool ?_))
    refine wpAny_bind (wpAny_letGo (wpAny_pure ?_))
    have huI : u ≠ I := fun z => hI _ _ _ hSt2 (z ▸ hU)
    have huS : u ≠ S := fun z => by
      obtain ⟨o, k1, k2, _⟩ := hU
      rw [z, hS2] at k1
      cases k1
      injection k2 with k2
      exact absurd k2 (by decide)
    cases hlt : lt2 (kd j) (kd b) with
    | true =>
      refine wpAny_bind (wpAny_updateSeq hS2 rfl ?_ (by show 2 ≤ sizeLine; decide) (by show 2 ≤ sizeLine + 1; decide))
      refine wpAny_bind (wpAny_letGo ?_)
      refine wpAny_pure ?_
      rw [min_name]
      refine ⟨plainId_quiet F.plain_min_loop _, ?_⟩
      refine ih (j + 1) j _ tk2 v u ta tb _ (by omega) (by omega) (by omega) (fun a o ha hb2 hg => ?_) (W.frame _ _ _ hSt2 fun a hfa o ho => ?_) (get?_update_seq hS2 _) ?_ hPv (by omega) (fun i hi => ?_) huI huS
      · rw [← kept2 a o ha hb2 hg]
        exact (Heap.SameBut.update _ _ _).2 a hb2
      · rw [← ho]
        exact (Heap.SameBut.update _ _ _).2 a fun z => hSf (z ▸ hfa)
      · obtain ⟨o, k1, k2⟩ := hU
        exact ⟨o, by rw [← k1]; exact (Heap.SameBut.update _ _ _).2 u huS, k2⟩
      · cases hx : lt2 (kd i) (kd j) with
        | false => rfl
        | true =>
          by_cases hij : i = j
          · subst hij
            have := lt2_iff.mp hx
            omega
          · have a1 := hmin i (by omega)
            have a2 := lt2_iff.mp hx
            have a3 := lt2_iff.mp hlt
            have : lt2 (kd i) (kd b) = true := lt2_iff.mpr (by omega)
            rw [this] at a1
            cases a1
    | false =>
      refine wpAny_bind (wpAny_letGo ?_)
      refine wpAny_pure ?_
      rw [min_name]
      refine ⟨plainId_quiet F.plain_min_loop _, ?_⟩
      refine ih (j + 1) b _ tk2 vb t t1 t2 c (by omega) (by omega) (by omega) kept2 hSt2 hS2 hT2 hP (by omega) (fun i hi => ?_) htI htS
      by_cases hij : i = j
      · rw [hij]; exact hlt
      · exact hmin i (by omega)
theorem mk_first (hu : A.units + 10 < cLine) (W : Walks prog w A.in1 I fp [I] n P St) (hSf : S ∉ fp) (hIS : S ≠ I) (hI : ∀ j h items, St j h → ¬ IsTup h I items) (hn : 0 < n)
    (key : ∀ i v h tk, i < n → P i v → Kept2 I S s.heap h → wpAny (model prog w) A.in1 (call (.ref f) [v]) (PySem.W.KeyPure (.tuple [.int (kd i).1, .int (kd i).2]) { heap := h, gens := s.gens, drawn := s.drawn, toks := tk, os := s.os }) (fun _ _ => False) { heap := h, gens := s.gens, drawn := s.drawn, toks := tk, os := s.os })
    (fin : ∀ b v h tk, b < n → P b v → (∀ i, i < n → lt2 (kd i) (kd b) = false) → Kept2 I S s.heap h → R (.ok (.ret v)) { heap := h, gens := s.gens, drawn := s.drawn, toks := tk, os := s.os })
    (hSt : St 0 s.heap) (hS : s.heap.get? S = some (seqObj "list" #[] 0)) : codeAny (model prog w) A (.builtin "min.loop" ⟨[.ref I, .ref f, .ref S], []⟩) R s := by
  refine codeAny_builtin F.entry_min_loop ?_
  rw [Around.under_plainId F.plain_min_loop]
  refine wpAny_bind (wpAny_seqItems hS rfl ?_)
  refine wpAny_bind (wpAny_tryCatch (W.item 0 _ _ _ hn hSt fun v h' tk' hPv hSt' hk' => ?_))
  have hS' : h'.get? S = some (seqObj "list" #[] 0) := hk' _ _ (by simp [hIS]) hS
  have kept' : Kept2 I S s.heap h' := fun a o ha hb2 hg => hk' a o (by simp [ha]) hg
  refine wpAny_bind (wpAny_tryCatch (wpAny_holding (wpAny_mono (key 0 v h' tk' hn hPv kept') (fun kv s2 hkp => ?_) (fun _ _ z => z.elim))))
  obtain ⟨h2, tk2, rfl, keep2, hr2⟩ := hkp
  obtain ⟨u, ta, tb, rfl, hU⟩ := reads_pair hr2
  have hS2 : h2.get? S = some (seqObj "list" #[] 0) := keep2 _ _ hS'
  have hSt2 : St 1 h2 := W.frame _ _ _ hSt' fun a _ o ho => keep2 a o ho
  have kept2 : Kept2 I S s.heap h2 := fun a o ha hb2 hg => keep2 a o (kept' a o ha hb2 hg)
  have huI : u ≠ I := fun z => hI _ _ _ hSt2 (z ▸ hU)
  have huS : u ≠ S := fun z => by
    obtain ⟨o, k1, k2, _⟩ := hU
    rw [z, hS2] at k1
    cases k1
    injection k2 with k2
    exact absurd k2 (by decide)
  refine wpAny_bind (wpAny_updateSeq hS2 rfl ?_ (by show 0 ≤ sizeLine; omega) (by show 2 ≤ sizeLine + 1; decide))
  refine wpAny_pure ?_
  rw [min_name]
  refine ⟨plainId_quiet F.plain_min_loop _, ?_⟩
  refine mk_loop hu W hSf hIS hI key fin (n - 1) 1 0 _ tk2 v u ta tb _ rfl (by omega) (by omega) (fun a o ha hb2 hg => ?_) (W.frame _ _ _ hSt2 fun a hfa o ho => ?_) (get?_update_seq hS2 _) ?_ hPv (by omega) (fun i hi => ?_) huI huS
  · rw [← kept2 a o ha hb2 hg]
    exact (Heap.SameBut.update _ _ _).2 a hb2
  · rw [← ho]
    exact (Heap.SameBut.update _ _ _).2 a fun z => hSf (z ▸ hfa)
  · obtain ⟨o, k1, k2⟩ := hU
    exact ⟨o, by rw [← k1]; exact (Heap.SameBut.update _ _ _).2 u huS, k2⟩
  · have : i = 0 := by omega
    subst this
    cases hx : lt2 (kd 0) (kd 0) with
    | false => rfl
    | true =>
      have := lt2_iff.mp hx
      omega
end
theorem mk_min {prog : Program} {w : World} {A : Around} {s : Shared} {d f : Addr} {kvs : List (L2.Key × Value)} {kd : Nat → Int × Int} {Q E : Value → Shared → Prop} (hd : A.handled = none) (hu : A.units + 10 < cLine) (hs : (d == sysModules) = false) (hD : Heap.DictOf (mixKind prog w) s.heap d kvs) (hn : 0 < kvs.length)
    (key : ∀ i v h tk, i < kvs.length → (∃ k x, kvs[i]? = some (k, x) ∧ (mixKind prog w).is k v = true) → (∀ b o, s.heap.get? b = some o → h.get? b = some o) → wpAny (model prog w) A.in1 (call (.ref f) [v]) (PySem.W.KeyPure (.tuple [.int (kd i).1, .int (kd i).2]) { heap := h, gens := s.gens, drawn := s.drawn, toks := tk, os := s.os }) (fun _ _ => False) { heap := h, gens := s.gens, drawn := s.drawn, toks := tk, os := s.os })
    (fin : ∀ b v h tk, b < kvs.length → (∃ k x, kvs[b]? = some (k, x) ∧ (mixKind prog w).is k v = true) → (∀ i, i < kvs.length → lt2 (kd i) (kd b) = false) → (∀ b o, s.heap.get? b = some o → h.get? b = some o) → Q v { heap := h, gens := s.gens, drawn := s.drawn, toks := tk, os := s.os }) :
    wpAny (model prog w) A (call (.builtin "min") [.ref d] [(Str.ofString "key", .ref f)]) Q E s := by
  obtain ⟨ep, hDA⟩ := hD.dictAt
  refine kmb_tree F.kind_min F.plain_min F.entry_min (kmb_min_key _ _) ?_
  refine wpAny_bind (wpAny_of_eq (show _ = pure [some (Value.ref f), none] from rfl) ?_)
  refine wpAny_bind (wpAny_pure ?_)
  refine wpAny_bind (wpAny_pyIter_dict hs hDA ?_)
  refine wpAny_bind (wpAny_newList ?_)
  refine wpAny_pure ?_
  rw [min_name]
  refine ⟨plainId_quiet F.plain_min_loop _, ?_⟩
  generalize hoI : ({ cls := Value.type "dict_keyiterator", data := Data.fields #[Value.ref d, Value.int 0 0, Value.int (↑kvs.length) 0, Value.int (↑ep) 0] } : Obj) = oI
  have fI : oI.isFreed = false := by rw [← hoI]; rfl
  have sz1 : (s.heap.push oI).objs.size = s.heap.objs.size + 1 := size_push' _ _
  have old1 : ∀ b o, s.heap.get? b = some o → (s.heap.push oI).get? b = some o := fun b o hb => Heap.get?_push_of_some _ hb
  have old2 : ∀ b o, (s.heap.push oI).get? b = some o → ((s.heap.push oI).push { cls := Value.type "list", data := Data.seq #[] }).get? b = some o := fun b o hb => Heap.get?_push_of_some _ hb
  have hlt : ∀ b o, s.heap.get? b = some o → b < s.heap.objs.size := fun b o hb => Heap.lt_size hb
  have hdlt : d < s.heap.objs.size := by
    obtain ⟨o, es, h1, _⟩ := hDA
    exact hlt _ _ h1
  have up : ∀ h : Heap, Kept2 s.heap.objs.size (s.heap.push oI).objs.size ((s.heap.push oI).push { cls := Value.type "list", data := Data.seq #[] }) h → ∀ b o, s.heap.get? b = some o → h.get? b = some o := fun h hk b o hb => by
    have := hlt b o hb
    exact hk b o (Nat.ne_of_lt this) (by rw [sz1]; exact Nat.ne_of_lt (Nat.lt_succ_of_lt this)) (old2 _ _ (old1 _ _ hb))
  have sNot : (s.heap.push oI).objs.size ∉ [s.heap.objs.size, d] := fun z => by
    rw [sz1] at z
    rcases List.mem_cons.mp z with z | z
    · exact Nat.succ_ne_self _ z
    · rw [← List.mem_singleton.mp z] at hdlt
      exact Nat.not_succ_lt_self hdlt
  refine mk_first (n := kvs.length) (kd := kd) (I := s.heap.objs.size) (S := (s.heap.push oI).objs.size) hu (Walks.dictKeys (A := A.in1) (knd := mixKind prog w) hd s.heap.objs.size d (Nat.ne_of_lt hdlt) kvs ep) sNot (by rw [sz1]; exact Nat.succ_ne_self _) (fun j h items hst ⟨o, k1, k2, _⟩ => ?_) hn (fun i v h tk hi hP hk => key i v h tk hi hP (up h hk)) (fun b v h tk hb hP hm hk => fin b v h tk hb hP hm (up h hk)) ⟨⟨oI, old2 _ _ (Heap.get?_push_size _ fI), by rw [← hoI], by rw [← hoI]; rfl⟩, ?_⟩ (Heap.get?_push_size _ rfl)
  · obtain ⟨⟨o2, e1, e2, _⟩, _⟩ := hst
    rw [e1] at k1
    cases k1
    rw [e2] at k2
    injection k2 with k2
    exact absurd k2 (by decide)
  · obtain ⟨o, es, h1, h2⟩ := hDA
    exact ⟨o, es, old2 _ _ (old1 _ _ h1), h2⟩
/-! ### the lambda: (-tally[value], value), tally captured -/
structure LamMT (ps : Arguments) (body : Expr) (sc : Scope) : Prop where
  co : sc.isCoroutine = false
  gen : sc.isGenerator = false
  kind : sc.kind = .function
  nm : sc.names = [(("value" : Str), NameKind.local), (("tally" : Str), NameKind.free)]
  bind : ∀ (q : Str) (cl : List (Str × Addr)) (pm cv ctv v : Value), bindArgs (PySem.W.kla_fn "<lambda>" q ps body sc cl pm cv ctv) ⟨[v], []⟩ = pure [(("value" : Str), v)]
  dfl : ∀ env, defaultsOf ps env = ([], [])
  body : ∃ p1 p2 p3 p4 p5 p6 k1, body = .Tuple [.UnaryOp .USub (.Subscript (.Name "tally" p1) (.Name "value" p2) p3) p4, .Name "value" p5] k1 p6
theorem lam_mt {prog : Program} {w : World} {A : Around} {s : Shared} {f d c0 c' : Addr} {q : Str} {ps : Arguments} {body : Expr} {sc : Scope} {cl : List (Str × Addr)} {pm ctv : Value} {kvs : List (L2.Key × Value)} {k n : Int} {tk0 tv0 : Tok} (L : LamMT ps body sc)
    (hA : A.depth + 2 < recursionLimit) (hf : s.heap.get? f = some (PySem.W.kla_obj "<lambda>" q ps body sc cl pm c' ctv)) (hc : s.heap.CodeRec (.ref c') q) (hn : s.heap.NoLimit) (hcl : List.lookup ("tally" : Str) cl = some c0) (hc0 : s.heap.IsCell c0 (some (.ref d))) (hD : Heap.DictOf (mixKind prog w) s.heap d kvs) (hv : valueAt kvs (Sum.inl k : L2.Key) = some (.int n tv0)) :
    wpAny (model prog w) A (call (.ref f) [.int k tk0]) (PySem.W.KeyPure (.tuple [.int (-n), .int k]) s) (fun _ _ => False) s := by
  refine wpAny_call ?_
  refine PySem.W.kla_callFunE (by omega) hf rfl L.co L.gen rfl hc ?_
  rw [L.bind]
  refine wpAny_pure ?_
  refine wpAny_newFunctionEnv (fun y hy => ?_) (fun y hy => ?_) (fun h' hN hS => ⟨hn.fresh _ hS, ?_⟩) L.kind
  · rw [show (PySem.W.kla_fn "<lambda>" q ps body sc cl pm (.ref c') ctv).scope.names = sc.names from rfl, L.nm] at hy
    simp only [List.mem_cons, List.not_mem_nil, or_false] at hy
    rcases hy with rfl | rfl <;> exact fun z => nomatch z
  · simp only [List.mem_cons, List.not_mem_nil, or_false] at hy
    subst hy
    show List.lookup _ sc.names = _
    rw [L.nm]
    rfl
  have old : ∀ b o, s.heap.get? b = some o → h'.get? b = some o := fun b o hb => by
    rw [hS.2 b (Nat.ne_of_lt (Heap.lt_size hb))]
    exact Heap.get?_push_of_some _ hb
  have hC : h'.IsCell c0 (some (.ref d)) := by
    obtain ⟨o, h1, h2⟩ := hc0
    exact ⟨o, old _ _ h1, h2⟩
  have hD' : Heap.DictOf (mixKind prog w) h' d kvs := hD.at fun o ho => old _ _ ho
  refine PySem.W.kla_codeExpr ?_
  obtain ⟨p1, p2, p3, p4, p5, p6, k1, hb⟩ := L.body
  rw [hb]
  refine wpAny_Tuple_spliced ?_
  have kv : ∀ E, (newEnv sc s.heap.objs.size mainGlobals cl E (some f) (.ref c') none builtinsNs).kindOf "value" = some .local := fun E => by show List.lookup _ sc.names = _; rw [L.nm]; rfl
  have kt : ∀ E, (newEnv sc s.heap.objs.size mainGlobals cl E (some f) (.ref c') none builtinsNs).kindOf "tally" = some .free := fun E => by show List.lookup _ sc.names = _; rw [L.nm]; rfl
  have hloc : (List.lookup ("value" : Str) [(("value" : Str), Value.int k tk0)].reverse : Option Value) = some (.int k tk0) := rfl
  refine spliced_more ?_ rfl
  refine wpAny_UnaryOp ?_
  refine wpAny_Subscript_Name_late ?_
  refine wpAny_Name ?_
  refine wpAny_loadName_free L.kind (kt _) hcl hC ?_
  refine wpAny_Name ?_
  refine wpAny_loadName_local (m := fun x => List.lookup x [(("value" : Str), Value.int k tk0)].reverse) L.kind (kv _) hN hloc ?_
  refine ⟨"dict", "dict.__getitem__", F.slot_dict_getitem.lookup, hD'.typeIs, wpAny_getItem_of (knd := mixKind prog w) (k := Sum.inl k) ?_ hD'.mapOf hv ?_⟩
  · show Value.isInt k (.int k tk0) = true
    simp [Value.isInt]
  refine PyProof.Rows.neg_int ?_
  refine spliced_more ?_ rfl
  refine wpAny_Name ?_
  refine wpAny_loadName_local (m := fun x => List.lookup x [(("value" : Str), Value.int k tk0)].reverse) L.kind (kv _) hN hloc ?_
  refine spliced_none ?_
  refine ⟨by show 2 ≤ sizeLine; decide, ?_⟩
  refine ⟨_, _, rfl, fun b o hb => Heap.get?_push_of_some _ (old b o hb), ?_⟩
  refine .tuple (Heap.get?_push_size _ rfl) rfl rfl ?_
  exact .cons (.int (-n) _) (.cons (.int k tk0) .nil)
end Y
/-! ### the expression -/
namespace Y
open PySem PySem.Spec PyProof.Rows L2
/-- a dict of ints that stands, just so -/
def intK (m : List (Int × Int)) : List (L2.Key × V) := m.map fun e => ((Sum.inl e.1 : L2.Key), V.int e.2)
def tMinMT (P : Addr) (q : Str) (i : Nat) : TE := fun σ H Q => LamX.TabS H P q ∧ ∃ d m, σ[i]? = some (some (.ref d)) ∧ H d = some (.dK (intK m)) ∧ m ≠ [] ∧
  ∀ H1 c' k n, LamG P q H H1 c' → LamX.TabS H1 P q → (k, n) ∈ m → (∀ e ∈ m, lt2 (-e.2, e.1) (-n, k) = false) → Q (.int k) H1
theorem kv_int : ∀ {m : List (Int × Int)} {vs : List (L2.Key × Value)}, KV (intK m) vs → vs.length = m.length ∧ ∀ (i : Nat) (e : Int × Int), m[i]? = some e → ∃ t, vs[i]? = some ((Sum.inl e.1 : L2.Key), Value.int e.2 t)
  | [], _, .nil => ⟨rfl, fun i e h => by simp at h⟩
  | e :: m, _, .cons (b := b) h r => by
    obtain ⟨h1, h2⟩ := kv_int (m := m) r
    refine ⟨by rw [List.length_cons, List.length_cons, h1], fun i e' he => ?_⟩
    cases i with
    | zero =>
      cases he
      obtain ⟨k1, t, k2⟩ := h
      obtain ⟨b1, b2⟩ := b
      simp only at k1 k2
      subst k1 k2
      exact ⟨t, rfl⟩
    | succ i => exact h2 i e' he
theorem valueAt_nd : ∀ {vs : List (L2.Key × Value)} {i : Nat} {k : L2.Key} {x : Value}, (vs.map (·.1)).Nodup → vs[i]? = some (k, x) → valueAt vs k = some x
  | [], i, k, x, _, h => by simp at h
  | (k0, x0) :: vs, 0, k, x, _, h => by
    cases h
    unfold valueAt
    rw [List.find?_cons_of_pos (by simp)]
    rfl
  | (k0, x0) :: vs, i + 1, k, x, hn, h => by
    rw [List.map_cons, List.nodup_cons] at hn
    have hk : k ∈ vs.map (·.1) := List.mem_map.mpr ⟨(k, x), List.mem_of_getElem? h, rfl⟩
    have hne : k0 ≠ k := fun z => hn.1 (z ▸ hk)
    have := valueAt_nd (i := i) hn.2 h
    unfold valueAt at this ⊢
    rw [List.find?_cons_of_neg (by simpa using hne)]
    exact this
theorem pe_minMT {X : Cx} {k0 i : Nat} {c P : Addr} {ps : Arguments} {body : Expr} {sc : Scope} {p pt lpos kp pos : Pos} (hr : Room k0 X.A) (hg : Gl X "min") (hm : X.mg "min" = none) (L : LamMT ps body sc) (TB : LamX.TabB X.base X.mg c P) (hcode : X.env.code = .ref c) (hN : X.N[i]? = some "tally") (hk : X.env.kindOf "tally" = some .cell) (hvis : Vis X.env.scope "tally") (ha : PA X [.Name "tally" pt] (tCons (tVar i) tNil))
    (he : backTo pos (starEach [.Name "tally" pt] X.env) = (false, eval (.Name "tally" pt) X.env) :: backTo pos (starEach [] X.env) := by rfl) (hpl : (backTo pos (starEach [.Name "tally" pt] X.env)).any (·.1) = false := by rfl)
    (hall : (backToKw pos (keywordEach [⟨some (Str.ofString "key"), .Lambda ps body sc lpos, kp⟩] X.env)).all (·.1.isSome) = true := by rfl) (hnone : (backToKw pos (keywordEach [⟨some (Str.ofString "key"), .Lambda ps body sc lpos, kp⟩] X.env)).any (·.1.isNone) = false := by rfl) :
    PE X (.Call (.Name "min" p) [.Name "tally" pt] [⟨some (Str.ofString "key"), .Lambda ps body sc lpos, kp⟩] pos) (tMinMT P (X.env.qual ++ "<lambda>") i) := by
  refine ⟨fun pins s0 σ H Q I0 h => ?_⟩
  obtain ⟨⟨tab, hP, hT, hA⟩, d, m, hσ, hd, hne, q⟩ := h
  refine wpAny_Call_Name_kw (ld_blt I0 hg hm (by rfl) ?_)
  refine PyProof.Rows.callWith_kw (thn (ha.run pos pins s0 σ H (fun vs H1 => vs = [.ref d] ∧ H1 = H) I0 ⟨_, hσ, rfl, rfl⟩) fun us s ⟨vs, H1, I, r1, e1, e2⟩ => ?_) he hpl hall hnone
  subst e1 e2
  obtain rfl := Vals.ref1 r1
  -- the cell of the dict
  obtain ⟨c0, hc0, hcell⟩ : ∃ c0, List.lookup ("tally" : Str) X.env.cells = some c0 ∧ s.heap.IsCell c0 (some (.ref d)) := by
    obtain ⟨mm, _, hl⟩ := I.loc
    obtain ⟨u, hu, hlook⟩ := hl i "tally" (.ref d) hN hσ hvis
    cases hu
    rcases hlook with ⟨z, _⟩ | ⟨_, c0, z1, z2⟩
    · rw [hk] at z; cases z
    · exact ⟨c0, z1, z2⟩
  have hfree : ∀ y ∈ sc.names, y.2 = NameKind.free → ∃ c, List.lookup y.1 X.env.cells = some c := fun y hy hf => by
    rw [L.nm] at hy
    simp only [List.mem_cons, List.not_mem_nil, or_false] at hy
    rcases hy with rfl | rfl
    · cases hf
    · exact ⟨c0, hc0⟩
  have hclo : List.lookup ("tally" : Str) (cloFrom X.env.cells sc.names []) = some c0 := by
    rw [L.nm]
    show List.lookup ("tally" : Str) [(("tally" : Str), (List.lookup ("tally" : Str) X.env.cells).getD 0)] = some c0
    rw [hc0]
    rfl
  have hPo : s.heap.get? P = some (PySem.W.tabObj tab) := I.hok P _ hP
  -- the call, whatever the heap is by then
  have fin : ∀ (H2 : Hp) (h' : Heap) (f c' : Addr) (tk : Nat) (pm ctv : Value), Inv X pins σ H2 { heap := h', gens := s.gens, drawn := s.drawn, toks := tk, os := s.os } → (∀ b o, b ≠ P → s.heap.get? b = some o → h'.get? b = some o) → h'.get? f = some (PySem.W.kla_obj "<lambda>" (X.env.qual ++ "<lambda>") ps body sc (cloFrom X.env.cells sc.names []) pm c' ctv) → H2 c' = some (LamX.CodeO c' (X.env.qual ++ "<lambda>")) → H2 d = some (.dK (intK m)) →
      (∀ k n, (k, n) ∈ m → (∀ e ∈ m, lt2 (-e.2, e.1) (-n, k) = false) → Q (.int k) H2) →
      wpAny (model X.prog X.w) X.A (call (.builtin "min") [.ref d] [(Str.ofString "key", .ref f)]) (EP X pins σ Q) X.xe { heap := h', gens := s.gens, drawn := s.drawn, toks := tk, os := s.os } := fun H2 h' f c' tk pm ctv I2 hkp hf hc hd2 q2 => by
    obtain ⟨hl, hs, vs, hkv, hD⟩ := dk_rd I2.hok (.inl hd2)
    obtain ⟨vl, vget⟩ := kv_int hkv
    have hnd : (vs.map (·.1)).Nodup := by
      obtain ⟨_, _, _, _, _, _, _, _, z⟩ := hD
      exact z
    obtain ⟨⟨oc, cvs, ct, hco, hcd, hcs⟩, _⟩ := I2.hok c' _ hc
    have hcP : c0 ≠ P := fun z => by
      obtain ⟨o, h1, h2⟩ := hcell
      rw [z, hPo] at h1
      cases h1
      cases h2
    have hcell' : h'.IsCell c0 (some (.ref d)) := by
      obtain ⟨o, h1, h2⟩ := hcell
      exact ⟨o, hkp _ _ hcP h1, h2⟩
    have hml : 0 < m.length := List.length_pos_iff.mpr hne
    have item : ∀ (i : Nat) (k : L2.Key) (x : Value), vs[i]? = some (k, x) → ∃ e : Int × Int, m[i]? = some e ∧ k = Sum.inl e.1 ∧ ∃ t, x = Value.int e.2 t := fun i k x hx => by
      have hi : i < m.length := by rw [← vl]; exact (List.getElem?_eq_some_iff.mp hx).1
      have he : m[i]? = some m[i] := by simp [hi]
      obtain ⟨t, ht⟩ := vget i _ he
      rw [ht] at hx
      cases hx
      exact ⟨_, he, rfl, t, rfl⟩
    have asInt : ∀ (k : Int) (v : Value), (mixKind X.prog X.w).is (Sum.inl k) v = true → ∃ t, v = .int k t := fun k v hv => by
      have hv : Value.isInt k v = true := hv
      cases v with
      | int i t =>
        simp [Value.isInt] at hv
        exact ⟨t, by rw [hv]⟩
      | _ => simp [Value.isInt] at hv
    have gd : ∀ (i : Nat) (e : Int × Int), m[i]? = some e → m.getD i (0, 0) = e := fun i e he => by simp [List.getD, he]
    refine mk_min (kvs := vs) (kd := fun i => (-(m.getD i (0, 0)).2, (m.getD i (0, 0)).1)) hr.hd (by have := hr.un; omega) hs hD (by rw [vl]; exact hml) (fun i v h tk2 hi ⟨k, x, hx, hkis⟩ hkeep => ?_) (fun b v h tk2 hb ⟨k, x, hx, hkis⟩ hmin hkeep => ?_)
    · obtain ⟨e, he, rfl, t, rfl⟩ := item i k x hx
      obtain ⟨tv, rfl⟩ := asInt _ _ hkis
      simp only [gd i e he]
      have := hr.dp
      refine lam_mt (s := { heap := h, gens := s.gens, drawn := s.drawn, toks := tk2, os := s.os }) (kvs := vs) L (by show X.A.depth + 2 < recursionLimit; omega) (hkeep _ _ hf) ⟨c', oc, cvs, ct, rfl, hkeep _ _ hco, hcd, hcs⟩ (I2.nolimit.keeps hkeep) hclo ?_ (hD.at fun o ho => hkeep _ _ ho) (valueAt_nd hnd hx)
      obtain ⟨o, h1, h2⟩ := hcell'
      exact ⟨o, hkeep _ _ h1, h2⟩
    · obtain ⟨e, he, rfl, t, rfl⟩ := item b k x hx
      obtain ⟨tv, rfl⟩ := asInt _ _ hkis
      refine ⟨.int e.1, H2, I2.kept (t' := tk2) hkeep, ⟨tv, rfl⟩, q2 e.1 e.2 (List.mem_of_getElem? he) fun e2 he2 => ?_⟩
      obtain ⟨i2, hi2⟩ := List.getElem?_of_mem he2
      have := hmin i2 (by rw [vl]; exact (List.getElem?_eq_some_iff.mp hi2).1)
      simp only [gd b e he, gd i2 e2 hi2] at this
      exact this
  refine kws_cons ?_
  refine PySem.W.kla_eval (L.dfl _) ?_
  cases hit : codeAmong lpos tab.toList with
  | some cv =>
    obtain ⟨c', rfl, hc'⟩ := hA lpos cv hit
    refine PySem.W.kla_makeFunctionHit (closure_ok hfree) I.ok.glob (I.mod.glob.keeps I.bk) hcode (TB.code.keeps I.bk) hPo hT hit (TB.bm.keeps I.bk) (fun ctv h' tk k1 k2 => ?_)
    refine kws_nil ?_
    exact fin H1 _ _ c' tk _ ctv (I.kept (t' := tk) fun b o hb => Heap.get?_push_of_some _ (k1 b o hb)) (fun b o _ hb => Heap.get?_push_of_some _ (k1 b o hb)) (Heap.get?_push_size _ rfl) hc' hd (fun k n h1 h2 => q _ c' k n (.inl ⟨rfl, hc'⟩) ⟨tab, hP, hT, hA⟩ h1 h2)
  | none =>
    refine PySem.W.kla_makeFunction (closure_ok hfree) I.ok.glob (I.mod.glob.keeps I.bk) hcode (TB.code.keeps I.bk) hPo hT hit TB.gP (TB.bm.keeps I.bk) (fun c' ctv h' tk k1 k2 k3 k4 k5 => ?_)
    have hc0' : H1 c' = none := HOk.fresh I.hok k2
    have hcP : c' ≠ P := fun z => by rw [z, hP] at hc0'; cases hc0'
    obtain ⟨_, o, vs, t, e1, e2, e3, e4⟩ := k4
    cases e1
    have I1 := LamX.inv_table (more := #[rawInt ↑lpos.line, rawInt ↑lpos.col, .ref c']) (t' := tk) I hP (fun b o hb hs => k1 b o hb hs) k5 k2 ⟨o, vs, t, e2, e3, e4⟩
    have hdc : d ≠ c' := fun z => by rw [← z, hd] at hc0'; cases hc0'
    have hdP : d ≠ P := fun z => by rw [← z, hd] at hP; cases hP
    refine kws_nil ?_
    refine fin _ _ _ c' tk _ ctv (I1.kept (t' := tk) fun b o hb => Heap.get?_push_of_some _ hb) (fun b o hb2 hb => Heap.get?_push_of_some _ (k1 b o hb2 hb)) (Heap.get?_push_size _ rfl) upd_same (by rw [upd_ne hdc, upd_ne hdP]; exact hd) (fun k n h1 h2 => q _ c' k n (.inr ⟨tab, lpos, hP, hc0', rfl⟩) ⟨_, by rw [upd_ne hcP.symm, upd_same], ?_, ?_⟩ h1 h2)
    · rw [Array.toList_append]
      exact TriplesOk_snoc _ _ _ _ hT
    · intro p' cv hp
      rw [Array.toList_append] at hp
      rcases LamX.among_app _ hT hp with h | h
      · obtain ⟨c2, e, h2⟩ := hA p' cv h
        refine ⟨c2, e, ?_⟩
        have n1 : c2 ≠ c' := fun z => by rw [z, hc0'] at h2; cases h2
        have n2 : c2 ≠ P := fun z => by rw [z, hP] at h2; cases h2
        rw [upd_ne n1, upd_ne n2]
        exact h2
      · exact ⟨c', h, upd_same⟩
end Y

namespace Y
open PySem PySem.Spec PyProof.Rows L2
section
variable {X : Cx}
/-- max(o.values()) (as the library's rule for min), a dict with int values, one at least -/
def tMaxVals (td : TE) : TE := fun σ H Q => td σ H fun x H1 => ∃ a kvs is, x = V.ref a ∧ H1 a = some (.dK kvs) ∧ kvs.map (·.2) = is.map V.int ∧ is ≠ [] ∧ ∀ m, m ∈ is → (∀ j ∈ is, j ≤ m) → Q (.int m) H1
variable {o : Expr} {p pos apos mpos : Pos} {td : TE}
theorem pe_maxVals (hc : X.calm = true) (hg : Gl X "max") (hm : X.mg "max" = none) (hd : PE X o td) (hbase : attributeBase o "values" X.env (eval o X.env) = eval o X.env := by rfl) (hline : (apos.endLine == mpos.line) = true := by rfl)
    (hse : starEach [Expr.Call (.Attribute o "values" apos) [] [] mpos] X.env = [(false, eval (Expr.Call (.Attribute o "values" apos) [] [] mpos) X.env)] := by rfl) :
    PE X (.Call (.Name "max" p) [.Call (.Attribute o "values" apos) [] [] mpos] [] pos) (tMaxVals td) := by
  refine ⟨fun pins s σ H Q I h => ?_⟩
  refine wpAny_Call_Name_kw (ld_blt I hg hm (u := .builtin "max") (by first | rfl | decide +kernel) ?_ (by first | decide +kernel | decide) (by first | decide +kernel | decide))
  rw [hse]
  refine PySem.callWith_builtin1 (wpAny_Call_method0_late hbase hline (thn (hd.run pins s σ H _ I h) fun v s1 ⟨x, H1, I1, r1, a, kvs, is, ex, ha, hv, hne, q⟩ => ?_))
  subst ex
  obtain rfl : v = Value.ref a := r1
  obtain ⟨_, hsys, vs, rel, dof⟩ := dk_of I1.hok ha
  obtain ⟨ep, dat⟩ := dof.dictAt
  have dat' := dat
  obtain ⟨ob, es, ho, ex, hdat, hko, hpr, hnd⟩ := dat'
  refine ⟨"dict", "dict.values", F.plainAttrs_dict, F.slot_dict_values, F.type_dict_values, ⟨ob, ho, ex.1⟩, fun b e => ?_, Calls.callWith_builtin rfl (PySem.evalArgs_none ?_)⟩
  · cases e
    exact ⟨ob, ho, ex.2.1⟩
  refine call_meetsIn F.slot_dict_values ⟨ob, ho, ex.1⟩ F.entry_dict_values (F.args_dict_values_1 _) (meets_dict_values (mixKind X.prog X.w) a hsys) ⟨⟨vs, dof⟩, ?_⟩
  have k1 : ∀ b u, s1.heap.get? b = some u → (s1.heap.push { cls := .type "dict_values", data := .fields #[.ref a] }).get? b = some u := fun b u e => Heap.get?_push_of_some _ e
  have dat1 : (s1.heap.push { cls := .type "dict_values", data := .fields #[.ref a] }).DictAt (mixKind X.prog X.w) a vs ep := dat.keep k1
  have hlv : vs.length = is.length := by
    have e1 := congrArg List.length hv
    rw [List.length_map, List.length_map] at e1
    rw [← e1]
    exact (KV.length rel).symm
  have hlen : 0 < vs.length := by
    rw [hlv]
    exact List.length_pos_iff.mpr hne
  have hval : ∀ (i : Nat) (v : Value), (∃ k, vs[i]? = some (k, v)) → ∃ t, v = Value.int (is.getD i 0) t := fun i v ⟨k, hk⟩ => by
    obtain ⟨x, h1, h2⟩ := KV.at' rel hk
    have e1 : (kvs.map (·.2))[i]? = some x := by rw [List.getElem?_map, h1] <;> rfl
    rw [hv, List.getElem?_map] at e1
    obtain ⟨j, hj, e2⟩ := Option.map_eq_some_iff.mp e1
    subst e2
    obtain ⟨t, e3⟩ := h2
    refine ⟨t, ?_⟩
    rw [e3, List.getD_eq_getElem?_getD, hj] <;> rfl
  refine call_max_walk (wpAny_pyIter_values (v := s1.heap.objs.size) (d := a) ⟨_, Heap.get?_push_size _ rfl, rfl, rfl⟩ dat1 ?_)
  have hlt : a < s1.heap.objs.size := Heap.lt_size ho
  have hsz : (s1.heap.push { cls := .type "dict_values", data := .fields #[.ref a] }).objs.size = s1.heap.objs.size + 1 := Heap.size_push _ _
  refine ⟨_, _, _, _, _, _, _, rfl, Walks.dictValues (knd := mixKind X.prog X.w) (A := X.A.in1) (I.ok.hd hc) (s1.heap.push { cls := .type "dict_values", data := .fields #[.ref a] }).objs.size a (by rw [hsz]; exact Nat.ne_of_lt (Nat.lt_succ_of_lt hlt)) vs ep,
    ⟨⟨_, Heap.get?_push_size _ rfl, rfl, rfl⟩, dat1.keep fun b u e => Heap.get?_push_of_some _ e⟩, fun b hb => ?_, hlen, CmpOf.ints_gt (fun i => is.getD i 0) hval, fun v h' tk hP hk => ?_⟩
  · show b < ((s1.heap.push _).push _).objs.size
    rw [Heap.size_push, Heap.size_push]
    rw [hsz] at hb
    rcases List.mem_cons.mp hb with e | hb
    · rw [e]
      exact Nat.lt_succ_self _
    · have e : b = a := List.mem_singleton.mp hb
      rw [e]
      exact Nat.lt_succ_of_lt (Nat.lt_succ_of_lt hlt)
  · obtain ⟨t, rfl⟩ := hval _ v hP
    obtain ⟨b1, b2⟩ := argBest_gt (fun i => is.getD i 0) (vs.length - 1)
    refine ⟨.int _, H1, I1.kept (t' := tk) fun b u e => hk b u (fun hmem => ?_) (Heap.get?_push_of_some _ (k1 b u e)), ⟨t, rfl⟩, q _ ?_ fun j hj => ?_⟩
    · have e1 : b = (s1.heap.push { cls := .type "dict_values", data := .fields #[.ref a] }).objs.size := List.mem_singleton.mp hmem
      have e2 := Heap.lt_size e
      rw [hsz] at e1
      rw [e1] at e2
      exact absurd e2 (Nat.not_lt.mpr (Nat.le_succ _))
    · have hb : argBest (fun i j => decide (is.getD i 0 > is.getD j 0)) (vs.length - 1) < is.length := by omega
      rw [List.getD_eq_getElem?_getD, List.getElem?_eq_getElem hb]
      exact List.getElem_mem hb
    · obtain ⟨i, hi, e⟩ := List.mem_iff_getElem.mp hj
      have e2 : is.getD i 0 = j := by rw [List.getD_eq_getElem?_getD, List.getElem?_eq_getElem hi, ← e] <;> rfl
      rw [← e2]
      exact b2 i (by omega)

end
/-! ### {k: v for ..}, the keys tuples -/
theorem d_dictSetT {X : Cx} {pins : List (Addr × Obj)} {σ : L2.St} {H : Hp} {s : Shared} {E : Value → Shared → Prop} {D b : Addr} {kvs : List (List L2.Key × V)} {k : List L2.Key} {v : V} {u r : Value} {Q : Unit → Shared → Prop} (hu : X.A.units < cLine) (I : Inv X pins σ H s) (hD : H D = some (.dT kvs)) (hb : H b = some (.tup (k.map kV))) (hz : kvs.length < sizeLine)
    (ry : RelV (V.ref b) u) (rv : RelV v r) (h : ∀ s', Inv X pins σ (L2.upd H D (.dT (putK kvs k v))) s' → Q () s') : wpAny (model X.prog X.w) X.A (dictSet D u r) Q E s := by
  obtain rfl : u = Value.ref b := ry
  obtain ⟨z, hd, xs, rel, dd⟩ := dt_of I.hok hD
  have hzv : xs.length ≤ sizeLine := by rw [← Paired.length rel]; exact z
  have hl : (putK kvs k v).length ≤ sizeLine := by have := length_putK kvs k v; omega
  refine wpAny_dictSet_heap (hsz := hzv) (knd := tupleKind (mixKind X.prog X.w)) hu (key_of I.hok hb) dd fun h' dd' hs => h _ ?_
  obtain ⟨q, es, ep, hq, h2, h3, h4, _, h5⟩ := dd'
  refine d_write I (by rw [hD]; exact True.intro) hs ⟨q, hq⟩ ⟨hl, hd, _, (rel.put k hb rv).keeps fun c ys ec => ?_, q, es, ep, hq, h2, h3, h4, h5⟩
  rw [upd_ne (ne_of ec hD (fun z => nomatch z))]
  exact ec
section
variable {X : Cx}
/-- {k: v for target in iter if ..}, keys tuples of ints and texts (as the library's rule for flat keys): D the new dict -/
def tDcT (wi : TI) (g : TG) (tt : TT) (tk tv : TE) (vs : List Nat) : TE := fun σ H Q => wi σ H fun J H1 => ∀ D, H1 D = none → ∃ W : Nat → Nat → Hp → Prop, (∃ m, W 0 m (L2.upd H1 D (.dT []))) ∧ ∀ i m H, W i m H →
  (J.stop i H ∧ Q (.ref D) H) ∨ (J.go i H ∧ ∃ Nx : Hp → Prop, (∀ H', Nx H' → ∃ m', m' < m ∧ W (i + 1) m' H') ∧ ∀ x H', J.yld i H x H' → g x (wipe σ vs) H' fun σ2 H2 => wipe σ2 vs = wipe σ vs ∧ tt σ2 H2 fun b H3 =>
    if b = true then tk σ2 H3 fun y H4 => tv σ2 H4 fun z H5 => ∃ kvs k b, y = V.ref b ∧ H5 b = some (.tup (k.map kV)) ∧ H5 D = some (.dT kvs) ∧ kvs.length < sizeLine ∧ Nx (L2.upd H5 D (.dT (putK kvs k z))) else Nx H3)
theorem dcT_core {pins : List (Addr × Obj)} {s : Shared} {σ : L2.St} {H : Hp} {Q : VK} {kx vx tg iter : Expr} {ifs : List Expr} {scope : Scope} {own : List (Str × Nat)} {pos pos' : Pos} {wi : TI} {g : TG} {tt : TT} {tk tv : TE} {use : Option (Value → Sem Unit)} {Qf : Value → Shared → Prop}
    (hu : X.A.units < cLine) (hc : X.calm = true) (hN : X.N.Nodup) (I : Inv X pins σ H s) (hi : PI X tg iter wi) (ok : BlkOk X.N X.env.scope scope own)
    (hg : ∀ (s : Shared) (H : Hp) (C : Addr) (cl : List (Str × Addr)) (fp : List Addr), PG (X.blk s H scope (compEnvC scope cl C X.env) fp) tg g) (ht : ∀ (s : Shared) (H : Hp) (C : Addr) (cl : List (Str × Addr)) (fp : List Addr), PTs (X.blk s H scope (compEnvC scope cl C X.env) fp) ifs tt)
    (hk : ∀ (s : Shared) (H : Hp) (C : Addr) (cl : List (Str × Addr)) (fp : List Addr), PE (X.blk s H scope (compEnvC scope cl C X.env) fp) kx tk)
    (he : ∀ (s : Shared) (H : Hp) (C : Addr) (cl : List (Str × Addr)) (fp : List Addr), PE (X.blk s H scope (compEnvC scope cl C X.env) fp) vx tv) (hs : ∀ x, foldedSetIterable iter X.env x = pure x)
    (h : tDcT wi g tt tk tv (own.map (·.2)) σ H Q)
    (hRR : ∀ D C s' m H', Inv X pins σ H' s' → Q (.ref D) H' → s'.heap.Ns C m → FpOk X pins H' C → compPost (model X.prog X.w) X.A X.xe use Qf (.ref D) C (.ok .next) s') :
    wpAny (model X.prog X.w) X.A (comprehension (.DictComp kx vx [⟨tg, iter, ifs, 0⟩] scope pos) scope X.env pos' newDict false (eval iter X.env) use) Qf X.xe s := by
  have hfree : ∀ y ∈ scope.names, y.2 = .free → ∃ c, X.env.cells.lookup y.1 = some c := fun y hy e => by
    rcases ok.free y hy e with k | k
    · exact I.ok.has _ (.inl k)
    · exact I.ok.has _ (.inr k)
  refine wpAny_comprehension_free (use := use) rfl hs (closure_ok hfree) ok.kind (fun y hy e => by rw [ok.uniq y hy, e])
    (thn (hi.run pins s σ H _ I h) fun xv s1 hx => thn hx fun itv s2 h2 => ?_)
  obtain ⟨it, fp, tn, J, H2, e, I2, T, st2, f2, q⟩ := h2
  subst e
  refine wpAny_newObj_type (newEnv_comp ?_)
  generalize hD : s2.heap.objs.size = D
  have hDn : H2 D = none := I2.hok.fresh (Nat.le_of_eq hD)
  obtain ⟨W, ⟨m0, w0⟩, turn⟩ := q D hDn
  -- the new list
  generalize hs3 : ({ s2 with heap := s2.heap.push { cls := .type "dict", data := .dict #[] } } : Shared) = s3
  have I3 : Inv X pins σ (L2.upd H2 D (.dT [])) s3 := by
    rw [← hs3]
    refine I2.laid (t' := s2.toks) (fun b o e => Heap.get?_push_of_some _ e) (Nat.le_of_eq hD) ?_
    rw [← hD]
    exact dt_empty s2.heap I2.big
  have h3 : s3.heap = s2.heap.push { cls := .type "dict", data := .dict #[] } := by rw [← hs3]
  have sz : ∀ b ∈ fp, b < s2.heap.objs.size := fun b hb => by
    obtain ⟨o, e, _⟩ := T.obj _ _ st2 b hb
    exact Heap.lt_size e
  have f3 : ∀ b ∈ fp, FpOk X pins (L2.upd H2 D (.dT [])) b ∧ b < s3.heap.objs.size := fun b hb => by
    have hlt := sz b hb
    refine ⟨⟨?_, (f2 b hb).2⟩, by rw [h3, Heap.size_push]; exact Nat.lt_succ_of_lt hlt⟩
    rw [upd_ne (by rw [← hD]; exact Nat.ne_of_lt hlt)]
    exact (f2 b hb).1
  have st3 : tn 0 s3.heap := T.keep _ _ _ st2 fun b _ o e => by rw [h3]; exact Heap.get?_push_of_some _ e
  have I4 := block_start I3 ok hN f3
  have pg := hg s3 (L2.upd H2 D (.dT [])) s3.heap.objs.size (cellsFrom (s3.heap.objs.size + 1) scope.names (cloFrom X.env.cells scope.names [])) fp
  have pt := ht s3 (L2.upd H2 D (.dT [])) s3.heap.objs.size (cellsFrom (s3.heap.objs.size + 1) scope.names (cloFrom X.env.cells scope.names [])) fp
  have pk := hk s3 (L2.upd H2 D (.dT [])) s3.heap.objs.size (cellsFrom (s3.heap.objs.size + 1) scope.names (cloFrom X.env.cells scope.names [])) fp
  have pe := he s3 (L2.upd H2 D (.dT [])) s3.heap.objs.size (cellsFrom (s3.heap.objs.size + 1) scope.names (cloFrom X.env.cells scope.names [])) fp
  show codeAny _ _ (.compStart (.DictComp kx vx [⟨tg, iter, ifs, 0⟩] scope pos) 0 (.ref it) (.ref D) (compEnvC scope (cellsFrom (s3.heap.objs.size + 1) scope.names (cloFrom X.env.cells scope.names [])) s3.heap.objs.size X.env)) (compPost (model X.prog X.w) X.A X.xe use Qf (.ref D) s3.heap.objs.size) { s3 with heap := pushCells (s3.heap.push { cls := .type "dict", data := .dict #[] }) scope.names }
  have nfp : ∀ b ∈ fp, (L2.upd H2 D (.dT [])) b = none := fun b hb => (f3 b hb).1.1
  generalize hce : compEnvC scope (cellsFrom (s3.heap.objs.size + 1) scope.names (cloFrom X.env.cells scope.names [])) s3.heap.objs.size X.env = ce at I4 pg pt pk pe ⊢
  have cL : ce.locals = s3.heap.objs.size := by subst hce; rfl
  generalize hH3 : L2.upd H2 D (.dT []) = H3 at I3 I4 pg pt pk pe w0 nfp f3
  generalize hs4 : ({ s3 with heap := pushCells (s3.heap.push { cls := .type "dict", data := .dict #[] }) scope.names } : Shared) = s4 at I4 ⊢
  have st4 : tn 0 s4.heap := T.keep _ _ _ st3 fun b _ o e => by rw [← hs4]; exact pushCells_keeps _ _ _ _ (Heap.get?_push_of_some _ e)
  have stat : ∀ {σ' : L2.St} {H' : Hp} {s' : Shared}, Inv (X.blk s3 H3 scope ce fp) [] σ' H' s' → (∀ b ∈ fp, H' b = none) → ∀ b ∈ fp, FpOk (X.blk s3 H3 scope ce fp) [] H' b := fun {σ' H' s'} I' hn b hb =>
    ⟨hn b hb, (I'.ok.exf b hb).1, I'.ok.exfs b hb, .inl hb, fun x c e => (I'.ok.exf b hb).2 x c e, fun p hp => absurd (show p ∈ ([] : List (Addr × Obj)) ++ [] from hp) (by simp)⟩
  have loop : codeAny (model X.prog X.w) X.A (.compLoop (.DictComp kx vx [⟨tg, iter, ifs, 0⟩] scope pos) 0 (.ref it) (.ref D) ce) (compPost (model X.prog X.w) X.A X.xe use Qf (.ref D) s3.heap.objs.size) s4 := by
    refine compLoop_anyD (fun n s' => ∃ i H', Inv (X.blk s3 H3 scope ce fp) [] (wipe σ (own.map (·.2))) H' s' ∧ tn i s'.heap ∧ (∀ b ∈ fp, H' b = none) ∧ W i n H') ?_ m0 ⟨0, H3, I4, st4, nfp, w0⟩
    rintro n s5 ⟨i, H5, I5, st5, n5, w5⟩
    rcases turn i n H5 w5 with ⟨stop, qq⟩ | ⟨go, Nx, hNx, step⟩
    · have td := T.done (X.blk s3 H3 scope ce fp) rfl rfl rfl hc i [] s5 _ H5 (fun _ _ => False) I5 (stat I5 n5) st5 stop
      refine thnF td fun r s6 ⟨hr, I6⟩ => ?_
      subst hr
      -- back in the def's context
      have I7 : Inv X pins σ H5 s6 := I3.call' (ch := fp) I6.os I6.base I6.hok I6.bare fun b hb => ⟨(f3 b hb).1.2.2.2.1, (f3 b hb).1.2.1, (f3 b hb).1.2.2.2.2.1, (f3 b hb).1.2.2.2.2.2⟩
      have nC : H5 s3.heap.objs.size = none := by
        have z : H5 ce.locals = none := I6.free
        rw [cL] at z
        exact z
      obtain ⟨m, hn, _⟩ := I6.loc
      have hn : s6.heap.Ns ce.locals m := hn
      rw [cL] at hn
      exact hRR D s3.heap.objs.size s6 m H5 I7 qq hn (I3.fpOk (Nat.le_refl _) nC)
    · have ti := T.item (X.blk s3 H3 scope ce fp) rfl rfl rfl hc i [] s5 _ H5 (fun _ _ => False) I5 (stat I5 n5) st5 go
      refine thnF ti fun r s6 ⟨u, hr, h6⟩ => ?_
      subst hr
      refine thnF h6 fun _ s7 ⟨x, H7, I7, r7, y7, st7, n7⟩ => ?_
      have I7' := I7.pinned (stat I7 n7) (T.obj _ _ st7)
      refine thnF (pg.run _ s7 _ H7 x u _ I7' r7 (step x H7 y7)) fun _ s8 ⟨σ8, H8, I8, hw8, q8⟩ => ?_
      refine thnF (pt.run _ s8 σ8 H8 _ I8 q8) fun b s9 ⟨H9, I9, q9⟩ => ?_
      -- the turn's end
      have fin : ∀ {s' : Shared} {H' : Hp}, Inv (X.blk s3 H3 scope ce fp) ([] ++ pinsAt fp s7.heap) σ8 H' s' → Nx H' → ∃ m, m < n ∧ ∃ i H', Inv (X.blk s3 H3 scope ce fp) [] (wipe σ (own.map (·.2))) H' s' ∧ tn i s'.heap ∧ (∀ b ∈ fp, H' b = none) ∧ W i m H' := fun {s' H'} I' nx => by
        obtain ⟨m', hm, w'⟩ := hNx H' nx
        have pin' : ∀ b ∈ fp, ∀ o, s7.heap.get? b = some o → s'.heap.get? b = some o ∧ H' b = none := fun b hb o e =>
          let z := I'.pin (b, o) (List.mem_append_right _ (List.mem_append_right _ (mem_pinsAt hb e)))
          ⟨z.1, z.2.1⟩
        have hl : (wipe σ (own.map (·.2))).length = σ8.length := by rw [← hw8, wipe_length]
        refine ⟨m', hm, i + 1, H', (I'.unpinned (pins := [])).weak hl (fun j v e => ?_), T.keep _ _ _ st7 fun b hb o e => (pin' b hb o e).1, fun b hb => ?_, w'⟩
        · rw [← hw8] at e
          exact (wipe_some e).1
        · obtain ⟨o, e, _⟩ := T.obj _ _ st7 b hb
          exact (pin' b hb o e).2
      cases b with
      | false =>
        simp only [Bool.false_eq_true, if_false] at q9 ⊢
        exact fin I9 q9
      | true =>
        simp only [if_true] at q9 ⊢
        refine thnF (pk.run _ s9 σ8 H9 _ I9 q9) fun z s10 ⟨yk, H10, I10, r10, q10⟩ => ?_
        refine thnF (pe.run _ s10 σ8 H10 _ I10 q10) fun z2 s11 ⟨yv, H11, I11, r11, kvs, k, bk, ek, hbk, hD11, hz11, nx⟩ => ?_
        subst ek
        exact d_dictSetT (X := X.blk s3 H3 scope ce fp) hu I11 hD11 hbk hz11 r10 r11 fun s12 I12 => fin I12 nx
  exact codeAny_compStart_dict loop (T.self X.A 0 _ _ _ st4 loop)
/-- as a value -/
theorem pe_dcT {kx vx tg iter : Expr} {ifs : List Expr} {scope : Scope} {own : List (Str × Nat)} {pos : Pos} {wi : TI} {g : TG} {tt : TT} {tk tv : TE} (hu : X.A.units < cLine) (hc : X.calm = true) (hN : X.N.Nodup) (hi : PI X tg iter wi) (ok : BlkOk X.N X.env.scope scope own)
    (hg : ∀ (s : Shared) (H : Hp) (C : Addr) (cl : List (Str × Addr)) (fp : List Addr), PG (X.blk s H scope (compEnvC scope cl C X.env) fp) tg g) (ht : ∀ (s : Shared) (H : Hp) (C : Addr) (cl : List (Str × Addr)) (fp : List Addr), PTs (X.blk s H scope (compEnvC scope cl C X.env) fp) ifs tt)
    (hk : ∀ (s : Shared) (H : Hp) (C : Addr) (cl : List (Str × Addr)) (fp : List Addr), PE (X.blk s H scope (compEnvC scope cl C X.env) fp) kx tk)
    (he : ∀ (s : Shared) (H : Hp) (C : Addr) (cl : List (Str × Addr)) (fp : List Addr), PE (X.blk s H scope (compEnvC scope cl C X.env) fp) vx tv) (hs : ∀ x, foldedSetIterable iter X.env x = pure x := by intro _; rfl) :
    PE X (.DictComp kx vx [⟨tg, iter, ifs, 0⟩] scope pos) (tDcT wi g tt tk tv (own.map (·.2))) := by
  refine ⟨fun pins s σ H Q I h => ?_⟩
  rw [arm_eval_DictComp]
  refine dcT_core hu hc hN I hi ok hg ht hk he hs h fun D C s' m H' I' q hn f => ⟨m, hn, fun h'' sb => ?_⟩
  obtain ⟨f0, f1, f2, f3, f4, f5⟩ := f
  exact ⟨.ref D, H', I'.turned (t' := s'.toks) (fun b o hb e => (sb.2 b hb).trans e) f0 f1 f3 f4 f5, rfl, q⟩
end
end Y

/-! ### dicts of cells, data as values -/
namespace Y
open PySem PySem.Spec PyProof.Rows L2
abbrev Dt := List (Cell × PyData)
def dtK (md : Dt) : List (List L2.Key × PyData) := md.map fun e => (ckey e.1, e.2)
def DtC (K : PySem.W.Frag) (G : Hp) (kvs : List (List L2.Key × V)) (md : Dt) : Prop := kvs.map (·.1) = (dtK md).map (·.1) ∧ DpAll K G (kvs.map (·.2)) ((dtK md).map (·.2))
/-- it stands, apart from what is known -/
def DtAt (K : PySem.W.Frag) (d : Addr) (G H : Hp) (md : Dt) : Prop := ∃ kvs, H d = some (.dT kvs) ∧ G d = none ∧ DtC K G kvs md
/-- it stands, locked or not -/
def DtRd (K : PySem.W.Frag) (d : Addr) (G H : Hp) (md : Dt) : Prop := ∃ kvs, Rd H d (.dT kvs) ∧ DtC K G kvs md
/-- it is known -/
def DtKn (K : PySem.W.Frag) (d : Addr) (G : Hp) (md : Dt) : Prop := ∃ kvs, G d = some (.dT kvs) ∧ DtC K G kvs md
section
variable {K : PySem.W.Frag} {G H G' H' : Hp} {M : List Addr} {v y z : V} {c : Cell} {p A d P : Addr} {o : HO} {md m2 : Dt} {Q : VK} {σ : L2.St} {i : Int} {R : Hp → Prop} {x : PyData} {kvs : List (List L2.Key × V)} {q : Str}
theorem DtC.go (h : DtC K G kvs md) (e : Ex G G') : DtC K G' kvs md := ⟨h.1, dpAll_mono e h.2⟩
theorem DtC.len (h : DtC K G kvs md) : kvs.length = md.length := by
  have := congrArg List.length h.1
  simpa [dtK] using this
theorem DtAt.rd (r : DtAt K d G H md) : DtRd K d G H md := by
  obtain ⟨kvs, h, _, c⟩ := r
  exact ⟨kvs, .inl h, c⟩
theorem DtKn.rd (r : DtKn K d G md) (e : Ex G H) : DtRd K d G H md := by
  obtain ⟨kvs, h, c⟩ := r
  exact ⟨kvs, .inl (e _ _ h), c⟩
theorem DtKn.go (r : DtKn K d G md) (e : Ex G G') : DtKn K d G' md := by
  obtain ⟨kvs, h, c⟩ := r
  exact ⟨kvs, e _ _ h, c.go e⟩
theorem DtAt.know (r : DtAt K d G H md) (e : Ex G H) : ∃ G', Ex G G' ∧ Ex G' H ∧ DtKn K d G' md ∧ (∀ b, b ≠ d → G' b = G b) := by
  obtain ⟨kvs, h, g, c⟩ := r
  exact ⟨L2.upd G d (.dT kvs), .new g, e.put h, ⟨kvs, upd_same, c.go (.new g)⟩, fun b hb => upd_ne hb⟩
theorem DtAt.go (r : DtAt K d G H md) (n : Nx M G H G' H') (hd : d ∉ M) : DtAt K d G' H' md := by
  obtain ⟨kvs, h, g, c⟩ := r
  exact ⟨kvs, n.fr d _ hd h, n.old d g ⟨_, h, fun _ z => nomatch z⟩, c.go n.gg⟩
theorem DtRd.go (r : DtRd K d G H md) (n : Nx M G H G' H') (hd : d ∉ M) : DtRd K d G' H' md := by
  obtain ⟨kvs, h | ⟨o, h⟩, c⟩ := r
  · exact ⟨kvs, .inl (n.fr d _ hd h), c.go n.gg⟩
  · exact ⟨kvs, .inr ⟨o, n.fr d _ hd h⟩, c.go n.gg⟩
theorem DtAt.upd (r : DtAt K d G H md) (h : A ≠ d) : DtAt K d G (L2.upd H A o) md := by
  obtain ⟨kvs, h1, r⟩ := r
  exact ⟨kvs, by rw [upd_ne h.symm]; exact h1, r⟩
theorem DtAt.live (r : DtAt K d G H md) : H d ≠ none := by
  obtain ⟨kvs, h1, _⟩ := r
  rw [h1]; exact fun z => nomatch z
theorem TabAt.neT (t : TabAt P q G H) (r : DtRd K d G H md) : d ≠ P := fun z => by
  obtain ⟨g, tab, h, _⟩ := t
  obtain ⟨_, h1 | ⟨_, h1⟩, _⟩ := r <;> (rw [z, h] at h1; cases h1)
theorem dt_gt {c : Cell} : ∀ {md : Dt}, gtM (dtK md) (ckey c) = gtM md c
  | [] => rfl
  | (k, x) :: m => by
    have ih := dt_gt (c := c) (md := m)
    show gtM ((ckey k, x) :: dtK m) (ckey c) = _
    rw [gtM_cons, gtM_cons, ih]
    by_cases h : k = c
    · rw [if_pos (congrArg ckey h), if_pos h]
    · rw [if_neg (fun z => h (ckey_inj z)), if_neg h]
theorem dt_pt : dtK (ptM md c x) = ptM (dtK md) (ckey c) x := by
  unfold ptM dtK
  rw [List.any_map]
  have e2 : (md.any ((fun p => decide (p.1 = ckey c)) ∘ fun e : Cell × PyData => (ckey e.1, e.2))) = md.any fun p => decide (p.1 = c) := by
    congr 1
    funext e
    exact decide_eq_decide.mpr ⟨fun h => ckey_inj h, fun h => congrArg ckey h⟩
  rw [e2]
  split
  · rw [List.map_map, List.map_map]
    refine List.map_congr_left fun e _ => ?_
    show (ckey (if e.1 = c then (e.1, x) else e).1, (if e.1 = c then (e.1, x) else e).2) = (if ckey e.1 = ckey c then (ckey e.1, x) else (ckey e.1, e.2))
    by_cases h : e.1 = c
    · rw [if_pos (congrArg ckey h), if_pos h]
    · rw [if_neg (fun z => h (ckey_inj z)), if_neg h]
  · rw [List.map_append]
    rfl
theorem DtC.get (h : DtC K G kvs md) (hg : gtM md c = some x) : ∃ v, valV kvs (ckey c) = some v ∧ Dp K G v x := (gt_rel (ckey c) h.1 h.2).1 x (by rw [dt_gt]; exact hg)
theorem DtC.some (h : DtC K G kvs md) : (valV kvs (ckey c)).isSome = (gtM md c).isSome := by
  have r := gt_rel (ckey c) h.1 h.2
  cases e : gtM md c with
  | none => rw [r.2 (by rw [dt_gt]; exact e)]; rfl
  | some z =>
    obtain ⟨v, hv, _⟩ := h.get e
    rw [hv]; rfl
theorem DtC.put (h : DtC K G kvs md) (dv : Dp K G v x) : DtC K G (putK kvs (ckey c) v) (ptM md c x) := by
  unfold DtC
  rw [dt_pt]
  exact pt_rel (ckey c) dv h.1 h.2
theorem g_dtIn (e : Ex G H) (r : DtRd K d G H md) (h : Cl G y c) (q : Q (.bl (gtM md c).isSome) H) : DInW Q y (.ref d) H := by
  obtain ⟨b, rfl, hb⟩ := h
  obtain ⟨kvs, h, k⟩ := r
  exact ⟨d, _, rfl, .inr ⟨_, ckey c, b, h, rfl, e _ _ hb, rfl⟩, by rw [k.some]; exact q⟩
theorem g_dtNi (e : Ex G H) (r : DtRd K d G H md) (h : Cl G y c) (q : Q (.bl (!(gtM md c).isSome)) H) : DNiW Q y (.ref d) H := by
  obtain ⟨b, rfl, hb⟩ := h
  obtain ⟨kvs, h, k⟩ := r
  exact ⟨d, _, rfl, .inr ⟨_, ckey c, b, h, rfl, e _ _ hb, rfl⟩, by rw [k.some]; exact q⟩
theorem g_dtGet (e : Ex G H) (r : DtRd K d G H md) (h : Cl G y c) (hg : gtM md c = some x) (q : ∀ v, Dp K G v x → Q v H) : DGeW Q (.ref d) y H := by
  obtain ⟨b, rfl, hb⟩ := h
  obtain ⟨kvs, h, k⟩ := r
  obtain ⟨v, hv, dv⟩ := k.get hg
  exact ⟨d, v, rfl, .inr ⟨_, ckey c, b, h, rfl, e _ _ hb, hv.symm⟩, q v dv⟩
theorem g_dtPut (e : Ex G H) (r : DtAt K d G H md) (h : Cl G y c) (dv : Dp K G v x) (hl : md.length < 100000) (q : ∀ H', Nx [d] G H G H' → DtAt K d G H' (ptM md c x) → R H') : DPuW R v (.ref d) y H := by
  obtain ⟨b, rfl, hb⟩ := h
  obtain ⟨kvs, h, g, k⟩ := r
  exact ⟨d, _, rfl, .inr ⟨_, ckey c, b, h, rfl, e _ _ hb, by rw [k.len]; exact szl (by omega), rfl⟩, q _ (Nx.set e g (by simp)) ⟨_, upd_same, g, k.put dv⟩⟩
theorem g_dtNew (e : Ex G H) (q : ∀ p H', Nx [] G H G H' → H p = none → DtAt K p G H' [] → Q (.ref p) H') : tDNewT σ H Q := fun p hp => q p _ (Nx.own e hp) hp ⟨[], upd_same, e.free hp, rfl, .nil⟩
theorem g_dtLen (r : DtAt K d G H md) (q : Q (.int (md.length : Int)) H) : rLenT [.ref d] H Q := by
  obtain ⟨kvs, h, _, k⟩ := r
  exact ⟨d, _, rfl, h, by rw [k.len]; exact q⟩
theorem know_keysD : ∀ {md : Dt} {kvs : List (List L2.Key × V)} {bs : List Addr} {G : Hp}, Ex G H → kvs.map (·.1) = (dtK md).map (·.1) → IsKeys H kvs bs → ∃ G', Nx [] G H G' H ∧ PySem.Paired (Cl G') (bs.map V.ref) (md.map (·.1))
  | [], [], [], G, e, _, .nil => ⟨G, Nx.refl e, .nil⟩
  | (c, x) :: m, kv :: kvs, b :: bs, G, e, hk, .cons h r => by
    have hk2 : kv.1 = ckey c ∧ kvs.map (·.1) = (dtK m).map (·.1) := by
      simp only [dtK, List.map_cons, List.cons.injEq] at hk ⊢
      exact hk
    obtain ⟨G1, n1, p1⟩ := know_keysD (md := m) e hk2.2 r
    rw [hk2.1] at h
    obtain ⟨G2, n2, hb⟩ := know1 n1.gh h
    exact ⟨G2, n1.trans n2, .cons ⟨b, rfl, hb⟩ (pr_mono (fun _ _ h => h.go n2.gg) p1)⟩
  | [], _ :: _, _, _, _, hk, _ => by simp [dtK] at hk
  | _ :: _, [], _, _, _, hk, _ => by simp [dtK] at hk
theorem g_dtList (e : Ex G H) (r : DtRd K d G H md) (q : ∀ p G' H', Nx [] G H G' H' → H p = none → ClsAt p G' H' (md.map (·.1)) → Q (.ref p) H') : rListT [.ref d] H Q := by
  obtain ⟨kvs, h, k⟩ := r
  refine ⟨d, _, rfl, h, fun p bs hp hk => ?_⟩
  obtain ⟨G1, n1, h1⟩ := know_keysD e k.1 hk
  exact q p G1 _ (n1.trans (Nx.own n1.gh hp)) hp ⟨_, upd_same, n1.gh.free hp, h1⟩
/-- the hashes of the cells are apart -/
def HNdD (md : Dt) : Prop := (md.map fun e => kHash (ckey e.1)).Nodup
theorem g_dtCopy (e : Ex G H) (r : DtRd K d G H md) (hn : HNdD md) (q : ∀ p H', Nx [] G H G H' → H p = none → DtAt K p G H' md → Q (.ref p) H') : rDictT [.ref d] H Q := by
  obtain ⟨kvs, h, k⟩ := r
  refine ⟨d, _, rfl, h, fun x hx a ha => ?_, ?_, fun p hp => q p _ (Nx.own e hp) hp ⟨kvs, upd_same, e.free hp, k⟩⟩
  · have : x.1 ∈ (dtK md).map (·.1) := k.1 ▸ List.mem_map.mpr ⟨x, hx, rfl⟩
    obtain ⟨z, hz, e1⟩ := List.mem_map.mp this
    obtain ⟨w, _, rfl⟩ := List.mem_map.mp hz
    rw [← e1] at ha
    unfold ckey at ha
    simp only [List.mem_cons, List.not_mem_nil, or_false] at ha
    rcases ha with rfl | rfl <;> exact ⟨_, rfl⟩
  · have e1 := congrArg (List.map kHash) k.1
    unfold dtK at e1
    simp only [List.map_map, Function.comp_def] at e1
    rw [e1]
    exact hn
theorem src_dt {od : Obj} (h : H d = some (.frz od (.dT kvs))) (k : DtC K G kvs md) (hM : d ∉ M) : SrcP M (Itkt d od kvs) G H md.length (fun i G v => ∃ c, (md.map (·.1))[i]? = some c ∧ Cl G v c) where
  go := fun i G' H' n hi => ⟨n.fr d _ hM h, by rw [k.len]; exact hi⟩
  stop := fun i G' H' n hi => ⟨n.fr d _ hM h, by rw [k.len]; exact hi⟩
  yld := fun i G' H' x H'' n hi y => by
    obtain ⟨rfl, kk, v, q, hk, rfl, hq⟩ := y
    have h1 : (kvs.map (·.1))[i]? = some kk := by rw [List.getElem?_map, hk]; rfl
    rw [k.1] at h1
    unfold dtK at h1
    rw [List.map_map, List.getElem?_map] at h1
    obtain ⟨e0, he, h2⟩ := Option.map_eq_some_iff.mp h1
    subst h2
    obtain ⟨G2, n2, hb⟩ := know1 n.gh hq
    exact ⟨G2, n2, e0.1, by rw [List.getElem?_map, he]; rfl, q, rfl, hb⟩
theorem g_lockTE {t : TE} (h : H d = some (.dT kvs)) (q : ∀ od, t σ (L2.upd H d (.frz od (.dT kvs))) (fun v H' => H' d = some (.frz od (.dT kvs)) ∧ Q v (L2.upd H' d (.dT kvs)))) : tLockE t σ H Q := ⟨d, _, h, trivial, q⟩
theorem dt_lock {od : Obj} (h : H d = some (.dT kvs)) (g : G d = none) (k : DtC K G kvs md) (e : Ex G H) : Ex G (L2.upd H d (.frz od (.dT kvs))) ∧ DtRd K d G (L2.upd H d (.frz od (.dT kvs))) md := ⟨e.out g, kvs, .inr ⟨od, upd_same⟩, k⟩
theorem dt_unlock {od : Obj} (h : H d = some (.dT kvs)) (g : G d = none) (k : DtC K G kvs md) (hM : d ∉ M) (n : Nx M G (L2.upd H d (.frz od (.dT kvs))) G' H') : H' d = some (.frz od (.dT kvs)) ∧ Nx M G H G' (L2.upd H' d (.dT kvs)) ∧ DtAt K d G' (L2.upd H' d (.dT kvs)) md := by
  obtain ⟨a, b, c⟩ := unlock_nx h g hM n
  exact ⟨a, c, kvs, upd_same, b, k.go n.gg⟩
/-- two dicts of the same data -/
theorem eqR_dt {a b : Addr} {n : Nat} (e : Ex G H) (r1 : DtAt K a G H md) (r2 : DtAt K b G H m2) (hl : md.length = m2.length) (hs : ∀ c x, (c, x) ∈ md → gtM m2 c = some x) (hd : ∀ x ∈ md, x.2.depth ≤ n) : EqR2 K H (EqW K H (n + 1)) (.ref a) (.ref b) := by
  obtain ⟨ks, h1, _, k1⟩ := r1
  obtain ⟨ls, h2, _, k2⟩ := r2
  refine .inr (.inr (.inr ⟨a, b, ks, ls, rfl, rfl, h1, h2, by rw [k1.len, k2.len]; exact hl, fun p hp => ?_⟩))
  obtain ⟨i, hi, rfl⟩ := List.getElem_of_mem hp
  have him : i < md.length := by rw [← k1.len]; exact hi
  have ek : ks[i].1 = ckey md[i].1 := by
    have := congrArg (fun l => l[i]?) k1.1
    simp [dtK, him, hi] at this
    exact this
  obtain ⟨x, hx, dx⟩ := dpAll_got k1.2 (i := i) (v := ks[i].2) (by simp [hi])
  have ex : x = md[i].2 := by simp [dtK, him] at hx; exact hx.symm
  subst ex
  obtain ⟨v, hv, dv⟩ := k2.get (hs md[i].1 md[i].2 (List.getElem_mem him))
  exact ⟨v, by rw [ek]; exact hv, eqW_dp (dp_mono e dx) (by have := hd _ (List.getElem_mem him); omega) (dp_mono e dv)⟩
end
/-! ### {cell: v for ..} -/
def DcTW (J : It) (g : TG) (tt : TT) (tk tv : TE) (vs : List Nat) (σ : L2.St) (D : Addr) (Q : VK) (H1 : Hp) : Prop := ∃ W : Nat → Nat → Hp → Prop, (∃ m, W 0 m (L2.upd H1 D (.dT []))) ∧ ∀ i m H, W i m H →
  (J.stop i H ∧ Q (.ref D) H) ∨ (J.go i H ∧ ∃ Nx : Hp → Prop, (∀ H', Nx H' → ∃ m', m' < m ∧ W (i + 1) m' H') ∧ ∀ x H', J.yld i H x H' → g x (wipe σ vs) H' fun σ2 H2 => wipe σ2 vs = wipe σ vs ∧ tt σ2 H2 fun b H3 =>
    if b = true then tk σ2 H3 fun y H4 => tv σ2 H4 fun z H5 => ∃ kvs k b, y = V.ref b ∧ H5 b = some (.tup (k.map kV)) ∧ H5 D = some (.dT kvs) ∧ kvs.length < sizeLine ∧ Nx (L2.upd H5 D (.dT (putK kvs k z))) else Nx H3)
theorem g_dcT {wi : TI} {g : TG} {tt : TT} {tk tv : TE} {vs : List Nat} {σ : L2.St} {H : Hp} {Q : VK} (q : wi σ H fun J H1 => ∀ D, H1 D = none → DcTW J g tt tk tv vs σ D Q H1) : tDcT wi g tt tk tv vs σ H Q := q
theorem g_dcTP {K : PySem.W.Frag} {σ : L2.St} {G H : Hp} {Q : VK} {g : TG} {tk tv : TE} {tt : TT} {J : It} {M : List Addr} {n : Nat} {P : Nat → Hp → V → Prop} {A : Addr} {js : List Nat} {es : Nat → Dt} (S : SrcP M J G H n P) (e : Ex G H) (hA : H A = none) (hM : ∀ b ∈ M, H b ≠ none) (hz : n < 100000) (e0 : es 0 = []) (hlen : ∀ i, (es i).length ≤ i)
    (Jv : Nat → Hp → Hp → Prop) (jA : ∀ i G' H' o, Jv i G' H' → Jv i G' (L2.upd H' A o)) (jN : ∀ i G' H' G1 H1, Nx [] G' H' G1 H1 → Jv i G' H' → Jv i G1 H1) (j0 : Jv 0 G H)
    (hs : ∀ i v G' H', i < n → P i G' v → Nx M G H G' H' → Jv i G' H' → ∀ (QE : V → V → Hp → Prop) (QN : Hp → Prop),
      (∀ y z c x G4 H4, Nx M G' H' G4 H4 → Jv (i + 1) G4 H4 → Cl G4 y c → Dp K G4 z x → es (i + 1) = ptM (es i) c x → QE y z H4) → (∀ G3 H3, Nx M G' H' G3 H3 → Jv (i + 1) G3 H3 → es (i + 1) = es i → QN H3) →
      g v (wipe σ js) H' fun σ2 H2 => wipe σ2 js = wipe σ js ∧ tt σ2 H2 fun b H3 => if b = true then tk σ2 H3 fun y H4 => tv σ2 H4 fun z H5 => QE y z H5 else QN H3)
    (hd : ∀ G' H', Nx M G H G' H' → Jv n G' H' → DtAt K A G' H' (es n) → Q (.ref A) H') : DcTW J g tt tk tv js σ A Q H := by
  have st0 : Nx [] G H G (L2.upd H A (.dT [])) := Nx.own e hA
  have hAM : A ∉ M := fun z => hM A z hA
  refine ⟨fun i m H' => m = n - i ∧ i ≤ n ∧ ∃ G' kvs, Nx M G H G' H' ∧ G' A = none ∧ H' A = some (.dT kvs) ∧ DtC K G' kvs (es i) ∧ Jv i G' H',
    ⟨n, by simp, Nat.zero_le _, G, [], st0.pure, e.free hA, upd_same, by rw [e0]; exact ⟨rfl, .nil⟩, jA _ _ _ _ j0⟩, ?_⟩
  rintro i m H' ⟨rfl, hi, G', kvs, nn, gA, hys, hk, jv⟩
  by_cases hlt : i < n
  · refine .inr ⟨S.go i G' H' nn hlt, fun H'' => ∃ G'' kvs, Nx M G H G'' H'' ∧ G'' A = none ∧ H'' A = some (.dT kvs) ∧ DtC K G'' kvs (es (i + 1)) ∧ Jv (i + 1) G'' H'',
      fun H'' ⟨G'', kvs', r⟩ => ⟨n - (i + 1), by omega, rfl, hlt, G'', kvs', r⟩, fun v H1 y => ?_⟩
    obtain ⟨G1, n1, d1⟩ := S.yld i G' H' v H1 nn hlt y
    have n2 : Nx M G H G1 H1 := nn.trans n1.pure
    have gA1 : G1 A = none := n1.old A gA ⟨_, hys, fun _ z => nomatch z⟩
    have hys1 : H1 A = some (.dT kvs) := n1.fr A _ (by simp) hys
    refine hs i v G1 H1 hlt d1 n2 (jN _ _ _ _ _ n1 jv) (fun y z H5 => ∃ (kvs : List (List L2.Key × V)) (k : List L2.Key) (b : Addr), y = V.ref b ∧ H5 b = some (.tup (k.map kV)) ∧ H5 A = some (.dT kvs) ∧ kvs.length < sizeLine ∧ _) _ (fun y z c x G4 H4 n4 jv' hy hz' ee => ?_) (fun G3 H3 n3 jv' ee => ?_)
    · have gA4 : G4 A = none := n4.old A gA1 ⟨_, hys1, fun _ z => nomatch z⟩
      have hys4 : H4 A = some (.dT kvs) := n4.fr A _ hAM hys1
      have n5 : Nx M G H G4 H4 := n2.trans n4
      have k4 := (hk.go n1.gg).go n4.gg
      obtain ⟨b, rfl, hb⟩ := hy
      have n6 : Nx [A] G4 H4 G4 (L2.upd H4 A (.dT (putK kvs (ckey c) z))) := Nx.set n4.gh gA4 (by simp)
      have n7 : Nx (A :: M) G H G4 (L2.upd H4 A (.dT (putK kvs (ckey c) z))) := (n5.mono fun _ z => List.mem_cons_of_mem _ z).trans (n6.mono fun b z => by simp at z; simp [z])
      refine ⟨kvs, ckey c, b, rfl, n4.gh _ _ hb, hys4, by rw [k4.len]; exact szl (by have := hlen i; omega), G4, _, n7.drop hA, gA4, upd_same, by rw [ee]; exact k4.put hz', jA _ _ _ _ jv'⟩
    · have gA3 : G3 A = none := n3.old A gA1 ⟨_, hys1, fun _ z => nomatch z⟩
      exact ⟨G3, kvs, n2.trans n3, gA3, n3.fr A _ hAM hys1, by rw [ee]; exact (hk.go n1.gg).go n3.gg, jv'⟩
  · have e' : i = n := by omega
    subst e'
    exact .inl ⟨S.stop _ G' H' nn (Nat.le_refl _), hd G' H' nn jv ⟨kvs, hys, gA, hk⟩⟩
end Y
/-! ### a lambda is made; min with a key -/
namespace Y
open PySem PySem.Spec PyProof.Rows L2
section
variable {K : PySem.W.Frag} {P c' d : Addr} {q : Str} {G H H1 : Hp} {Q : VK} {σ : L2.St} {i : Nat} {m : List (Int × Int)}
theorem lam_nx (e : Ex G H) (t : TabAt P q G H) (hG : LamG P q H H1 c') : ∃ G1, Nx [P] G H G1 H1 ∧ TabAt P q G1 H1 := by
  obtain ⟨g, tab, h, hT0, hA⟩ := id t
  rcases hG with ⟨rfl, _⟩ | ⟨tab2, pos, h2, hc0, rfl⟩
  · exact ⟨G, Nx.refl e, t⟩
  · rw [h] at h2
    cases h2
    have hcP : c' ≠ P := fun z => by rw [z, h] at hc0; cases hc0
    have n1 : Nx [P] G H G (L2.upd H P (.tbl (tab ++ #[rawInt ↑pos.line, rawInt ↑pos.col, .ref c']))) := Nx.set e g (by simp)
    have n2 := Nx.new (o := LamX.CodeO c' q) n1.gh (p := c') (by rw [upd_ne hcP]; exact hc0)
    refine ⟨_, n1.trans n2.pure, by rw [upd_ne hcP.symm]; exact g, _, by rw [upd_ne hcP.symm, upd_same], ?_, fun p' cv hp => ?_⟩
    · rw [Array.toList_append]
      exact TriplesOk_snoc _ _ _ _ hT0
    · rw [Array.toList_append] at hp
      rcases LamX.among_app _ hT0 hp with h3 | h3
      · obtain ⟨c2, e2, h4⟩ := hA p' cv h3
        exact ⟨c2, e2, by rw [upd_ne (fun z => by rw [z, n1.gh.free (by rw [upd_ne hcP]; exact hc0)] at h4; cases h4)]; exact h4⟩
      · exact ⟨c', h3, upd_same⟩
theorem g_minMT (e : Ex G H) (t : TabAt P q G H) (hσ : σ[i]? = some (some (.ref d))) (h : H d = some (.dK (intK m))) (hm : m ≠ []) (k : ∀ k n G' H', Nx [P] G H G' H' → TabAt P q G' H' → (k, n) ∈ m → (∀ e ∈ m, lt2 (-e.2, e.1) (-n, k) = false) → Q (.int k) H') : tMinMT P q i σ H Q :=
  ⟨t.tab e, d, m, hσ, h, hm, fun H1 c' kk n hG _ h1 h2 => by
    obtain ⟨G1, n1, t1⟩ := lam_nx e t hG
    exact k kk n G1 H1 n1 t1 h1 h2⟩
end
end Y
/-! ### del d[k], the rest told -/
namespace Y
open PySem PySem.Spec PyProof.Rows L2
section
variable {K : PySem.W.Frag} {G H : Hp} {κ : Type} [DecidableEq κ]
theorem drop_rel (k : κ) : ∀ {kvs : List (κ × V)} {md : List (κ × PyData)}, kvs.map (·.1) = md.map (·.1) → DpAll K G (kvs.map (·.2)) (md.map (·.2)) →
    (dropK kvs k).map (·.1) = (md.filter fun p => decide (p.1 ≠ k)).map (·.1) ∧ DpAll K G ((dropK kvs k).map (·.2)) ((md.filter fun p => decide (p.1 ≠ k)).map (·.2))
  | [], [], _, _ => ⟨rfl, .nil⟩
  | [], _ :: _, h, _ => by simp at h
  | _ :: _, [], h, _ => by simp at h
  | (a, v) :: kvs, (b, x) :: md, h, hd => by
    simp only [List.map_cons, List.cons.injEq] at h
    obtain ⟨rfl, h⟩ := h
    cases hd with
    | cons d1 d2 =>
      obtain ⟨i1, i2⟩ := drop_rel k h d2
      unfold dropK at i1 i2 ⊢
      by_cases hk : a = k
      · rw [List.filter_cons_of_neg (by simpa using hk), List.filter_cons_of_neg (by simpa using hk)]
        exact ⟨i1, i2⟩
      · rw [List.filter_cons_of_pos (by simpa using hk), List.filter_cons_of_pos (by simpa using hk)]
        exact ⟨by rw [List.map_cons, List.map_cons, i1], .cons d1 i2⟩
theorem g_dctDel {d : Addr} {md : List (L2.Key × PyData)} {k : L2.Key} {y : V} {R : Hp → Prop} (e : Ex G H) (r : DctAt K d G H md) (hk : y = kV k) (hs : (gtM md k).isSome = true) (q : ∀ H', Nx [d] G H G H' → DctAt K d G H' (md.filter fun p => decide (p.1 ≠ k)) → R H') : DDeW R (.ref d) y H := by
  obtain ⟨kvs, h, g, he, dd⟩ := r
  obtain ⟨p1, p2⟩ := drop_rel k he dd
  exact ⟨d, kvs, k, rfl, h, hk, by rw [isSome_rel he dd]; exact hs, q _ (Nx.set e g (by simp)) ⟨_, upd_same, g, p1, p2⟩⟩
end
end Y
namespace Y
open PySem PySem.Spec PyProof.Rows L2
theorem pe_dcTR {X : Cx} {k : Nat} (hr : Room k X.A) {kx vx tg iter : Expr} {ifs : List Expr} {scope : Scope} {own : List (Str × Nat)} {pos : Pos} {wi : TI} {g : TG} {tt : TT} {tk tv : TE} (hc : X.calm = true) (hN : X.N.Nodup) (hi : PI X tg iter wi) (ok : BlkOk X.N X.env.scope scope own)
    (hg : ∀ (s : Shared) (H : Hp) (C : Addr) (cl : List (Str × Addr)) (fp : List Addr), PG (X.blk s H scope (compEnvC scope cl C X.env) fp) tg g) (ht : ∀ (s : Shared) (H : Hp) (C : Addr) (cl : List (Str × Addr)) (fp : List Addr), PTs (X.blk s H scope (compEnvC scope cl C X.env) fp) ifs tt)
    (hk : ∀ (s : Shared) (H : Hp) (C : Addr) (cl : List (Str × Addr)) (fp : List Addr), PE (X.blk s H scope (compEnvC scope cl C X.env) fp) kx tk)
    (he : ∀ (s : Shared) (H : Hp) (C : Addr) (cl : List (Str × Addr)) (fp : List Addr), PE (X.blk s H scope (compEnvC scope cl C X.env) fp) vx tv) (hs : ∀ x, foldedSetIterable iter X.env x = pure x := by intro _; rfl) :
    PE X (.DictComp kx vx [⟨tg, iter, ifs, 0⟩] scope pos) (tDcT wi g tt tk tv (own.map (·.2))) := pe_dcT (by have := hr.un; omega) hc hN hi ok hg ht hk he hs
def rMaxVals (Q : VK) (x : V) (H1 : Hp) : Prop := ∃ a kvs is, x = V.ref a ∧ H1 a = some (.dK kvs) ∧ kvs.map (·.2) = is.map V.int ∧ is ≠ [] ∧ ∀ m, m ∈ is → (∀ j ∈ is, j ≤ m) → Q (.int m) H1
theorem g_maxV {td : TE} {σ : L2.St} {H : Hp} {Q : VK} (q : td σ H fun x H1 => rMaxVals Q x H1) : tMaxVals td σ H Q := q
theorem g_maxI {a : Addr} {H : Hp} {Q : VK} {m : List (Int × Int)} (h : H a = some (.dK (intK m))) (hm : m ≠ []) (q : ∀ n, n ∈ m.map (·.2) → (∀ e ∈ m, e.2 ≤ n) → Q (.int n) H) : rMaxVals Q (.ref a) H :=
  ⟨a, _, m.map (·.2), rfl, h, by unfold intK; rw [List.map_map, List.map_map]; rfl, by simpa using hm, fun n h1 h2 => q n h1 fun e he => h2 _ (List.mem_map.mpr ⟨e, he, rfl⟩)⟩
end Y

/-! ### for .. in d.items(), the keys tuples (as the library's rule for flat keys) -/
namespace Y
open PySem PySem.Spec PyProof.Rows L2
section
variable {X : Cx} {pins : List (Addr × Obj)} {σ : L2.St} {H : Hp} {s : Shared} {d : Addr} {o : Obj}
theorem frzT2 {kvs : List (List L2.Key × V)} (I : Inv X pins σ H s) (h : H d = some (.frz o (.dT kvs))) :
    (d == sysModules) = false ∧ s.heap.get? d = some o ∧ o.ExactDict ∧ ∃ (es : Array DictEntry) (ep : Nat), o.data = .dict es ep ∧ es.size = kvs.length ∧
      ∀ (i : Nat) (k : List L2.Key) (v : V), kvs[i]? = some (k, v) → ∃ (en : DictEntry) (q : Addr), es[i]? = some en ∧ en.key = .ref q ∧ H q = some (.tup (k.map kV)) ∧ RelV v en.val := by
  obtain ⟨hd, z, hs, xs, pr, o', es, ep, ho, hx, hdt, he, _⟩ := I.hok d _ h
  rw [hd] at ho
  cases ho
  refine ⟨hs, hd, hx, es, ep, hdt, ?_, fun i k v e => ?_⟩
  · have l1 : es.size = xs.length := size_of_entries he
    have l2 : kvs.length = xs.length := Paired.length pr
    omega
  · obtain ⟨b, hb, e1, e2, e3⟩ := L2.paired_get pr e
    have q := entry_at he i
    rw [hb] at q
    exact ⟨_, b.2.1, q, rfl, e2, e3⟩
end
/-- the pairs of a locked dict of tuple keys, each a new tuple -/
def Itit (d : Addr) (o : Obj) (kvs : List (List L2.Key × V)) : It :=
  ⟨fun i H => H d = some (.frz o (.dT kvs)) ∧ i < kvs.length, fun i H x H' => ∃ T k v q, kvs[i]? = some (k, v) ∧ x = .ref T ∧ H T = none ∧ H q = some (.tup (k.map kV)) ∧ H' = L2.upd H T (.tup [.ref q, v]), fun i H => H d = some (.frz o (.dT kvs)) ∧ kvs.length ≤ i⟩
section
variable {P : Program} {w : World} {K : PySem.W.Frag} {d : Addr} {o : Obj} {es : Array DictEntry} {ep : Nat}
theorem turn_itemsT {kvs : List (List L2.Key × V)} {elts : List Expr} {kk : Nat} {tpos : Pos} (it : Addr) (hod : o.data = .dict es ep) :
    Turn P w K (.Tuple elts kk tpos) (Itit d o kvs) [it] it (fun i h => ∃ ok ov, IsItemIter h it d i kvs.length ep ok ov) where
  mem := by simp
  obj := fun i h st b hb => by
    have e : b = it := by simpa using hb
    subst e
    obtain ⟨ok, ov, e⟩ := st
    exact ⟨_, e, fun v z => nomatch z⟩
  keep := fun i h h' st k => let ⟨ok, ov, e⟩ := st; ⟨ok, ov, k it (by simp) _ e⟩
  item := by
    intro X hP hw hK hc i pins s σ H E I hf st hg
    subst hP hw hK
    obtain ⟨hd, hi⟩ := hg
    obtain ⟨hs, hgd, hx, es', ep', hdt, hsz, ent⟩ := frzT2 I hd
    obtain ⟨rfl, rfl⟩ := dict_ep hod hdt
    obtain ⟨⟨k, v⟩, hkv⟩ : ∃ p, kvs[i]? = some p := ⟨kvs[i], List.getElem?_eq_getElem hi⟩
    obtain ⟨en, qk, hen, hkey, hq, rv⟩ := ent i k v hkv
    obtain ⟨ok, ov, he⟩ := st
    rw [← hsz] at he
    have hlt : it < s.heap.objs.size := Heap.lt_size he
    have hie : i < es'.size := by omega
    have hen2 : es'[i] = en := by
      rw [Array.getElem?_eq_getElem hie] at hen
      exact Option.some.inj hen
    refine wpAny_pyNext_items_item_raw he ⟨o, hgd, hx, hdt⟩ hie fun h' ho hT hz hk => ?_
    refine ⟨_, rfl, wpAny_letOwnedTupleGo_items (s := { s with heap := h' }) ho fun h'' he' sb => ?_⟩
    have hT2 : h''.get? s.heap.objs.size = some { cls := .type "tuple", data := .seq #[.ref qk, en.val] } := by
      rw [← hkey, ← hen2]
      exact (sb.2 _ (Nat.ne_of_gt hlt)).trans hT
    have new : ObjOk X.prog X.w (L2.upd H s.heap.objs.size (.tup [.ref qk, v])) h'' s.heap.objs.size (.tup [.ref qk, v]) :=
      ⟨by show 2 ≤ sizeLine; decide, [.ref qk, en.val], .cons rfl (.cons rv .nil), ⟨_, hT2, rfl, _, rfl⟩⟩
    have I1 : Inv X pins σ (L2.upd H s.heap.objs.size (.tup [.ref qk, v])) { s with heap := h'' } :=
      I.turnedNew (t' := s.toks) (ch := [it]) (fun b ob hb e => (sb.2 b (by simpa using hb)).trans (hk b ob (by simpa using hb) e)) hf (Nat.le_refl _) new
    refine ⟨.ref s.heap.objs.size, _, I1, rfl, ⟨_, k, v, qk, hkv, rfl, I.hok.fresh (Nat.le_refl _), hq, rfl⟩, ⟨es'[i].key, es'[i].val, ?_⟩, fun b hb => ?_⟩
    · rw [← hsz]; exact he'
    · have e : b = it := by simpa using hb
      rw [e, upd_ne (Nat.ne_of_lt hlt)]
      exact (hf it (by simp)).1
  done := by
    intro X hP hw hK hc i pins s σ H E I hf st hg
    subst hP hw hK
    obtain ⟨hd, hi⟩ := hg
    obtain ⟨f0, f1, f2, f3, f4, f5⟩ := hf it (by simp)
    obtain ⟨hs, hgd, hx, es', ep', hdt, hsz, ent⟩ := frzT2 I hd
    obtain ⟨rfl, rfl⟩ := dict_ep hod hdt
    obtain ⟨ok, ov, he⟩ := st
    rw [← hsz] at he
    exact wpAny_pyNext_items_end_raw (I.ok.hd hc) he ⟨o, hgd, hx, hdt⟩ (by omega) fun h' eb => ⟨rfl, I.turned (t' := s.toks) (fun b ob hb e => eb b ob hb e) f0 f1 f3 f4 f5⟩
  self := fun A i s Q E st h => let ⟨_, _, e⟩ := st; PySem.W.kcp_self e h
end
def iItemsT (td : TE) : TI := fun σ H R => td σ H fun x H1 => ∃ d o kvs, x = .ref d ∧ H1 d = some (.frz o (.dT kvs)) ∧ R (Itit d o kvs) H1
section
variable {X : Cx} {tg e : Expr} {td : TE} {apos cpos : Pos}
theorem pi_itemsT {elts : List Expr} {kk : Nat} {tpos : Pos} (he : PE X e td) (hbase : attributeBase e "items" X.env (eval e X.env) = eval e X.env := by rfl) (hline : (apos.endLine == cpos.line) = true := by rfl) :
    PI X (.Tuple elts kk tpos) (.Call (.Attribute e "items" apos) [] [] cpos) (iItemsT td) := by
  refine ⟨fun pins s σ H R I h => ?_⟩
  refine wpAny_Call_method (T := "dict") (id := "dict.items") hbase rfl hline F.plainAttrs_dict F.slot_dict_items F.type_dict_items (thn (he.run pins s σ H _ I h) fun u s1 ⟨x, H1, I1, rx, d, o, kvs, ex, hd, q⟩ => ?_)
  subst ex
  obtain rfl : u = Value.ref d := rx
  obtain ⟨hs, hgd, hx, es, ep, hdt, hsz, ent⟩ := frzT2 I1 hd
  have hm : s1.heap.DictRaw d es ep := ⟨o, hgd, hx, hdt⟩
  refine ⟨hm.typeIs, fun a ea => by cases ea; exact ⟨o, hgd, hx.2.1⟩, ?_⟩
  have I2 : Inv X pins σ H1 { s1 with heap := s1.heap.push { cls := .type "dict_items", data := .fields #[.ref d] } } := I1.kept (t' := s1.toks) fun b ob q => Heap.get?_push_of_some _ q
  have fin : wpAny (model X.prog X.w) X.A (pyIter (.ref s1.heap.objs.size)) (PIE X pins σ (.Tuple elts kk tpos) R) X.xe { s1 with heap := s1.heap.push { cls := .type "dict_items", data := .fields #[.ref d] } } := by
    refine wpAny_pyIter_items_raw (d := d) ⟨_, Heap.get?_push_size _ rfl, rfl, rfl⟩ (hm.push _) (pi_one (tk := s1.toks) I2 _ (turn_itemsT _ hdt) ⟨.none, .none, ?_⟩ q)
    rw [hsz]
    exact Heap.get?_push_size _ rfl
  show wpAny _ _ (callWith cpos (.builtin "dict.items") [.ref d] [] []) _ X.xe s1
  exact method_meetsIn F.slot_dict_items F.entry_dict_items rfl (PySem.evalArgs_none ⟨rfl, hm.typeIs, F.args_dict_items_1 _, _, meets_dict_items_raw d hs, ⟨_, _, hm⟩, fin⟩)
end
end Y
/-! ### [.. for .. in .. for .. in ..] -/
namespace Y
open PySem PySem.Spec PyProof.Rows L2
def Lc2I (J1 : It) (g1 : TG) (tt1 : TT) (te : TE) (vs1 : List Nat) (σ2 : L2.St) (D : Addr) (Nx : Hp → Prop) (H4 : Hp) : Prop := ∃ W1 : Nat → Nat → Hp → Prop, (∃ m, W1 0 m H4) ∧ ∀ j k H, W1 j k H →
      (J1.stop j H ∧ Nx H) ∨ (J1.go j H ∧ ∃ Nx1 : Hp → Prop, (∀ H', Nx1 H' → ∃ k', k' < k ∧ W1 (j + 1) k' H') ∧ ∀ x H', J1.yld j H x H' → g1 x (wipe σ2 vs1) H' fun σ3 H5 => wipe σ3 vs1 = wipe σ2 vs1 ∧ tt1 σ3 H5 fun b H6 =>
        if b = true then te σ3 H6 fun y H7 => ∃ acc, H7 D = some (.lst acc) ∧ acc.length < sizeLine ∧ Nx1 (L2.upd H7 D (.lst (acc ++ [y]))) else Nx1 H6)
def Lc2O (J : It) (g : TG) (tt : TT) (wi1 : TI) (g1 : TG) (tt1 : TT) (te : TE) (vs vs1 : List Nat) (σ : L2.St) (D : Addr) (Q : VK) (H1 : Hp) : Prop := ∃ W : Nat → Nat → Hp → Prop, (∃ m, W 0 m (L2.upd H1 D (.lst []))) ∧ ∀ i m H, W i m H →
  (J.stop i H ∧ Q (.ref D) H) ∨ (J.go i H ∧ ∃ Nx : Hp → Prop, (∀ H', Nx H' → ∃ m', m' < m ∧ W (i + 1) m' H') ∧ ∀ x H', J.yld i H x H' → g x (wipe σ vs) H' fun σ2 H2 => wipe σ2 vs = wipe σ vs ∧ tt σ2 H2 fun b H3 =>
    if b = true then wi1 σ2 H3 fun J1 H4 => Lc2I J1 g1 tt1 te vs1 σ2 D Nx H4 else Nx H3)
theorem g_lc2 {wi wi1 : TI} {g g1 : TG} {tt tt1 : TT} {te : TE} {vs vs1 : List Nat} {σ : L2.St} {H : Hp} {Q : VK} (q : wi σ H fun J H1 => ∀ D, H1 D = none → Lc2O J g tt wi1 g1 tt1 te vs vs1 σ D Q H1) : tLc2 wi g tt wi1 g1 tt1 te vs vs1 σ H Q := q
section
variable {K : PySem.W.Frag} {G H : Hp} {A : Addr} {J J1 : It} {g g1 : TG} {tt tt1 : TT} {wi1 : TI} {te : TE} {vs vs1 : List Nat} {σ σ2 : L2.St} {n : Nat} {P : Nat → Hp → V → Prop} {L : List PyData} {f es : Nat → List PyData} {NX : Hp → Prop} {Q : VK}
theorem g_lc2I (S : SrcP [A] J1 G H n P) (e : Ex G H) (r : LstAt K A G H L) (hf : ∀ j, (f j).length ≤ j) (hl : L.length + n < 100000) (f0 : f 0 = [])
    (hs : ∀ j v G' H', j < n → P j G' v → Nx [A] G H G' H' → LstAt K A G' H' (L ++ f j) → ∀ (QE : VK) (QN : Hp → Prop),
      (∀ y G4 H4 d', Nx [] G' H' G4 H4 → Dp K G4 y d' → f (j + 1) = f j ++ [d'] → QE y H4) → (∀ G3 H3, Nx [] G' H' G3 H3 → f (j + 1) = f j → QN H3) →
      g1 v (wipe σ2 vs1) H' fun σ3 H5 => wipe σ3 vs1 = wipe σ2 vs1 ∧ tt1 σ3 H5 fun b H6 => if b = true then te σ3 H6 QE else QN H6)
    (hd : ∀ G' H', Nx [A] G H G' H' → LstAt K A G' H' (L ++ f n) → NX H') : Lc2I J1 g1 tt1 te vs1 σ2 A NX H := by
  refine ⟨fun j k H' => k = n - j ∧ j ≤ n ∧ ∃ G', Nx [A] G H G' H' ∧ LstAt K A G' H' (L ++ f j), ⟨n, by simp, Nat.zero_le _, G, Nx.refl e, by rw [f0, List.append_nil]; exact r⟩, ?_⟩
  rintro j k H' ⟨rfl, hj, G', n1, r1⟩
  by_cases hlt : j < n
  · refine .inr ⟨S.go j G' H' n1 hlt, fun H3 => ∃ G3, Nx [A] G H G3 H3 ∧ LstAt K A G3 H3 (L ++ f (j + 1)), fun H3 ⟨G3, n3, r3⟩ => ⟨n - (j + 1), by omega, rfl, hlt, G3, n3, r3⟩, fun v H1 y => ?_⟩
    obtain ⟨G1, n2, p1⟩ := S.yld j G' H' v H1 n1 hlt y
    have r2 := r1.go n2 (by simp)
    refine hs j v G1 H1 hlt p1 (n1.trans n2.pure) r2 (fun y H7 => ∃ acc : List V, H7 A = some (.lst acc) ∧ acc.length < sizeLine ∧ _) _ (fun y G4 H4 d' n4 dy ee => ?_) (fun G3 H3 n3 ee => ⟨G3, (n1.trans n2.pure).trans n3.pure, by rw [ee]; exact r2.go n3 (by simp)⟩)
    obtain ⟨acc, h4, g4, d4⟩ := r2.go n4 (by simp)
    have hlen := dpAll_len d4
    rw [List.length_append] at hlen
    have := hf j
    exact ⟨acc, h4, by rw [hlen]; exact szl (by omega), G4, ((n1.trans n2.pure).trans n4.pure).trans (Nx.set n4.gh g4 (by simp)), _, upd_same, g4, by rw [ee, ← List.append_assoc]; exact dpAll_snoc d4 dy⟩
  · have e' : j = n := by omega
    subst e'
    exact .inl ⟨S.stop _ G' H' n1 (Nat.le_refl _), hd G' H' n1 r1⟩
theorem g_lc2O (S : SrcP [] J G H n P) (e : Ex G H) (hA : H A = none) (e0 : es 0 = [])
    (hs : ∀ i v G' H', i < n → P i G' v → Nx [] G H G' H' → LstAt K A G' H' (es i) → ∀ NX : Hp → Prop, (∀ G3 H3, Nx [A] G' H' G3 H3 → LstAt K A G3 H3 (es (i + 1)) → NX H3) →
      g v (wipe σ vs) H' fun σ2 H2 => wipe σ2 vs = wipe σ vs ∧ tt σ2 H2 fun b H3 => if b = true then wi1 σ2 H3 fun J1 H4 => Lc2I J1 g1 tt1 te vs1 σ2 A NX H4 else NX H3)
    (hd : ∀ G' H', Nx [] G H G' H' → LstAt K A G' H' (es n) → Q (.ref A) H') : Lc2O J g tt wi1 g1 tt1 te vs vs1 σ A Q H := by
  refine ⟨fun j k H' => k = n - j ∧ j ≤ n ∧ ∃ G', Nx [] G H G' H' ∧ LstAt K A G' H' (es j), ⟨n, by simp, Nat.zero_le _, G, Nx.own e hA, [], upd_same, e.free hA, by rw [e0]; exact .nil⟩, ?_⟩
  rintro j k H' ⟨rfl, hj, G', n1, r1⟩
  by_cases hlt : j < n
  · refine .inr ⟨S.go j G' H' n1 hlt, fun H3 => ∃ G3, Nx [] G H G3 H3 ∧ LstAt K A G3 H3 (es (j + 1)), fun H3 ⟨G3, n3, r3⟩ => ⟨n - (j + 1), by omega, rfl, hlt, G3, n3, r3⟩, fun v H1 y => ?_⟩
    obtain ⟨G1, n2, p1⟩ := S.yld j G' H' v H1 n1 hlt y
    exact hs j v G1 H1 hlt p1 (n1.trans n2) (r1.go n2 (by simp)) _ fun G3 H3 n3 r3 => ⟨G3, ((n1.trans n2).pure.trans n3).drop hA, r3⟩
  · have e' : j = n := by omega
    subst e'
    exact .inl ⟨S.stop _ G' H' n1 (Nat.le_refl _), hd G' H' n1 r1⟩
/-- the pairs of a locked dict of cells -/
theorem src_dtI {M : List Addr} {d : Addr} {od : Obj} {kvs : List (List L2.Key × V)} {md : Dt} (h : H d = some (.frz od (.dT kvs))) (k : DtC K G kvs md) (hM : d ∉ M) : SrcP M (Itit d od kvs) G H md.length (fun i G v => ∃ t a b c x, v = .ref t ∧ SqT K G t [a, b] ∧ md[i]? = some (c, x) ∧ Cl G a c ∧ Dp K G b x) where
  go := fun i G' H' n hi => ⟨n.fr d _ hM h, by rw [k.len]; exact hi⟩
  stop := fun i G' H' n hi => ⟨n.fr d _ hM h, by rw [k.len]; exact hi⟩
  yld := fun i G' H' x H'' n hi y => by
    obtain ⟨T, kk, v, q, hk, rfl, hT, hq, rfl⟩ := y
    have h1 : (kvs.map (·.1))[i]? = some kk := by rw [List.getElem?_map, hk]; rfl
    rw [k.1] at h1
    unfold dtK at h1
    rw [List.map_map, List.getElem?_map] at h1
    obtain ⟨⟨c, dx⟩, he, h2⟩ := Option.map_eq_some_iff.mp h1
    subst h2
    obtain ⟨v', hv', dv⟩ := dpAll_get k.2 (i := i) (d := dx) (by unfold dtK; rw [List.map_map, List.getElem?_map, he]; rfl)
    have ev : v' = v := by
      rw [List.getElem?_map, hk] at hv'
      exact (Option.some.inj hv').symm
    subst ev
    obtain ⟨G1, n1, hb⟩ := know1 n.gh hq
    have n2 : Nx [] G1 H' (L2.upd G1 T (.tup [.ref q, v'])) (L2.upd H' T (.tup [.ref q, v'])) := (Nx.own n1.gh hT).know hT upd_same (n1.gh.free hT)
    exact ⟨_, n1.trans n2, T, .ref q, v', c, dx, rfl, .of upd_same, he, ⟨q, rfl, n2.gg _ _ hb⟩, dp_mono ((n.gg.trans n1.gg).trans n2.gg) dv⟩
end
end Y
namespace Y
open PySem PySem.Spec PyProof.Rows L2
section
variable {K : PySem.W.Frag} {α : Type} {R : Hp → V → α → Prop} {p b : Addr} {G H : Hp} {as es : List α} {Q : VK}
theorem pr_take {R : V → α → Prop} : ∀ (n : Nat) {vs : List V} {cs : List α}, PySem.Paired R vs cs → PySem.Paired R (vs.take n) (cs.take n)
  | 0, _, _, _ => .nil
  | _ + 1, _, _, .nil => .nil
  | n + 1, _, _, .cons a r => .cons a (pr_take n r)
theorem pr_drop {R : V → α → Prop} : ∀ (n : Nat) {vs : List V} {cs : List α}, PySem.Paired R vs cs → PySem.Paired R (vs.drop n) (cs.drop n)
  | 0, _, _, h => h
  | _ + 1, _, _, .nil => .nil
  | n + 1, _, _, .cons a r => pr_drop n r
theorem g_slR {lo hi : Option Int} (e : Ex G H) (r : LsR R b G H as) (hc : ∀ xs : List V, PySem.Paired (R G) xs as → PySem.Paired (R G) (cutV xs lo hi) es) (q : ∀ p H', Nx [] G H G H' → H p = none → LsR R p G H' es → Q (.ref p) H') : rSlL K (.ref b) lo hi H Q := by
  obtain ⟨xs, h, g, d⟩ := r
  exact ⟨b, xs, rfl, .of h, fun p hp => q p _ (Nx.own e hp) hp ⟨_, upd_same, e.free hp, hc xs d⟩⟩
theorem g_ixLsRm1 {a : α} (r : LsR R p G H (as ++ [a])) (q : ∀ v, R G v a → Q v H) : rIxL K (.ref p) (.int (-1)) H Q := by
  obtain ⟨xs, h, g, hq⟩ := r
  have hl := pr_len hq
  rw [List.length_append, List.length_singleton] at hl
  obtain ⟨v, hv, rv⟩ := pr_get hq (i := as.length) (c := a) (by simp)
  refine ⟨p, xs, _, v, rfl, rfl, .of h, ?_, q v rv⟩
  unfold atI ixN
  rw [if_neg (by decide), if_pos (by omega)]
  show xs[_]? = some v
  rw [← hv]
  congr 1
  omega
end
end Y

namespace Y
open PySem PySem.Spec PyProof.Rows L2
section
variable {K : PySem.W.Frag} {G H : Hp} {a b : Addr} {xs ys : List V} {Q : VK}
/-- t + u of two tuples of values as they are -/
theorem g_catRaw (e : Ex G H) (ha : SqT K G a xs) (hb : SqT K G b ys) (hx : xs ≠ []) (hy : ys ≠ []) (hz : xs.length + ys.length ≤ sizeLine) (q : ∀ p G' H', Nx [] G H G' H' → H p = none → SqT K G' p (xs ++ ys) → Q (.ref p) H') : rCatA K (.ref a) (.ref b) H Q :=
  ⟨a, b, xs, ys, rfl, rfl, e.seqT ha, e.seqT hb, hz, fun hn => absurd hn hx, fun _ hn => absurd hn hy, fun _ _ p hp => q p (L2.upd G p (.tup (xs ++ ys))) _ ((Nx.own e hp).know hp upd_same (e.free hp)) hp (.of upd_same)⟩
end
end Y
namespace Y
open PySem PySem.Spec PyProof.Rows L2
theorem pr_rev {α : Type} {R : V → α → Prop} : ∀ {vs : List V} {cs : List α}, PySem.Paired R vs cs → PySem.Paired R vs.reverse cs.reverse
  | _, _, .nil => .nil
  | _, _, .cons a r => by
    rw [List.reverse_cons, List.reverse_cons]
    exact pr_snoc (pr_rev r) a
end Y
namespace Y
open PySem PySem.Spec PyProof.Rows L2
theorem g_lrevR {K : PySem.W.Frag} {α : Type} {R : Hp → V → α → Prop} {p : Addr} {G H : Hp} {as : List α} {Q : VK} (e : Ex G H) (h : LsR R p G H as) (q : ∀ p H', Nx [] G H G H' → H p = none → LsR R p G H' as.reverse → Q (.ref p) H') : rListRev K (.ref p) H Q := by
  obtain ⟨vs, hv, g, hp⟩ := h
  exact ⟨p, vs, rfl, .inl (.of hv), fun r hr => q r _ (Nx.own e hr) hr ⟨_, upd_same, e.free hr, pr_rev hp⟩⟩
end Y
namespace Y
open PySem PySem.Spec PyProof.Rows L2
/-- t[lo:hi] of a tuple of values as they are -/
theorem g_slAR {K : PySem.W.Frag} {G H : Hp} {a : Addr} {xs ys : List V} {lo hi : Option Int} {Q : VK} (e : Ex G H) (h : SqT K G a xs) (hc : cutV xs lo hi = ys) (q : ∀ p G' H', Nx [] G H G' H' → SqT K G' p ys → Q (.ref p) H') : rSlA K (.ref a) lo hi H Q := by
  refine ⟨a, xs, rfl, e.seqT h, fun hw => ?_, fun _ p hp => ?_⟩
  · rw [cut_all hw] at hc
    subst hc
    exact q a G H (Nx.refl e) h
  · rw [hc]
    exact q p (L2.upd G p (.tup ys)) _ ((Nx.own e hp).know hp upd_same (e.free hp)) (.of upd_same)
end Y

/-! ### d.pop(k), the keys tuples (as the library's rule for d.pop(k, x)) -/
namespace Y
open PySem PySem.Spec PyProof.Rows L2 DT
theorem meetsPopT1 {prog : Program} {w : World} {K : Type} [DecidableEq K] {knd : PySem.HeapKind prog w K} {d b : Addr} {k : K} (hd : (d == sysModules) = false) :
    MeetsIn prog w (Builtin.«dict.pop» ⟨[.ref d, .ref b], []⟩) (fun A R s => ∃ xs, knd.room A.in1 ∧ knd.is s.heap k b ∧ s.heap.DictOfH knd d xs ∧ xs.length ≤ sizeLine ∧
      (atKey xs k).isSome = true ∧
      ∀ p, atKey xs k = some p → ∀ h' tk, h'.DictOfH knd d (dropH xs k) → Heap.SameBut d s.heap h' → R (.ok (.ret p.2)) { s with heap := h', toks := tk }) :=
  .of_wp fun A R s ⟨xs, hu, hkey, hm, hsz, hthere, hsome⟩ => by
    obtain ⟨o, es, ep, ho, hc, hdat, he, his, hn⟩ := id hm
    have hes : es.size = xs.length := size_of_entries he
    have hpart : (keyPart (Value.ref b)).isSome = false := rfl
    unfold Builtin.«dict.pop»
    refine wpAny_bind ?_
    unfold Builtin.Dict.keyAndDefault
    refine wpAny_bind (wpAny_notOrdered_dict hm.typeIs ?_)
    show wpAny _ _ (pure (d, Value.ref b, none)) _ _ s
    refine wpAny_pure ?_
    simp only [hpart, Bool.false_eq_true, if_false]
    refine wpAny_bind (wpAny_dictEntries ho hdat (wpAny_bind (wpAny_pure ?_)))
    cases hem : es.isEmpty with
    | true =>
      have h0 : xs = [] := by
        have z : es.size = 0 := by simpa using hem
        exact List.length_eq_zero_iff.mp (by omega)
      rw [h0] at hthere
      cases hthere
    | false =>
      simp only [Bool.false_eq_true, if_false]
      refine wpAny_bind (takeH hu hkey hm hsz (fun hno => ?_) fun p e hp hev h' hm' hs' => ?_)
      · rw [hno] at hthere
        cases hthere
      · simp only [Option.isNone_some, Bool.false_eq_true, if_false]
        exact wpAny_bind (wpAny_letGo (wpAny_pure ⟨e.val, rfl, by rw [hev]; exact hsome p hp h' _ hm' hs'⟩))
def rPopT1 : V → List V → Hp → VK → Prop := fun x xs H Q => ∃ (a : Addr) (kvs : List (List L2.Key × V)) (k : List L2.Key) (b : Addr) (v : V), x = .ref a ∧ xs = [.ref b] ∧ H a = some (.dT kvs) ∧ H b = some (.tup (k.map kV)) ∧ valV kvs k = some v ∧ Q v (L2.upd H a (.dT (dropK kvs k)))
theorem mt_popT1 {X : Cx} (hu : X.A.units + 1 < cLine) : MtR X "dict.pop" rPopT1 := by
  intro pins s σ H x xs v us Q I rx rxs h
  obtain ⟨a, kvs, k, b, v0, rfl, rfl, ha, hb, ev, q1⟩ := h
  cases rx
  obtain rfl := Vals.ref1 rxs
  obtain ⟨z, hd, xs', rel, dd⟩ := dt_of I.hok ha
  have hz : xs'.length ≤ sizeLine := by rw [← Paired.length rel]; exact z
  have r := rel.val k
  rw [ev] at r
  obtain ⟨p, hp, rv⟩ : ∃ p, atKey xs' k = some p ∧ RelV v0 p.2 := by
    cases e2 : atKey xs' k with
    | none =>
      rw [e2] at r
      exact (show False from r).elim
    | some p =>
      rw [e2] at r
      exact ⟨p, rfl, r⟩
  refine call_meetsIn PySem.F.slot_dict_pop dd.typeIs PySem.F.entry_dict_pop (PySem.F.args_dict_pop_2 _ _) (meetsPopT1 (knd := tupleKind (mixKind X.prog X.w)) (k := k) hd)
    ⟨xs', tupleKind_room_in1 hu, key_of I.hok hb, dd, hz, by rw [hp]; rfl, fun p2 hp2 h' tk dd' hs => ?_⟩
  · rw [hp] at hp2
    cases hp2
    obtain ⟨o, es, ep, hq, h2, h3, h4, _, h5⟩ := dd'
    have I2 : Inv X pins σ (L2.upd H a (.dT (dropK kvs k))) { s with heap := h', toks := tk } :=
      d_write I (by rw [ha]; exact True.intro) hs ⟨o, hq⟩ ⟨Nat.le_trans (dropK_le kvs k) z, hd, _, (L2.DX.KT_drop k rel).keeps (fun c ys ec => (by rw [upd_ne (ne_of ec ha (fun z => nomatch z))]; exact ec)), o, es, ep, hq, h2, h3, h4, h5⟩
    show EP X pins σ Q p.2 _
    exact ⟨v0, _, I2, rv, q1⟩
section
variable {K : PySem.W.Frag} {G H : Hp} {d : Addr} {md : Dt} {c : Cell} {x : PyData} {y : V} {Q : VK}
theorem g_popT1 (e : Ex G H) (r : DtAt K d G H md) (h : Cl G y c) (hg : gtM md c = some x) (q : ∀ v H', Nx [d] G H G H' → Dp K G v x → DtAt K d G H' (md.filter fun p => decide (p.1 ≠ c)) → Q v H') : rPopT1 (.ref d) [y] H Q := by
  obtain ⟨b, rfl, hb⟩ := h
  obtain ⟨kvs, hd, g, k⟩ := r
  obtain ⟨v, hv, dv⟩ := k.get hg
  obtain ⟨p1, p2⟩ := drop_rel (ckey c) k.1 k.2
  refine ⟨d, kvs, ckey c, b, v, rfl, rfl, hd, e _ _ hb, hv, q v _ (Nx.set e g (by simp)) dv ⟨_, upd_same, g, ?_⟩⟩
  have e1 : (dtK md).filter (fun p => decide (p.1 ≠ ckey c)) = dtK (md.filter fun p => decide (p.1 ≠ c)) := by
    unfold dtK
    rw [List.filter_map]
    congr 1
    refine List.filter_congr fun p _ => ?_
    exact decide_eq_decide.mpr ⟨fun z1 z2 => z1 (congrArg ckey z2), fun z1 z2 => z1 (ckey_inj z2)⟩
  rw [e1] at p1 p2
  exact ⟨p1, p2⟩
end
end Y

local macro_rules | `(tactic| walk_at "dp") => `(tactic| (first | assumption | exact L2.Dp.non | exact L2.Dp.bl _ | exact L2.Dp.int _ | exact L2.Dp.str _ | (refine Y.dp_mono (Y.Nx.gg (by assumption)) ?_; walk_at "dp")))
local macro_rules | `(tactic| walk_at "isi") => `(tactic| first
  | refine Y.g_isi (b := true) (by assumption) (by walk_at "dp") (by rfl) ?_
  | refine Y.g_isi (b := false) (by assumption) (by walk_at "dp") (by rfl) ?_)
local macro_rules | `(tactic| walk_at "s1") => `(tactic| (with_reducible first
  | exact Y.g_test ?_ | fail))
local macro_rules | `(tactic| walk_at "sx") => `(tactic| repeat' (first
  | ((with_reducible apply Y.g_var); focus (exact rfl))
  | (with_reducible first
      | refine Y.g_seq ?_ | refine Y.g_asg ?_ | refine Y.g_name ?_ | refine Y.g_ret ?_ | refine Y.g_drop ?_ | refine Y.g_next ?_ | refine Y.g_ifS ?_ | refine Y.g_ifE ?_
      | refine Y.g_c ?_ | refine Y.g_nil ?_ | refine Y.g_cons ?_ | refine Y.g_op ?_ | refine Y.g_un ?_ | refine Y.g_cb ?_ | refine Y.g_call ?_ | refine Y.g_call1 ?_ | refine Y.g_callS ?_
      | refine Y.g_test ?_ | refine Y.g_tB ?_ | refine Y.g_isbl ?_ | refine Y.g_and ?_ | refine Y.g_or ?_ | refine Y.g_not ?_ | refine Y.g_andV ?_ | refine Y.g_orV ?_ | refine Y.g_notV ?_
      | refine Y.g_chain ?_ | refine Y.g_isN ?_ | refine Y.g_notN ?_ | refine Y.g_I0 ?_ | refine Y.g_U ?_ | refine Y.g_eqII ?_ | refine Y.g_eqSS ?_ | refine Y.g_neII ?_ | refine Y.g_neSS ?_
      | refine Y.g_iT ?_ | refine Y.g_iF ?_ | refine Y.g_inT ?_ | refine Y.g_inF ?_ | refine Y.g_retN ?_
      | refine Y.g_tup ?_ | refine Y.g_lst ?_ | refine Y.g_bm ?_ | refine Y.g_bm0 ?_ | refine Y.g_yes ?_ | refine Y.g_sub ?_ | refine Y.g_sl ?_ | refine Y.g_noPart ?_ | refine Y.g_part ?_ | refine Y.g_isint ?_ | refine Y.g_for ?_ | refine Y.g_lc ?_ | refine Y.g_iTup ?_ | refine Y.g_iList ?_ | refine Y.g_iStr ?_ | refine Y.g_iRng1 ?_ | refine Y.g_iRng2 ?_ | refine Y.g_iEnum ?_ | refine Y.g_iEnT ?_
      | refine Y.g_meth ?_ | refine Y.g_methS ?_ | refine Y.g_fld ?_ | refine Y.g_sfd ?_ | refine Y.g_din ?_ | refine Y.g_dni ?_ | refine Y.g_dge ?_ | refine Y.g_dpu ?_ | refine Y.g_dde ?_ | refine Y.g_lvs ?_
      | refine Y.g_del ?_ | refine Y.g_abs ?_ | refine Y.g_int1 ?_ | refine Y.g_m1 ?_ | refine Y.g_dc ?_ | refine Y.g_disp ?_ | refine Y.g_pair ?_ | refine Y.g_pair0 ?_ | refine Y.g_tru ?_ | refine Y.g_cont ?_ | refine Y.g_brk ?_ | refine Y.g_isS ?_ | refine Y.g_fs ?_ | refine Y.g_js ?_ | refine Y.g_js0 ?_ | refine Y.g_fmt ?_ | refine Y.g_star ?_ | refine Y.g_inSign ?_ | refine Y.g_isB ?_ | refine Y.g_notB ?_ | refine Y.g_lrev ?_ | refine Y.g_augS ?_ | refine Y.g_ipI ?_ | refine Y.g_dg1 ?_ | refine Y.g_dg2 ?_ | refine Y.g_iZip ?_)))
local macro_rules | `(tactic| walk_at "len") => `(tactic| first | refine Y.g_lenT (by assumption) (by walk_at "dp") ?_ | refine Y.g_lenL (by assumption) (by walk_at "dp") ?_)
local macro_rules | `(tactic| walk_at "ix0") => `(tactic| first | refine Y.g_ixT (k := 0) (by assumption) (by walk_at "dp") (by rfl) (by rfl) ?_ | refine Y.g_ixL (k := 0) (by assumption) (by walk_at "dp") (by rfl) (by rfl) ?_)
local macro_rules | `(tactic| walk_at "ix1") => `(tactic| first | refine Y.g_ixT (k := 1) (by assumption) (by walk_at "dp") (by rfl) (by rfl) ?_ | refine Y.g_ixL (k := 1) (by assumption) (by walk_at "dp") (by rfl) (by rfl) ?_)
local macro_rules | `(tactic| walk_at "ix2") => `(tactic| first | refine Y.g_ixT (k := 2) (by assumption) (by walk_at "dp") (by rfl) (by rfl) ?_ | refine Y.g_ixL (k := 2) (by assumption) (by walk_at "dp") (by rfl) (by rfl) ?_)
local macro_rules | `(tactic| walk_at "da") => `(tactic| (repeat (first | exact L2.DpAll.nil | refine L2.DpAll.cons (by walk_at "dp") ?_)))

namespace A
open PySem PySem.Spec PyProof.Rows L2 Y
section
variable {P : Program} {w : World} {K : PySem.W.Frag} {mg : Str → Option Value} {base : Heap}
theorem ex_Misused (T : Tx fa fn bx K mg) : ExC K (He.ga K "Misused") "why" := exB_ok (Y.all_at T.more 0 rfl)
theorem F__tally (T : Tx fa fn bx K mg) : FunD K "_tally" "_tally" (defArgs s__tally) (defBody s__tally) (defScope s__tally) [] [] (He.ga K "_tally") (fdOf K (He.ga K "_tally")) := T.fn 0 rfl
theorem cal__tally (T : Tx fa fn bx K mg) : Cal K mg "_tally" ["ground", "cell"] := ⟨T.glo 16, (F__tally T).kp, (F__tally T).bindsN fun _ _ _ _ _ _ us hl => match us, hl with | [_, _], _ => rfl⟩
theorem F__least_untold (T : Tx fa fn bx K mg) : FunD K "_least_untold" "_least_untold" (defArgs s__least_untold) (defBody s__least_untold) (defScope s__least_untold) [] [] (He.ga K "_least_untold") (fdOf K (He.ga K "_least_untold")) := T.fn 1 rfl
theorem cal__least_untold (T : Tx fa fn bx K mg) : Cal K mg "_least_untold" ["tally"] := ⟨T.glo 17, (F__least_untold T).kp, (F__least_untold T).bindsN fun _ _ _ _ _ _ us hl => match us, hl with | [_], _ => rfl⟩
theorem F__law_candidates (T : Tx fa fn bx K mg) : FunD K "_law_candidates" "_law_candidates" (defArgs s__law_candidates) (defBody s__law_candidates) (defScope s__law_candidates) [] [] (He.ga K "_law_candidates") (fdOf K (He.ga K "_law_candidates")) := T.fn 2 rfl
theorem cal__law_candidates (T : Tx fa fn bx K mg) : Cal K mg "_law_candidates" ["ground", "cell"] := ⟨T.glo 18, (F__law_candidates T).kp, (F__law_candidates T).bindsN fun _ _ _ _ _ _ us hl => match us, hl with | [_, _], _ => rfl⟩
theorem F__law_cost (T : Tx fa fn bx K mg) : FunD K "_law_cost" "_law_cost" (defArgs s__law_cost) (defBody s__law_cost) (defScope s__law_cost) [] [] (He.ga K "_law_cost") (fdOf K (He.ga K "_law_cost")) := T.fn 3 rfl
theorem cal__law_cost (T : Tx fa fn bx K mg) : Cal K mg "_law_cost" ["ground", "cell", "value"] := ⟨T.glo 19, (F__law_cost T).kp, (F__law_cost T).bindsN fun _ _ _ _ _ _ us hl => match us, hl with | [_, _, _], _ => rfl⟩
theorem F__law_wide (T : Tx fa fn bx K mg) : FunD K "_law_wide" "_law_wide" (defArgs s__law_wide) (defBody s__law_wide) (defScope s__law_wide) [] [] (He.ga K "_law_wide") (fdOf K (He.ga K "_law_wide")) := T.fn 4 rfl
theorem cal__law_wide (T : Tx fa fn bx K mg) : Cal K mg "_law_wide" ["script", "k"] := ⟨T.glo 20, (F__law_wide T).kp, (F__law_wide T).bindsN fun _ _ _ _ _ _ us hl => match us, hl with | [_, _], _ => rfl⟩
theorem F__law_take (T : Tx fa fn bx K mg) : FunD K "_law_take" "_law_take" (defArgs s__law_take) (defBody s__law_take) (defScope s__law_take) [] [] (He.ga K "_law_take") (fdOf K (He.ga K "_law_take")) := T.fn 5 rfl
theorem cal__law_take (T : Tx fa fn bx K mg) : Cal K mg "_law_take" ["pool", "most"] := ⟨T.glo 21, (F__law_take T).kp, (F__law_take T).bindsN fun _ _ _ _ _ _ us hl => match us, hl with | [_, _], _ => rfl⟩
theorem F_least_cost (T : Tx fa fn bx K mg) : FunD K "least_cost" "least_cost" (defArgs s_least_cost) (defBody s_least_cost) (defScope s_least_cost) [] [] (He.ga K "least_cost") (fdOf K (He.ga K "least_cost")) := T.fn 6 rfl
theorem cal_least_cost (T : Tx fa fn bx K mg) : Cal K mg "least_cost" ["ground"] := ⟨T.glo 22, (F_least_cost T).kp, (F_least_cost T).bindsN fun _ _ _ _ _ _ us hl => match us, hl with | [_], _ => rfl⟩
theorem F__law_ground (T : Tx fa fn bx K mg) : FunD K "_law_ground" "_law_ground" (defArgs s__law_ground) (defBody s__law_ground) (defScope s__law_ground) [] [] (He.ga K "_law_ground") (fdOf K (He.ga K "_law_ground")) := T.fn 7 rfl
theorem cal__law_ground (T : Tx fa fn bx K mg) : Cal K mg "_law_ground" ["pool", "cells", "most"] := ⟨T.glo 23, (F__law_ground T).kp, (F__law_ground T).bindsN fun _ _ _ _ _ _ us hl => match us, hl with | [_, _, _], _ => rfl⟩
theorem F__law_all (T : Tx fa fn bx K mg) : FunD K "_law_all" "_law_all" (defArgs s__law_all) (defBody s__law_all) (defScope s__law_all) [] [] (He.ga K "_law_all") (fdOf K (He.ga K "_law_all")) := T.fn 8 rfl
theorem cal__law_all (T : Tx fa fn bx K mg) : Cal K mg "_law_all" ["ground", "faults"] := ⟨T.glo 24, (F__law_all T).kp, (F__law_all T).bindsN fun _ _ _ _ _ _ us hl => match us, hl with | [_, _], _ => rfl⟩
theorem F__law_drawn (T : Tx fa fn bx K mg) : FunD K "_law_drawn" "_law_drawn" (defArgs s__law_drawn) (defBody s__law_drawn) (defScope s__law_drawn) [] [] (He.ga K "_law_drawn") (fdOf K (He.ga K "_law_drawn")) := T.fn 9 rfl
theorem cal__law_drawn (T : Tx fa fn bx K mg) : Cal K mg "_law_drawn" ["pool", "ground"] := ⟨T.glo 25, (F__law_drawn T).kp, (F__law_drawn T).bindsN fun _ _ _ _ _ _ us hl => match us, hl with | [_, _], _ => rfl⟩
theorem F__law_explains (T : Tx fa fn bx K mg) : FunD K "_law_explains" "_law_explains" (defArgs s__law_explains) (defBody s__law_explains) (defScope s__law_explains) [] [] (He.ga K "_law_explains") (fdOf K (He.ga K "_law_explains")) := T.fn 10 rfl
theorem cal__law_explains (T : Tx fa fn bx K mg) : Cal K mg "_law_explains" ["ground", "faults", "values"] := ⟨T.glo 26, (F__law_explains T).kp, (F__law_explains T).bindsN fun _ _ _ _ _ _ us hl => match us, hl with | [_, _, _], _ => rfl⟩
theorem F__law_pool (T : Tx fa fn bx K mg) : FunD K "_law_pool" "_law_pool" (defArgs s__law_pool) (defBody s__law_pool) (defScope s__law_pool) [] [] (He.ga K "_law_pool") (fdOf K (He.ga K "_law_pool")) := T.fn 11 rfl
theorem cal__law_pool (T : Tx fa fn bx K mg) : Cal K mg "_law_pool" ["script"] := ⟨T.glo 27, (F__law_pool T).kp, (F__law_pool T).bindsN fun _ _ _ _ _ _ us hl => match us, hl with | [_], _ => rfl⟩
theorem F__law_turned (T : Tx fa fn bx K mg) : FunD K "_law_turned" "_law_turned" (defArgs s__law_turned) (defBody s__law_turned) (defScope s__law_turned) [] [] (He.ga K "_law_turned") (fdOf K (He.ga K "_law_turned")) := T.fn 12 rfl
theorem cal__law_turned (T : Tx fa fn bx K mg) : Cal K mg "_law_turned" ["row"] := ⟨T.glo 28, (F__law_turned T).kp, (F__law_turned T).bindsN fun _ _ _ _ _ _ us hl => match us, hl with | [_], _ => rfl⟩
theorem F__most_told (T : Tx fa fn bx K mg) : FunD K "_most_told" "_most_told" (defArgs s__most_told) (defBody s__most_told) (defScope s__most_told) [] [] (He.ga K "_most_told") (fdOf K (He.ga K "_most_told")) := T.fn 13 rfl
theorem cal__most_told (T : Tx fa fn bx K mg) : Cal K mg "_most_told" ["tally"] := ⟨T.glo 29, (F__most_told T).kp, (F__most_told T).bindsN fun _ _ _ _ _ _ us hl => match us, hl with | [_], _ => rfl⟩
theorem F_best (T : Tx fa fn bx K mg) : FunD K "best" "best" (defArgs s_best) (defBody s_best) (defScope s_best) [] [] (He.ga K "best") (fdOf K (He.ga K "best")) := T.fn 14 rfl
theorem cal_best (T : Tx fa fn bx K mg) : Cal K mg "best" ["ground", "cell"] := ⟨T.glo 30, (F_best T).kp, (F_best T).bindsN fun _ _ _ _ _ _ us hl => match us, hl with | [_, _], _ => rfl⟩
theorem F_cost (T : Tx fa fn bx K mg) : FunD K "cost" "cost" (defArgs s_cost) (defBody s_cost) (defScope s_cost) [] [] (He.ga K "cost") (fdOf K (He.ga K "cost")) := T.fn 15 rfl
theorem cal_cost (T : Tx fa fn bx K mg) : Cal K mg "cost" ["ground", "cell", "value"] := ⟨T.glo 31, (F_cost T).kp, (F_cost T).bindsN fun _ _ _ _ _ _ us hl => match us, hl with | [_, _, _], _ => rfl⟩
theorem F_other (T : Tx fa fn bx K mg) : FunD K "other" "other" (defArgs s_other) (defBody s_other) (defScope s_other) [] [] (He.ga K "other") (fdOf K (He.ga K "other")) := T.fn 16 rfl
theorem cal_other (T : Tx fa fn bx K mg) : Cal K mg "other" ["ground", "cell"] := ⟨T.glo 32, (F_other T).kp, (F_other T).bindsN fun _ _ _ _ _ _ us hl => match us, hl with | [_, _], _ => rfl⟩
theorem F__added_cost (T : Tx fa fn bx K mg) : FunD K "_added_cost" "_added_cost" (defArgs s__added_cost) (defBody s__added_cost) (defScope s__added_cost) [] [] (He.ga K "_added_cost") (fdOf K (He.ga K "_added_cost")) := T.fn 17 rfl
theorem cal__added_cost (T : Tx fa fn bx K mg) : Cal K mg "_added_cost" ["ground", "cell"] := ⟨T.glo 33, (F__added_cost T).kp, (F__added_cost T).bindsN fun _ _ _ _ _ _ us hl => match us, hl with | [_, _], _ => rfl⟩
theorem F_is_sure (T : Tx fa fn bx K mg) : FunD K "is_sure" "is_sure" (defArgs s_is_sure) (defBody s_is_sure) (defScope s_is_sure) [] [] (He.ga K "is_sure") (fdOf K (He.ga K "is_sure")) := T.fn 18 rfl
theorem cal_is_sure (T : Tx fa fn bx K mg) : Cal K mg "is_sure" ["ground", "faults", "cell"] := ⟨T.glo 34, (F_is_sure T).kp, (F_is_sure T).bindsN fun _ _ _ _ _ _ us hl => match us, hl with | [_, _, _], _ => rfl⟩
theorem F_Misused___init__ (T : Tx fa fn bx K mg) : FunD K "__init__" "Misused.__init__" (defArgs s_Misused___init__) (defBody s_Misused___init__) (defScope s_Misused___init__) [] [] (He.ma K (He.ga K "Misused") "__init__") (fdOf K (He.ma K (He.ga K "Misused") "__init__")) := T.fn 19 rfl
theorem cal_Misused___init__ (T : Tx fa fn bx K mg) : CalM K (He.ma K (He.ga K "Misused") "__init__") ["self", "why"] := ⟨(F_Misused___init__ T).kp, (F_Misused___init__ T).bindsN fun _ _ _ _ _ _ us hl => match us, hl with | [_, _], _ => rfl⟩
theorem F_plain_ground (T : Tx fa fn bx K mg) : FunD K "plain_ground" "plain_ground" (defArgs s_plain_ground) (defBody s_plain_ground) (defScope s_plain_ground) [] [] (He.ga K "plain_ground") (fdOf K (He.ga K "plain_ground")) := T.fn 20 rfl
theorem cal_plain_ground (T : Tx fa fn bx K mg) : Cal K mg "plain_ground" ["ground"] := ⟨T.glo 35, (F_plain_ground T).kp, (F_plain_ground T).bindsN fun _ _ _ _ _ _ us hl => match us, hl with | [_], _ => rfl⟩
theorem F_two_grounds (T : Tx fa fn bx K mg) : FunD K "two_grounds" "two_grounds" (defArgs s_two_grounds) (defBody s_two_grounds) (defScope s_two_grounds) [] [] (He.ga K "two_grounds") (fdOf K (He.ga K "two_grounds")) := T.fn 21 rfl
theorem cal_two_grounds (T : Tx fa fn bx K mg) : Cal K mg "two_grounds" ["ground", "faults", "cell"] := ⟨T.glo 36, (F_two_grounds T).kp, (F_two_grounds T).bindsN fun _ _ _ _ _ _ us hl => match us, hl with | [_, _, _], _ => rfl⟩
theorem F_cell_paper (T : Tx fa fn bx K mg) : FunD K "cell_paper" "cell_paper" (defArgs s_cell_paper) (defBody s_cell_paper) (defScope s_cell_paper) [] [] (He.ga K "cell_paper") (fdOf K (He.ga K "cell_paper")) := T.fn 22 rfl
theorem cal_cell_paper (T : Tx fa fn bx K mg) : Cal K mg "cell_paper" ["ground", "faults", "cell"] := ⟨T.glo 37, (F_cell_paper T).kp, (F_cell_paper T).bindsN fun _ _ _ _ _ _ us hl => match us, hl with | [_, _, _], _ => rfl⟩
theorem F_false_readings (T : Tx fa fn bx K mg) : FunD K "false_readings" "false_readings" (defArgs s_false_readings) (defBody s_false_readings) (defScope s_false_readings) [] [] (He.ga K "false_readings") (fdOf K (He.ga K "false_readings")) := T.fn 23 rfl
theorem cal_false_readings (T : Tx fa fn bx K mg) : Cal K mg "false_readings" ["ground", "values"] := ⟨T.glo 38, (F_false_readings T).kp, (F_false_readings T).bindsN fun _ _ _ _ _ _ us hl => match us, hl with | [_, _], _ => rfl⟩
theorem F_is_tuple_of (T : Tx fa fn bx K mg) : FunD K "is_tuple_of" "is_tuple_of" (defArgs s_is_tuple_of) (defBody s_is_tuple_of) (defScope s_is_tuple_of) [] [] (He.ga K "is_tuple_of") (fdOf K (He.ga K "is_tuple_of")) := T.fn 24 rfl
theorem cal_is_tuple_of (T : Tx fa fn bx K mg) : Cal K mg "is_tuple_of" ["value", "length"] := ⟨T.glo 39, (F_is_tuple_of T).kp, (F_is_tuple_of T).bindsN fun _ _ _ _ _ _ us hl => match us, hl with | [_, _], _ => rfl⟩
theorem F_is_whole (T : Tx fa fn bx K mg) : FunD K "is_whole" "is_whole" (defArgs s_is_whole) (defBody s_is_whole) (defScope s_is_whole) [] [] (He.ga K "is_whole") (fdOf K (He.ga K "is_whole")) := T.fn 25 rfl
theorem cal_is_whole (T : Tx fa fn bx K mg) : Cal K mg "is_whole" ["value"] := ⟨T.glo 40, (F_is_whole T).kp, (F_is_whole T).bindsN fun _ _ _ _ _ _ us hl => match us, hl with | [_], _ => rfl⟩
theorem F_is_cell (T : Tx fa fn bx K mg) : FunD K "is_cell" "is_cell" (defArgs s_is_cell) (defBody s_is_cell) (defScope s_is_cell) [] [] (He.ga K "is_cell") (fdOf K (He.ga K "is_cell")) := T.fn 26 rfl
theorem cal_is_cell (T : Tx fa fn bx K mg) : Cal K mg "is_cell" ["value"] := ⟨T.glo 41, (F_is_cell T).kp, (F_is_cell T).bindsN fun _ _ _ _ _ _ us hl => match us, hl with | [_], _ => rfl⟩
theorem F_has_cells (T : Tx fa fn bx K mg) : FunD K "has_cells" "has_cells" (defArgs s_has_cells) (defBody s_has_cells) (defScope s_has_cells) [] [] (He.ga K "has_cells") (fdOf K (He.ga K "has_cells")) := T.fn 27 rfl
theorem cal_has_cells (T : Tx fa fn bx K mg) : Cal K mg "has_cells" ["value", "cells"] := ⟨T.glo 42, (F_has_cells T).kp, (F_has_cells T).bindsN fun _ _ _ _ _ _ us hl => match us, hl with | [_, _], _ => rfl⟩
theorem F__is_explanation (T : Tx fa fn bx K mg) : FunD K "_is_explanation" "_is_explanation" (defArgs s__is_explanation) (defBody s__is_explanation) (defScope s__is_explanation) [] [] (He.ga K "_is_explanation") (fdOf K (He.ga K "_is_explanation")) := T.fn 28 rfl
theorem cal__is_explanation (T : Tx fa fn bx K mg) : Cal K mg "_is_explanation" ["ground", "faults", "integers"] := ⟨T.glo 43, (F__is_explanation T).kp, (F__is_explanation T).bindsN fun _ _ _ _ _ _ us hl => match us, hl with | [_, _, _], _ => rfl⟩
theorem F__is_open (T : Tx fa fn bx K mg) : FunD K "_is_open" "_is_open" (defArgs s__is_open) (defBody s__is_open) (defScope s__is_open) [] [] (He.ga K "_is_open") (fdOf K (He.ga K "_is_open")) := T.fn 29 rfl
theorem cal__is_open (T : Tx fa fn bx K mg) : Cal K mg "_is_open" ["ground", "faults", "cell", "pair"] := ⟨T.glo 44, (F__is_open T).kp, (F__is_open T).bindsN fun _ _ _ _ _ _ us hl => match us, hl with | [_, _, _, _], _ => rfl⟩
theorem F__is_paper (T : Tx fa fn bx K mg) : FunD K "_is_paper" "_is_paper" (defArgs s__is_paper) (defBody s__is_paper) (defScope s__is_paper) [] [] (He.ga K "_is_paper") (fdOf K (He.ga K "_is_paper")) := T.fn 30 rfl
theorem cal__is_paper (T : Tx fa fn bx K mg) : Cal K mg "_is_paper" ["value", "kind", "length"] := ⟨T.glo 45, (F__is_paper T).kp, (F__is_paper T).bindsN fun _ _ _ _ _ _ us hl => match us, hl with | [_, _, _], _ => rfl⟩
theorem F__is_surely (T : Tx fa fn bx K mg) : FunD K "_is_surely" "_is_surely" (defArgs s__is_surely) (defBody s__is_surely) (defScope s__is_surely) [] [] (He.ga K "_is_surely") (fdOf K (He.ga K "_is_surely")) := T.fn 31 rfl
theorem cal__is_surely (T : Tx fa fn bx K mg) : Cal K mg "_is_surely" ["ground", "faults", "cell", "value"] := ⟨T.glo 46, (F__is_surely T).kp, (F__is_surely T).bindsN fun _ _ _ _ _ _ us hl => match us, hl with | [_, _, _, _], _ => rfl⟩
theorem F_judges_cell (T : Tx fa fn bx K mg) : FunD K "judges_cell" "judges_cell" (defArgs s_judges_cell) (defBody s_judges_cell) (defScope s_judges_cell) [] [] (He.ga K "judges_cell") (fdOf K (He.ga K "judges_cell")) := T.fn 32 rfl
theorem cal_judges_cell (T : Tx fa fn bx K mg) : Cal K mg "judges_cell" ["ground", "faults", "value"] := ⟨T.glo 47, (F_judges_cell T).kp, (F_judges_cell T).bindsN fun _ _ _ _ _ _ us hl => match us, hl with | [_, _, _], _ => rfl⟩
theorem F_law (T : Tx fa fn bx K mg) : FunD K "law" "law" (defArgs s_law) (defBody s_law) (defScope s_law) [] [] (He.ga K "law") (fdOf K (He.ga K "law")) := T.fn 33 rfl
theorem cal_law (T : Tx fa fn bx K mg) : Cal K mg "law" ["script"] := ⟨T.glo 48, (F_law T).kp, (F_law T).bindsN fun _ _ _ _ _ _ us hl => match us, hl with | [_], _ => rfl⟩
def lamC (K : PySem.W.Frag) : Addr := He.codeOf K ("_most_told", none)
def lamP (K : PySem.W.Frag) : Addr := He.tabOf K (lamC K)
abbrev lamQ : Str := (("_most_told" : Str) ++ (".<locals>." : Str)) ++ ("<lambda>" : Str)
abbrev TbAt (K : PySem.W.Frag) (G H : Hp) : Prop := Y.TabAt (lamP K) lamQ G H
/-! ### grounds, costs, tallies -/
abbrev Rws := List (Str × Int)
abbrev Grd := List (Cell × Rws)
def rwD (r : Str × Int) : PyData := .tuple [.str r.1, .int r.2]
def rwsD (rs : Rws) : PyData := .tuple (rs.map rwD)
def grD (g : Grd) : Dt := g.map fun e => (e.1, rwsD e.2)
theorem grD_gt {c : Cell} : ∀ {g : Grd}, gtM (grD g) c = (gtM g c).map rwsD
  | [] => rfl
  | (k, rs) :: g => by
    have ih := grD_gt (c := c) (g := g)
    show gtM ((k, rwsD rs) :: grD g) c = _
    rw [gtM_cons, gtM_cons, ih]
    by_cases h : k = c
    · rw [if_pos h, if_pos h]; rfl
    · rw [if_neg h, if_neg h]
theorem grD_some {c : Cell} {g : Grd} {rs : Rws} (h : gtM g c = some rs) : gtM (grD g) c = some (rwsD rs) := by rw [grD_gt, h]; rfl
theorem grD_len {g : Grd} : (grD g).length = g.length := List.length_map ..
theorem grD_keys {g : Grd} : (grD g).map (·.1) = g.map (·.1) := by unfold grD; rw [List.map_map]; rfl
def costN (rs : Rws) (x : Int) : Nat := (rs.filter fun r => decide (r.2 ≠ x)).length
def cntN (rs : Rws) (x : Int) : Nat := (rs.filter fun r => decide (r.2 = x)).length
theorem cost_cnt {rs : Rws} {x : Int} : costN rs x + cntN rs x = rs.length := by
  unfold costN cntN
  induction rs with
  | nil => rfl
  | cons r rs ih =>
    by_cases h : r.2 = x
    · rw [List.filter_cons_of_neg (by simpa using h), List.filter_cons_of_pos (by simpa using h), List.length_cons, List.length_cons]; omega
    · rw [List.filter_cons_of_pos (by simpa using h), List.filter_cons_of_neg (by simpa using h), List.length_cons, List.length_cons]; omega
theorem cnt_snoc {rs : Rws} {r : Str × Int} {x : Int} : cntN (rs ++ [r]) x = cntN rs x + if r.2 = x then 1 else 0 := by
  unfold cntN
  rw [List.filter_append, List.length_append]
  by_cases h : r.2 = x
  · rw [if_pos h, List.filter_cons_of_pos (by simpa using h)]; rfl
  · rw [if_neg h, List.filter_cons_of_neg (by simpa using h)]; rfl
theorem cost_snoc {rs : Rws} {r : Str × Int} {x : Int} : rs.length + 1 = (rs ++ [r]).length := by simp
theorem cnt_le {rs : Rws} {x : Int} : cntN rs x ≤ rs.length := List.length_filter_le ..
theorem cnt_pos {rs : Rws} {x : Int} : 0 < cntN rs x ↔ ∃ r ∈ rs, r.2 = x := by
  unfold cntN
  rw [List.length_pos_iff_exists_mem]
  constructor
  · rintro ⟨r, hr⟩
    rw [List.mem_filter] at hr
    exact ⟨r, hr.1, by simpa using hr.2⟩
  · rintro ⟨r, hr, h⟩
    exact ⟨r, List.mem_filter.mpr ⟨hr, by simpa using h⟩⟩
/-- a tally of the rows: its keys are told, its values how often -/
structure Tal (rs : Rws) (m : List (Int × Int)) : Prop where
  nd : (m.map (·.1)).Nodup
  gt : ∀ x, gtM m x = if cntN rs x = 0 then none else some (cntN rs x : Int)
theorem nd_ptM {κ α : Type} [DecidableEq κ] {m : List (κ × α)} {k : κ} {a : α} (h : (m.map (·.1)).Nodup) : ((ptM m k a).map (·.1)).Nodup := by
  rw [keys_ptM]
  split
  · exact h
  · rename_i hk
    exact List.nodup_append.mpr ⟨h, by simp, fun a ha b hb => by
      rw [List.mem_singleton] at hb
      exact fun e => hk (hb ▸ e ▸ ha)⟩
theorem Tal.nil : Tal [] [] := ⟨by simp, fun x => rfl⟩
theorem Tal.snoc {rs : Rws} {m : List (Int × Int)} (h : Tal rs m) (r : Str × Int) : Tal (rs ++ [r]) (ptM m r.2 ((gtM m r.2).getD 0 + 1)) := by
  refine ⟨nd_ptM h.nd, fun x => ?_⟩
  rw [gtM_ptM, cnt_snoc]
  by_cases e : r.2 = x
  · subst e
    rw [if_pos rfl, if_pos rfl, if_neg (by omega), h.gt]
    congr 1
    by_cases z : cntN rs r.2 = 0
    · rw [if_pos z, z]; rfl
    · rw [if_neg z]; simp
  · rw [if_neg e, if_neg e, h.gt]
    rfl
theorem gtM_mem {κ α : Type} [DecidableEq κ] {m : List (κ × α)} {k : κ} {a : α} (h : gtM m k = some a) : (k, a) ∈ m := by
  unfold gtM at h
  obtain ⟨p, hp, rfl⟩ := Option.map_eq_some_iff.mp h
  have h1 := List.mem_of_find?_eq_some hp
  have h2 := List.find?_some hp
  simp at h2
  rw [← h2]
  exact h1
theorem mem_gtM {κ α : Type} [DecidableEq κ] : ∀ {m : List (κ × α)} {k : κ} {a : α}, (m.map (·.1)).Nodup → (k, a) ∈ m → gtM m k = some a
  | p :: m, k, a, hn, h => by
    rw [List.map_cons, List.nodup_cons] at hn
    rw [gtM_cons]
    rcases List.mem_cons.mp h with e | h
    · rw [← e, if_pos rfl]
    · rw [if_neg (fun z : p.1 = k => hn.1 (List.mem_map.mpr ⟨(k, a), h, z.symm⟩))]
      exact mem_gtM hn.2 h
theorem Tal.mem {rs : Rws} {m : List (Int × Int)} (h : Tal rs m) {k n : Int} : (k, n) ∈ m ↔ 0 < cntN rs k ∧ n = (cntN rs k : Int) := by
  constructor
  · intro hm
    have := mem_gtM h.nd hm
    rw [h.gt] at this
    by_cases z : cntN rs k = 0
    · rw [if_pos z] at this; cases this
    · rw [if_neg z] at this
      exact ⟨by omega, (Option.some.inj this).symm⟩
  · rintro ⟨h0, rfl⟩
    refine gtM_mem ?_
    rw [h.gt, if_neg (by omega)]
/-- the cheapest value, the least of these -/
def Best (rs : Rws) (b : Int) : Prop := 0 < cntN rs b ∧ ∀ x, 0 < cntN rs x → cntN rs x < cntN rs b ∨ cntN rs x = cntN rs b ∧ b ≤ x
def Unt (rs : Rws) (u : Int) : Prop := 0 ≤ u ∧ cntN rs u = 0 ∧ ∀ v, 0 ≤ v → v < u → 0 < cntN rs v
/-- the cheapest value of the others -/
def Other (rs : Rws) (o : Int) : Prop := ∃ u b, Unt rs u ∧ Best rs b ∧ o ≠ b ∧ (0 < cntN rs o ∨ o = u) ∧ ∀ x, x ≠ b → (0 < cntN rs x ∨ x = u) → cntN rs x < cntN rs o ∨ cntN rs x = cntN rs o ∧ o ≤ x
theorem Best.uniq {rs : Rws} {a b : Int} (h1 : Best rs a) (h2 : Best rs b) : a = b := by
  rcases h1.2 b h2.1 with h | h <;> rcases h2.2 a h1.1 with k | k <;> omega
theorem Unt.uniq {rs : Rws} {a b : Int} (h1 : Unt rs a) (h2 : Unt rs b) : a = b := by
  rcases Int.lt_trichotomy a b with h | h | h
  · have := h2.2.2 a h1.1 h
    have := h1.2.1
    omega
  · exact h
  · have := h1.2.2 b h2.1 h
    have := h2.2.1
    omega
theorem Other.uniq {rs : Rws} {a b : Int} (h1 : Other rs a) (h2 : Other rs b) : a = b := by
  obtain ⟨u, x, hu, hx, a1, a2, a3⟩ := h1
  obtain ⟨u', x', hu', hx', b1, b2, b3⟩ := h2
  have := hu.uniq hu'
  have := hx.uniq hx'
  subst u' x'
  rcases a3 b b1 b2 with h | h <;> rcases b3 a a1 a2 with k | k <;> omega
theorem lt2_neg {a b : Int × Int} : lt2 a b = false ↔ ¬(a.1 < b.1 ∨ a.1 = b.1 ∧ a.2 < b.2) := by
  rw [← lt2_iff]
  simp
theorem Tal.best {rs : Rws} {m : List (Int × Int)} (h : Tal rs m) {k n : Int} (hm : (k, n) ∈ m) (ho : ∀ e ∈ m, lt2 (-e.2, e.1) (-n, k) = false) : Best rs k := by
  obtain ⟨h1, rfl⟩ := h.mem.mp hm
  refine ⟨h1, fun x hx => ?_⟩
  have := lt2_neg.mp (ho (x, (cntN rs x : Int)) (h.mem.mpr ⟨hx, rfl⟩))
  simp only at this
  omega
theorem Tal.ne {rs : Rws} {m : List (Int × Int)} (h : Tal rs m) (hr : rs ≠ []) : m ≠ [] := by
  rintro rfl
  obtain ⟨r, hr⟩ := List.exists_mem_of_ne_nil _ hr
  have := h.gt r.2
  rw [if_neg (by have := cnt_pos.mpr ⟨r, hr, rfl⟩; omega)] at this
  cases this
theorem Tal.len {rs : Rws} {m : List (Int × Int)} (h : Tal rs m) : m.length ≤ rs.length := by
  have h1 : (m.map (·.1)).length ≤ (rs.map (·.2)).length := by
    refine List.Nodup.length_le_of_subset h.nd fun x hx => ?_
    obtain ⟨⟨k, n⟩, hm, rfl⟩ := List.mem_map.mp hx
    obtain ⟨r, hr, e⟩ := cnt_pos.mp (h.mem.mp hm).1
    exact List.mem_map.mpr ⟨r, hr, e⟩
  simpa using h1
/-- the tally without the best, with the least untold -/
structure Tal2 (rs : Rws) (u b : Int) (m : List (Int × Int)) : Prop where
  nd : (m.map (·.1)).Nodup
  gt : ∀ x, gtM m x = if x = b ∨ (cntN rs x = 0 ∧ x ≠ u) then none else some (cntN rs x : Int)
theorem Tal2.mem {rs : Rws} {u b : Int} {m : List (Int × Int)} (h : Tal2 rs u b m) {k n : Int} : (k, n) ∈ m ↔ k ≠ b ∧ (0 < cntN rs k ∨ k = u) ∧ n = (cntN rs k : Int) := by
  constructor
  · intro hm
    have := mem_gtM h.nd hm
    rw [h.gt] at this
    split at this
    · cases this
    · rename_i z
      exact ⟨fun e => z (.inl e), by
        by_cases e : k = u
        · exact .inr e
        · exact .inl (by
            have : cntN rs k ≠ 0 := fun e2 => z (.inr ⟨e2, e⟩)
            omega), (Option.some.inj this).symm⟩
  · rintro ⟨h0, h1, rfl⟩
    refine gtM_mem ?_
    rw [h.gt, if_neg (by omega)]
theorem Tal2.other {rs : Rws} {u b : Int} {m : List (Int × Int)} (h : Tal2 rs u b m) (hu : Unt rs u) (hb : Best rs b) {k n : Int} (hm : (k, n) ∈ m) (ho : ∀ e ∈ m, lt2 (-e.2, e.1) (-n, k) = false) : Other rs k := by
  obtain ⟨h0, h1, rfl⟩ := h.mem.mp hm
  refine ⟨u, b, hu, hb, h0, h1, fun x hx hx2 => ?_⟩
  have := lt2_neg.mp (ho (x, (cntN rs x : Int)) (h.mem.mpr ⟨hx, hx2, rfl⟩))
  simp only at this
  omega
theorem gtM_drop {κ α : Type} [DecidableEq κ] {k k' : κ} : ∀ {m : List (κ × α)}, gtM (m.filter fun p => decide (p.1 ≠ k)) k' = if k' = k then none else gtM m k'
  | [] => by simp [gtM]
  | p :: m => by
    have ih := gtM_drop (k := k) (k' := k') (m := m)
    by_cases h : p.1 = k
    · rw [List.filter_cons_of_neg (by simpa using h), ih, gtM_cons]
      by_cases e : k' = k
      · rw [if_pos e, if_pos e]
      · rw [if_neg e, if_neg e, if_neg (fun z : p.1 = k' => e (z.symm.trans h))]
    · rw [List.filter_cons_of_pos (by simpa using h), gtM_cons, gtM_cons, ih]
      by_cases e : p.1 = k'
      · rw [if_pos e, if_pos e, if_neg (fun z => h (e.trans z))]
      · rw [if_neg e, if_neg e]
theorem Tal.two {rs : Rws} {m : List (Int × Int)} (h : Tal rs m) {u b : Int} (hu : Unt rs u) (hb : Best rs b) : Tal2 rs u b ((ptM m u 0).filter fun p => decide (p.1 ≠ b)) := by
  have hub : u ≠ b := fun z => by have := hu.2.1; have := hb.1; rw [z] at *; omega
  refine ⟨?_, fun x => ?_⟩
  · exact List.Nodup.sublist (List.Sublist.map _ List.filter_sublist) (nd_ptM h.nd)
  · rw [gtM_drop, gtM_ptM, h.gt]
    by_cases e : x = b
    · rw [if_pos e, if_pos (.inl e)]
    · rw [if_neg e]
      by_cases e2 : u = x
      · subst e2
        rw [if_pos rfl, if_neg (by simp [hub]), hu.2.1]
        rfl
      · rw [if_neg e2]
        by_cases e3 : cntN rs x = 0
        · rw [if_pos e3, if_pos (.inr ⟨e3, fun z => e2 z.symm⟩)]
        · rw [if_neg e3, if_neg (by simp [e, e3])]
def talD (m : List (Int × Int)) : List (L2.Key × PyData) := m.map fun e => ((Sum.inl e.1 : L2.Key), PyData.int e.2)
theorem talD_gt {k : Int} : ∀ {m : List (Int × Int)}, gtM (talD m) (Sum.inl k : L2.Key) = (gtM m k).map .int
  | [] => rfl
  | (a, b) :: m => by
    have ih := talD_gt (k := k) (m := m)
    show gtM (((Sum.inl a : L2.Key), PyData.int b) :: talD m) _ = _
    rw [gtM_cons, gtM_cons, ih]
    by_cases h : a = k
    · rw [if_pos (congrArg Sum.inl h), if_pos h]; rfl
    · rw [if_neg (fun z => h (Sum.inl.inj z)), if_neg h]
theorem talD_pt {m : List (Int × Int)} {k n : Int} : ptM (talD m) (Sum.inl k : L2.Key) (.int n) = talD (ptM m k n) := by
  unfold ptM talD
  rw [List.any_map]
  have e2 : (m.any ((fun p => decide (p.1 = (Sum.inl k : L2.Key))) ∘ fun e : Int × Int => ((Sum.inl e.1 : L2.Key), PyData.int e.2))) = m.any fun p => decide (p.1 = k) := by
    congr 1
    funext e
    exact decide_eq_decide.mpr ⟨fun h => Sum.inl.inj h, fun h => congrArg Sum.inl h⟩
  rw [e2]
  split
  · rw [List.map_map, List.map_map]
    refine List.map_congr_left fun e _ => ?_
    show (if (Sum.inl e.1 : L2.Key) = Sum.inl k then ((Sum.inl e.1 : L2.Key), PyData.int n) else ((Sum.inl e.1 : L2.Key), PyData.int e.2)) = ((Sum.inl (if e.1 = k then (e.1, n) else e).1 : L2.Key), PyData.int (if e.1 = k then (e.1, n) else e).2)
    by_cases h : e.1 = k
    · rw [if_pos (congrArg Sum.inl h), if_pos h]
    · rw [if_neg (fun z => h (Sum.inl.inj z)), if_neg h]
  · rw [List.map_append]
    rfl
theorem talD_drop {k : Int} : ∀ {m : List (Int × Int)}, (talD m).filter (fun p => decide (p.1 ≠ (Sum.inl k : L2.Key))) = talD (m.filter fun p => decide (p.1 ≠ k))
  | [] => rfl
  | (a, b) :: m => by
    have ih := talD_drop (k := k) (m := m)
    show List.filter _ (((Sum.inl a : L2.Key), PyData.int b) :: talD m) = _
    by_cases h : a = k
    · rw [List.filter_cons_of_neg (by simpa using h), List.filter_cons_of_neg (by simpa using h), ih]
    · rw [List.filter_cons_of_pos (by simpa using h), List.filter_cons_of_pos (by simpa using h), ih]
      rfl
theorem talD_len {m : List (Int × Int)} : (talD m).length = m.length := List.length_map ..
theorem tal_int {K : PySem.W.Frag} {d : Addr} {G H : Hp} {m : List (Int × Int)} (r : DctAt K d G H (talD m)) : H d = some (.dK (intK m)) := by
  obtain ⟨kvs, h, _, hk, hd⟩ := r
  rw [h]
  congr 2
  have key : ∀ (m : List (Int × Int)) (kvs : List (L2.Key × V)), kvs.map (·.1) = (talD m).map (·.1) → DpAll K G (kvs.map (·.2)) ((talD m).map (·.2)) → kvs = intK m := by
    intro m
    induction m with
    | nil => intro kvs h _; simpa [talD, intK] using h
    | cons a m ih =>
      intro kvs h hd
      cases kvs with
      | nil => simp [talD] at h
      | cons p kvs =>
        simp only [talD, List.map_cons, List.cons.injEq] at h hd
        cases hd with
        | cons h1 h2 =>
          have := ih kvs h.2 h2
          show p :: kvs = ((Sum.inl a.1 : L2.Key), V.int a.2) :: intK m
          rw [this]
          congr 1
          exact Prod.ext h.1 (dp_int h1)
  exact key m kvs hk hd
def sp__tally (K : PySem.W.Frag) : Sp := fun vs H Q _ => ∃ G d y g c rs, vs = [.ref d, y] ∧ Y.Ex G H ∧ DtRd K d G H (grD g) ∧ Cl G y c ∧ gtM g c = some rs ∧ rs.length ≤ 1000 ∧ ∀ p m G' H', Nx [] G H G' H' → H p = none → Tal rs m → DctAt K p G' H' (talD m) → Q (.ref p) H'
theorem ok__tally (T : Tx fa fn bx K mg) : FnOk P w K mg base CX0 1 (He.ga K "_tally") (fdOf K (He.ga K "_tally")) ["ground", "cell"] (sp__tally K) := by
  refine FunD.ok (F__tally T) sc__tally (fun vs H Q E h => ?_) (fun cdv A outer s H vs Q E hr h => ?_)
  · obtain ⟨_, _, _, _, _, _, rfl, _⟩ := h
    rfl
  · obtain ⟨G, d, y, g, c, rs, rfl, e, r, hy, hg, hl, q⟩ := h
    refine ⟨_, PSs.nox ((pss_cons (ps_set (i := 2) sc__tally.nd rfl (Or.inl rfl) pe_dnewK)
      (pss_cons (ps_for PassesOwn.never rfl (Y.pi_tupK (K := K) rfl (pe_dget (hu_of hr) (pv 0) (pv 1) (fun _ _ => rfl))) (Y.pg_tupK (K := K) (n := 2) rfl rfl (pgs_cons (pg_name (i := 3) sc__tally.nd rfl (Or.inl rfl)) (pgs_cons (pg_name (i := 4) sc__tally.nd rfl (Or.inl rfl)) pgs_nil)))
      (pss_one (ps_dput (hu_of hr) (pv 2) (pv 4) (pe_op op_add (pe_dget2 (hu_of hr) (pv 2) (pv 4) pe_int ⟨rfl, rfl, rfl, rfl⟩) pe_int) rfl)))
      (pss_one (ps_ret (pv 2)))))), ?_⟩
    walk_at "sx"
    refine g_newD (K := K) e fun p H1 n1 hp hP => ?_
    walk_at "sx"
    have r1 := r.go n1 (by simp)
    refine g_dtGet n1.gh r1 (hy.go n1.gg) (grD_some hg) fun v dv => ?_
    walk_at "sx"
    refine g_walkT n1.gh dv fun t et S => ?_
    refine g_forS (K := K) (M := [p]) (S [p]) n1.gh (fun i σ G' H' => ∃ m y4 y5, σ = [some (.ref d), some y, some (.ref p), y4, y5] ∧ Tal (rs.take i) m ∧ DctAt K p G' H' (talD m)) ⟨[], _, _, rfl, Tal.nil, hP⟩ ?_ ?_
    · rintro i z x σ' G2 H2 G3 H3 hi n2 ⟨m, y4, y5, rfl, hm, hP2⟩ n3 dx
      rw [List.getElem?_map] at hi
      obtain ⟨r0, hr0, rfl⟩ := Option.map_eq_some_iff.mp hi
      have hP3 := hP2.go n3 (by simp)
      refine g_un2 n3.gh dx fun u1 u2 e1 e2 => ?_
      cases dp_int e2
      walk_at "sx"
      have hm2 := hm.snoc r0
      have hlm : m.length ≤ 1000 := Nat.le_trans hm.len (by rw [List.length_take]; omega)
      rw [show rs.take i ++ [r0] = rs.take (i + 1) by rw [List.take_add_one, hr0]; rfl] at hm2
      refine g_dg2W hP3 ?_
      walk_at "sx"
      have key : (∃ n, (gtM m r0.2).getD 0 = n ∧ ((gtM (talD m) (Sum.inl r0.2 : L2.Key) = some (.int n)) ∨ (gtM (talD m) (Sum.inl r0.2 : L2.Key) = none ∧ n = 0))) := by
        rw [talD_gt]
        cases hgt : gtM m r0.2 with
        | none => exact ⟨0, rfl, .inr ⟨rfl, rfl⟩⟩
        | some n => exact ⟨n, rfl, .inl rfl⟩
      obtain ⟨n, hn, hn2⟩ := key
      rw [hn] at hm2
      have fin : DPuW (fun H4 => ∃ G3, Nx [p] G H1 G3 H4 ∧ ∃ m y4 y5, ([some (V.ref d), some y, some (.ref p), some u1, some (.int r0.2)] : L2.St) = [some (.ref d), some y, some (.ref p), y4, y5] ∧ Tal (rs.take (i + 1)) m ∧ DctAt K p G3 H4 (talD m)) (.int (n + 1)) (.ref p) (.int r0.2) H3 := by
        refine g_dcPut (dx := .int (n + 1)) n3.gh hP3 (k := Sum.inl r0.2) rfl (.int _) (by rw [talD_len]; omega) fun H4 n4 hP4 => ?_
        rw [talD_pt] at hP4
        exact ⟨G3, (n2.trans n3.pure).trans n4, _, _, _, rfl, hm2, hP4⟩
      refine g_dgO hP3 (k := Sum.inl r0.2) rfl (fun x v hx dv => ?_) (fun hx => ?_) <;> dsimp only [Option.getD]
      · rcases hn2 with h | ⟨h, _⟩
        · rw [h] at hx
          cases hx
          cases dp_int dv
          walk_at "sx"
          exact fin
        · rw [h] at hx
          cases hx
      · rcases hn2 with h | ⟨h, rfl⟩
        · rw [h] at hx
          cases hx
        · walk_at "sx"
          exact fin
    · rintro σ' G2 H2 n2 ⟨m, y4, y5, rfl, hm, hP2⟩
      rw [List.length_map, List.take_length] at hm
      walk_at "sx"
      exact q p m G2 H2 ((n1.pure.trans n2).drop hp) hp hm hP2
theorem unt_bound {rs : Rws} {m : List (Int × Int)} (h : Tal rs m) {v : Nat} (hv : ∀ w : Int, 0 ≤ w → w < (v : Int) → 0 < cntN rs w) : v ≤ m.length := by
  have h1 : ((List.range v).map fun i : Nat => (i : Int)).length ≤ (m.map (·.1)).length := by
    refine List.Nodup.length_le_of_subset ?_ fun x hx => ?_
    · exact List.Pairwise.map _ (fun a b (h : a ≠ b) (z : (a : Int) = b) => h (by omega)) List.nodup_range
    · obtain ⟨i, hi, rfl⟩ := List.mem_map.mp hx
      rw [List.mem_range] at hi
      have := hv i (by omega) (by omega)
      exact List.mem_map.mpr ⟨_, h.mem.mpr ⟨this, rfl⟩, rfl⟩
  simpa using h1
def sp__least_untold (K : PySem.W.Frag) : Sp := fun vs H Q _ => ∃ G p m rs, vs = [.ref p] ∧ Y.Ex G H ∧ DctAt K p G H (talD m) ∧ Tal rs m ∧ ∀ u G' H', Nx [] G H G' H' → Unt rs u → Q (.int u) H'
theorem ok__least_untold (T : Tx fa fn bx K mg) : FnOk P w K mg base CX0 1 (He.ga K "_least_untold") (fdOf K (He.ga K "_least_untold")) ["tally"] (sp__least_untold K) := by
  refine FunD.ok (F__least_untold T) sc__least_untold (fun vs H Q E h => ?_) (fun cdv A outer s H vs Q E hr h => ?_)
  · obtain ⟨_, _, _, _, rfl, _⟩ := h
    rfl
  · obtain ⟨G, p, m, rs, rfl, e, r, hm, q⟩ := h
    refine ⟨_, PSs.nox ((pss_cons (ps_set (i := 1) sc__least_untold.nd rfl (Or.inl rfl) pe_int)
      (pss_cons (ps_while PassesOwn.never (pt_cmp (pc_din (hu_of hr) (pv 1) (pv 0)))
      (pss_one (ps_aug (i := 1) sc__least_untold.nd rfl (Or.inl rfl) pe_int ip_add)))
      (pss_one (ps_ret (pv 1)))))), ?_⟩
    walk_at "sx"
    refine g_while (m.length + 1) (fun n σ' H' => ∃ v : Nat, n + v = m.length + 1 ∧ σ' = [some (.ref p), some (.int v)] ∧ H' = H ∧ ∀ w : Int, 0 ≤ w → w < (v : Int) → 0 < cntN rs w) ⟨0, rfl, rfl, rfl, fun w h1 h2 => by omega⟩ ?_
    rintro n σ' H' ⟨v, hn, rfl, rfl, hv⟩
    walk_at "sx"
    refine g_dcIn r (k := Sum.inl (v : Int)) rfl ?_
    walk_at "sx"
    rw [talD_gt, Option.isSome_map, hm.gt]
    by_cases hc : cntN rs v = 0
    · rw [if_pos hc]
      rw [Option.isSome_none]
      walk_at "sx"
      exact q v G H' (Nx.refl e) ⟨by omega, hc, hv⟩
    · rw [if_neg hc]
      rw [Option.isSome_some]
      walk_at "sx"
      have hv2 : ∀ w : Int, 0 ≤ w → w < ((v + 1 : Nat) : Int) → 0 < cntN rs w := fun w h1 h2 => by
        by_cases e1 : w = (v : Int)
        · rw [e1]; omega
        · exact hv w h1 (by omega)
      have hb := unt_bound hm hv2
      refine g_whN ?_
      walk_at "sx"
      refine g_au rfl ?_
      walk_at "sx"
      exact ⟨n - 1, by omega, v + 1, by omega, rfl, rfl, hv2⟩
def Cand (rs : Rws) (x : Int) : Prop := 0 < cntN rs x ∨ Unt rs x
theorem unt_rows {rs : Rws} {v : Nat} (hv : ∀ w : Int, 0 ≤ w → w < (v : Int) → 0 < cntN rs w) : v ≤ rs.length := by
  have h1 : ((List.range v).map fun i : Nat => (i : Int)).length ≤ (rs.map (·.2)).length := by
    refine List.Nodup.length_le_of_subset ?_ fun x hx => ?_
    · exact List.Pairwise.map _ (fun a b (h : a ≠ b) (z : (a : Int) = b) => h (by omega)) List.nodup_range
    · obtain ⟨i, hi, rfl⟩ := List.mem_map.mp hx
      rw [List.mem_range] at hi
      obtain ⟨r, hr, e⟩ := cnt_pos.mp (hv i (by omega) (by omega))
      exact List.mem_map.mpr ⟨r, hr, e⟩
  simpa using h1
def sp__law_candidates (K : PySem.W.Frag) : Sp := fun vs H Q _ => ∃ G d y g c rs, vs = [.ref d, y] ∧ Y.Ex G H ∧ DtRd K d G H (grD g) ∧ Cl G y c ∧ gtM g c = some rs ∧ rs.length ≤ 5 ∧ ∀ p (ts : List Int) u G' H', Nx [] G H G' H' → H p = none → (∀ x, x ∈ ts ↔ 0 < cntN rs x) → ts.Nodup → Unt rs u → ts.length ≤ 5 → LstAt K p G' H' ((ts ++ [u]).map PyData.int) → Q (.ref p) H'
theorem ok__law_candidates (T : Tx fa fn bx K mg) : FnOk P w K mg base CX0 1 (He.ga K "_law_candidates") (fdOf K (He.ga K "_law_candidates")) ["ground", "cell"] (sp__law_candidates K) := by
  refine FunD.ok (F__law_candidates T) sc__law_candidates (fun vs H Q E h => ?_) (fun cdv A outer s H vs Q E hr h => ?_)
  · obtain ⟨_, _, _, _, _, _, rfl, _⟩ := h
    rfl
  · obtain ⟨G, d, y, g, c, rs, rfl, e, r, hy, hg, hl, q⟩ := h
    refine ⟨_, PSs.nox ((pss_cons (ps_set (i := 2) sc__law_candidates.nd rfl (Or.inl rfl) (pe_lst pa_nil))
      (pss_cons (ps_for PassesOwn.never rfl (Y.pi_tupK (K := K) rfl (pe_dget (hu_of hr) (pv 0) (pv 1) (fun _ _ => rfl))) (pg_name (i := 3) sc__law_candidates.nd rfl (Or.inl rfl))
      (pss_one (ps_if (pt_cmpR (Y.op_notInK (K := K) rfl) (pe_ix (Y.ix_tupK (K := K) rfl) (pv 3) pe_int (fun _ _ => rfl)) (pv 2) (by rfl))
      (pss_one (ps_expr (Y.pe_bmK (K := K) rfl PySem.F.plainAttrs_list PySem.F.slot_list_append PySem.F.type_list_append mt_append (pv 2) (pa_cons (pe_ix (Y.ix_tupK (K := K) rfl) (pv 3) pe_int (fun _ _ => rfl)) pa_nil))))
      pss_nil)))
      (pss_cons (ps_for PassesOwn.never rfl (pi_range1 (by rfl) (T.free 14) (pa_cons pe_int pa_nil)) (pg_name (i := 4) sc__law_candidates.nd rfl (Or.inl rfl))
      (pss_one (ps_if (pt_cmpR (Y.op_notInK (K := K) rfl) (pv 4) (pv 2) (by rfl))
      (pss_one (ps_ret (pe_op op_cat (pv 2) (pe_lst (pa_cons (pv 4) pa_nil)))))
      pss_nil)))
      (pss_one (ps_ret (pv 2))))))), ?_⟩
    walk_at "sx"
    refine g_lstLs (K := K) (L := []) e .nil (by decide) fun p H1 n1 hp hL => ?_
    walk_at "sx"
    refine g_dtGet n1.gh (r.go n1 (by simp)) (hy.go n1.gg) (grD_some hg) fun v dv => ?_
    walk_at "sx"
    refine g_walkT n1.gh dv fun t et S => ?_
    refine g_forS (K := K) (M := [p]) (S [p]) n1.gh (fun i σ G' H' => ∃ (cs : List Int) (y4 y5 : Option V), σ = [some (.ref d), some y, some (.ref p), y4, y5] ∧ cs.length ≤ i ∧ cs.Nodup ∧ (∀ x, x ∈ cs ↔ 0 < cntN (rs.take i) x) ∧ LstAt K p G' H' (cs.map PyData.int)) ⟨[], _, _, rfl, Nat.le_refl _, List.nodup_nil, (fun x => by simp [cntN]), hL⟩ ?_ ?_
    · rintro i z x σ' G2 H2 G3 H3 hi n2 ⟨cs, y4, y5, rfl, hcl, hcn, hcs, hL2⟩ n3 dx
      rw [List.getElem?_map] at hi
      obtain ⟨r0, hr0, rfl⟩ := Option.map_eq_some_iff.mp hi
      walk_at "sx"
      refine g_ixT (k := 1) n3.gh dx rfl rfl fun u2 e2 => ?_
      cases dp_int e2
      walk_at "sx"
      have hL3 := hL2.go n3 (by simp)
      have hst : rs.take (i + 1) = rs.take i ++ [r0] := by rw [List.take_add_one, hr0]; rfl
      refine g_inIT n3.gh hL3.lsv ?_
      walk_at "sx"
      by_cases hin : r0.2 ∈ cs
      · rw [decide_eq_true hin]
        walk_at "sx"
        refine ⟨G3, n2.trans n3.pure, cs, _, _, rfl, by omega, hcn, fun x => ?_, hL3⟩
        rw [hst, cnt_snoc, hcs]
        have := (hcs r0.2).mp hin
        by_cases e1 : r0.2 = x
        · rw [if_pos e1, ← e1]; omega
        · rw [if_neg e1]; omega
      · rw [decide_eq_false hin]
        walk_at "sx"
        refine g_tyLs hL3 ?_
        walk_at "sx"
        refine g_ixT (k := 1) n3.gh dx rfl rfl fun u3 e3 => ?_
        cases dp_int e3
        walk_at "sx"
        refine g_appLs (d := .int r0.2) n3.gh hL3 (.int _) (by rw [List.length_map]; have : i < rs.length := (List.getElem?_eq_some_iff.mp hr0).1; omega) fun H4 n4 hL4 => ?_
        walk_at "sx"
        refine ⟨G3, (n2.trans n3.pure).trans n4, cs ++ [r0.2], _, _, rfl, by rw [List.length_append]; simp; omega, List.nodup_append.mpr ⟨hcn, by simp, fun a ha b hb => fun z => hin (by rw [List.mem_singleton.mp hb] at z; exact z ▸ ha)⟩, fun x => ?_, by rw [List.map_append]; exact hL4⟩
        rw [hst, cnt_snoc, List.mem_append, hcs, List.mem_singleton]
        by_cases e1 : r0.2 = x
        · rw [if_pos e1]; constructor
          · omega
          · intro _; exact .inr e1.symm
        · rw [if_neg e1]; constructor
          · rintro (h | h)
            · omega
            · exact absurd h.symm e1
          · intro h; exact .inl (by omega)
    · rintro σ' G2 H2 n2 ⟨cs, y4, y5, rfl, hcl, hcn, hcs, hL2⟩
      rw [List.length_map] at hcl
      rw [List.length_map, List.take_length] at hcs
      walk_at "sx"
      have n12 : Nx [] G H G2 H2 := (n1.pure.trans n2).drop hp
      refine g_walkR (by omega) (by omega) ?_
      refine g_forS (K := K) (M := []) (src_rng 0 20) n2.gh (fun i σ G' H' => ∃ y4 y5, σ = [some (.ref d), some y, some (.ref p), y4, y5] ∧ (∀ w : Int, 0 ≤ w → w < (i : Int) → 0 < cntN rs w) ∧ LstAt K p G' H' (cs.map PyData.int)) ⟨_, _, rfl, (fun w h1 h2 => by omega), hL2⟩ ?_ ?_
      · rintro i z x σ' G3 H3 G4 H4 hi n3 ⟨y4, y5, rfl, hw, hL3⟩ n4 dx
        obtain ⟨hin, rfl⟩ := rng_get hi
        cases dp_int dx
        walk_at "sx"
        have hL4 := hL3.go n4 (by simp)
        refine g_inIT n4.gh hL4.lsv ?_
        walk_at "sx"
        by_cases hic : (i : Int) ∈ cs
        · rw [decide_eq_true hic]
          walk_at "sx"
          refine ⟨G4, n3.trans n4, _, _, rfl, fun w h1 h2 => ?_, hL4⟩
          by_cases e1 : w = (i : Int)
          · rw [e1]; exact (hcs _).mp hic
          · exact hw w h1 (by omega)
        · rw [decide_eq_false hic]
          walk_at "sx"
          refine g_lstLs (K := K) (L := [.int (i : Int)]) n4.gh (.cons (.int _) .nil) (by show 1 ≤ 100000; decide) fun p2 H5 n5 hp2 hL5 => ?_
          walk_at "sx"
          refine g_catM n5.gh (hL4.go n5 (by simp)) hL5 (by rw [List.length_map]; simp; omega) fun r2 H6 n6 hr2 hL6 => ?_
          have n16 := ((n12.trans n3).trans n4).trans (n5.trans n6)
          have hun : Unt rs i := ⟨by omega, by
            have : ¬ 0 < cntN rs i := fun z => hic ((hcs _).mpr z)
            omega, hw⟩
          exact q r2 cs (i : Int) G4 H6 n16 ((((n12.trans n3).trans n4).trans n5).fresh hr2) hcs hcn hun (by omega) (by rw [List.map_append]; exact hL6)
      · rintro σ' G3 H3 n3 ⟨y4, y5, rfl, hw, hL3⟩
        rw [rng_len] at hw
        have := unt_rows hw
        omega
def sp__law_cost (K : PySem.W.Frag) : Sp := fun vs H Q _ => ∃ G d y x g c rs, vs = [.ref d, y, .int x] ∧ Y.Ex G H ∧ DtRd K d G H (grD g) ∧ Cl G y c ∧ gtM g c = some rs ∧ rs.length ≤ 1000 ∧ ∀ G' H', Nx [] G H G' H' → Q (.int (costN rs x : Int)) H'
theorem ok__law_cost (T : Tx fa fn bx K mg) : FnOk P w K mg base CX0 1 (He.ga K "_law_cost") (fdOf K (He.ga K "_law_cost")) ["ground", "cell", "value"] (sp__law_cost K) := by
  refine FunD.ok (F__law_cost T) sc__law_cost (fun vs H Q E h => ?_) (fun cdv A outer s H vs Q E hr h => ?_)
  · obtain ⟨_, _, _, _, _, _, _, rfl, _⟩ := h
    rfl
  · obtain ⟨G, d, y, x, g, c, rs, rfl, e, r, hy, hg, hl, q⟩ := h
    refine ⟨_, PSs.nox ((pss_one (ps_ret (pe_callB (Y.call_lenK (K := K) rfl) (by rfl) (T.free 3) (by decide +kernel) (pa_cons (pe_lc (own := [("row", 3)]) rfl sc__law_cost.nd (Y.pi_tupK (K := K) rfl (pe_dget (hu_of hr) (pv 0) (pv 1) (fun _ _ => rfl))) (blkOk_by (own := [("row", 3)]) (by kernel_rfl)) (fun _ _ _ _ _ => (pg_name (i := 3) sc__law_cost.nd rfl (Or.inl rfl))) (fun _ _ _ _ _ => (pts_one (pt_cmpR op_ne (pe_ix (Y.ix_tupK (K := K) rfl) (pv 3) pe_int (fun _ _ => rfl)) (pv 2) (nomark _)))) (fun _ _ _ _ _ => (pv 3))) pa_nil))))), ?_⟩
    walk_at "sx"
    refine g_dtGet e r hy (grD_some hg) fun v dv => ?_
    walk_at "sx"
    refine g_walkT e dv fun t et S => ?_
    intro A hA
    refine g_lcPS (K := K) (M := []) (es := fun i => ((rs.take i).filter fun r => decide (r.2 ≠ x)).map rwD) (S []) e hA (by simp) (by rw [List.length_map]; exact szl (by omega)) (by simp) (fun i d1 v1 acc G1 H1 hi dv1 n1 _ QE QN k1 k2 => ?_) fun G1 H1 n1 hL => ?_
    · rw [List.getElem?_map] at hi
      obtain ⟨r0, hr0, rfl⟩ := Option.map_eq_some_iff.mp hi
      refine ⟨by first | rfl | exact wipe1, ?_⟩
      walk_at "sx"
      refine g_ixT (k := 1) n1.gh dv1 rfl rfl fun u2 e2 => ?_
      cases dp_int e2
      walk_at "sx"
      have hes : (rs.take (i + 1)).filter (fun r => decide (r.2 ≠ x)) = (rs.take i).filter (fun r => decide (r.2 ≠ x)) ++ if r0.2 ≠ x then [r0] else [] := by
        rw [List.take_add_one, hr0, List.filter_append]
        congr 1
        show List.filter _ [r0] = _
        by_cases h : r0.2 ≠ x
        · rw [List.filter_cons_of_pos (by simpa using h), if_pos h]; rfl
        · rw [List.filter_cons_of_neg (by simpa using h), if_neg h]; rfl
      refine g_ndec (fun h => ?_) (fun h => ?_) <;> walk_at "sx"
      · refine k1 _ G1 H1 (rwD r0) (Nx.refl n1.gh) dv1 ?_
        rw [hes, if_pos h, List.map_append]
        rfl
      · refine k2 G1 H1 (Nx.refl n1.gh) ?_
        rw [hes, if_neg (by simpa using h), List.append_nil]
    · rw [List.length_map, List.take_length] at hL
      walk_at "sx"
      refine g_lenLs hL ?_
      rw [List.length_map]
      exact q G1 H1 n1
def sp__law_wide (K : PySem.W.Frag) : Sp := fun vs H Q _ => ∃ (G : Hp) (a : Addr) (ns : List Int) (k : Int), vs = [.ref a, .int k] ∧ Y.Ex G H ∧ SqL K G a (ns.map V.int) ∧ 0 ≤ k ∧ ∀ r, 0 ≤ r → Q (.int r) H
theorem ok__law_wide (T : Tx fa fn bx K mg) : FnOk P w K mg base CX0 1 (He.ga K "_law_wide") (fdOf K (He.ga K "_law_wide")) ["script", "k"] (sp__law_wide K) := by
  refine FunD.ok (F__law_wide T) sc__law_wide (fun vs H Q E h => ?_) (fun cdv A outer s H vs Q E hr h => ?_)
  · obtain ⟨_, _, _, _, rfl, _⟩ := h
    rfl
  · obtain ⟨G, a, ns, k, rfl, e, hs, hk, q⟩ := h
    refine ⟨_, PSs.nox ((pss_cons (ps_set (i := 2) sc__law_wide.nd rfl (Or.inl rfl) pe_int)
      (pss_cons (ps_if (pt_cmpR op_lt (pv 1) (pe_callB (Y.call_lenK (K := K) rfl) (by rfl) (T.free 3) (by decide +kernel) (pa_cons (pv 0) pa_nil)) (nomark _))
      (pss_one (ps_set (i := 2) sc__law_wide.nd rfl (Or.inl rfl) (pe_callB Y.call_abs (by rfl) (T.free 12) (by decide +kernel) (pa_cons (pe_ix (Y.ix_listK (K := K) rfl) (pv 0) (pv 1) (fun _ _ => rfl)) pa_nil))))
      pss_nil)
      (pss_cons (ps_if (pt_cmpR op_ge (pv 2) pe_int (nomark _))
      (pss_one (ps_ret (pv 2)))
      pss_nil)
      (pss_cons (ps_set (i := 3) sc__law_wide.nd rfl (Or.inl rfl) (pe_op op_modN (pe_callTy Y.call_int1 (by rfl) (T.free 2) (by decide +kernel) (pa_cons (pe_op op_add (pe_op op_mul (pe_op op_add (pv 2) pe_int) pe_int) (pe_op op_mul (pe_op op_add (pv 1) pe_int) pe_int)) pa_nil)) pe_int))
      (pss_one (ps_ret (pe_op op_modN (pe_callTy Y.call_int1 (by rfl) (T.free 2) (by decide +kernel) (pa_cons (pe_op op_add (pe_op op_mul (pv 3) pe_int) (pe_op op_fdivN (pv 3) pe_int)) pa_nil)) pe_int)))))))), ?_⟩
    walk_at "sx"
    refine g_lenK e hs ?_
    walk_at "sx"
    refine g_dec (fun h1 => ?_) (fun h1 => ?_) <;> walk_at "sx"
    · rw [List.length_map] at h1
      have hl : k.toNat < ns.length := by omega
      refine g_ixK e hs (k := k.toNat) (v := .int ns[k.toNat]) (by simp [hl]) (by omega) ?_
      walk_at "sx"
      refine g_dec (fun h2 => ?_) (fun h2 => ?_) <;> walk_at "sx"
      · exact q _ (by omega)
      · refine g_I (.inr (by decide)) ?_
        walk_at "sx"
        refine g_I (.inr (by decide)) ?_
        walk_at "sx"
        refine g_I (by decide) ?_
        walk_at "sx"
        refine g_I (.inr (by decide)) ?_
        walk_at "sx"
        refine g_I ⟨by decide, by decide⟩ ?_
        walk_at "sx"
        refine g_I (by decide) ?_
        walk_at "sx"
        exact q _ (Int.fmod_nonneg_of_pos _ (by decide))
    · refine g_dec (fun h2 => ?_) (fun h2 => ?_) <;> walk_at "sx"
      · exact q _ (Int.le_refl _)
      · refine g_I (.inr (by decide)) ?_
        walk_at "sx"
        refine g_I (.inr (by decide)) ?_
        walk_at "sx"
        refine g_I (by decide) ?_
        walk_at "sx"
        refine g_I (.inr (by decide)) ?_
        walk_at "sx"
        refine g_I ⟨by decide, by decide⟩ ?_
        walk_at "sx"
        refine g_I (by decide) ?_
        walk_at "sx"
        exact q _ (Int.fmod_nonneg_of_pos _ (by decide))
def sp__law_take (K : PySem.W.Frag) : Sp := fun vs H Q _ => ∃ G a m, vs = [.ref a, .int m] ∧ Y.Ex G H ∧ PoolAt K a G H ∧ 0 < m ∧ m < 1073741824 ∧ ∀ i H', 0 ≤ i → i < m → Nx [a] G H G H' → PoolAt K a G H' → Q (.int i) H'
theorem take_end {K : PySem.W.Frag} {G H : Hp} {Q : VK} {a l : Addr} {x k m : Int} {ns : List Int} (e : Y.Ex G H) (g : G a = none) (h : H a = some (.lst [.int x, .ref l, .int k])) (hl : SqL K G l (ns.map V.int)) (hx : 0 ≤ x) (hk : -1 ≤ k) (h0 : 0 < m) (h1 : m < 1073741824)
    (q : ∀ i H', 0 ≤ i → i < m → Nx [a] G H G H' → PoolAt K a G H' → Q (.int i) H') : Q (.int (x.fmod m)) (upd H a (.lst [.int (x.fdiv m), .ref l, .int k])) := by
  refine q _ _ (Int.fmod_nonneg_of_pos _ h0) (Int.fmod_lt_of_pos _ h0) (Nx.set e g (by simp)) ⟨g, _, k, l, ns, upd_same, hl, ?_, hk⟩
  rw [Int.fdiv_eq_ediv_of_nonneg _ (by omega)]
  exact Int.ediv_nonneg hx (by omega)
theorem ok__law_take (T : Tx fa fn bx K mg) : FnOk P w K mg base CX0 2 (He.ga K "_law_take") (fdOf K (He.ga K "_law_take")) ["pool", "most"] (sp__law_take K) := by
  refine FunD.ok (F__law_take T) sc__law_take (fun vs H Q E h => ?_) (fun cdv A outer s H vs Q E hr h => ?_)
  · obtain ⟨_, _, _, rfl, _⟩ := h
    rfl
  · obtain ⟨G, a, m, rfl, e, ⟨g, x, k, l, ns, hp, hl, hx, hk⟩, h0, h1, q⟩ := h
    refine ⟨_, PSs.nox ((pss_cons (ps_if (pt_cmpR op_lt (pe_ix (Y.ix_listK (K := K) rfl) (pv 0) pe_int (fun _ _ => rfl)) pe_int (nomark _))
      (pss_cons (ps_asg (pe_op op_add (pe_ix (Y.ix_listK (K := K) rfl) (pv 0) pe_int (fun _ _ => rfl)) pe_int) (pg_sub (pv 0) pe_int set_list))
      (pss_one (ps_asg (Y.pe_callC (ok__law_wide T) (cal__law_wide T) (hr.mono (by decide)) (by rfl) pass0 (pa_cons (pe_ix (Y.ix_listK (K := K) rfl) (pv 0) pe_int (fun _ _ => rfl)) (pa_cons (pe_ix (Y.ix_listK (K := K) rfl) (pv 0) pe_int (fun _ _ => rfl)) pa_nil))) (pg_sub (pv 0) pe_int set_list))))
      pss_nil)
      (pss_cons (ps_set (i := 2) sc__law_take.nd rfl (Or.inl rfl) (pe_op op_modN (pe_callTy Y.call_int1 (by rfl) (T.free 2) (by decide +kernel) (pa_cons (pe_ix (Y.ix_listK (K := K) rfl) (pv 0) pe_int (fun _ _ => rfl)) pa_nil)) (pv 1)))
      (pss_cons (ps_asg (pe_op op_fdivN (pe_ix (Y.ix_listK (K := K) rfl) (pv 0) pe_int (fun _ _ => rfl)) (pv 1)) (pg_sub (pv 0) pe_int set_list))
      (pss_one (ps_ret (pv 2))))))), ?_⟩
    walk_at "sx"
    refine g_ixM hp (k := 0) rfl rfl ?_
    walk_at "sx"
    refine g_dec (fun h2 => ?_) (fun h2 => ?_) <;> walk_at "sx"
    · refine g_ixM hp (k := 2) rfl rfl ?_
      walk_at "sx"
      refine g_setM hp (k := 2) rfl (by simp) ?_
      have n1 : Nx [a] G H G (upd H a (.lst [.int x, .ref l, .int (k + 1)])) := Nx.set e g (by simp)
      have hp1 : (upd H a (.lst [.int x, .ref l, .int (k + 1)])) a = some (.lst [.int x, .ref l, .int (k + 1)]) := upd_same
      show tSeq _ _ _ _ (upd H a (.lst [.int x, .ref l, .int (k + 1)]))
      generalize upd H a (.lst [.int x, .ref l, .int (k + 1)]) = H1 at n1 hp1 ⊢
      walk_at "sx"
      refine g_ixM hp1 (k := 1) rfl rfl ?_
      walk_at "sx"
      refine g_ixM hp1 (k := 2) rfl rfl ?_
      walk_at "sx"
      refine ⟨G, l, ns, k + 1, rfl, n1.gh, hl, by omega, fun r hr => ?_⟩
      walk_at "sx"
      refine g_setM hp1 (k := 0) rfl (by simp) ?_
      have n2 : Nx [a] G H1 G (upd H1 a (.lst [.int r, .ref l, .int (k + 1)])) := Nx.set n1.gh g (by simp)
      have hp2 : (upd H1 a (.lst [.int r, .ref l, .int (k + 1)])) a = some (.lst [.int r, .ref l, .int (k + 1)]) := upd_same
      show tNext _ _ (upd H1 a (.lst [.int r, .ref l, .int (k + 1)]))
      generalize upd H1 a (.lst [.int r, .ref l, .int (k + 1)]) = H2 at n2 hp2 ⊢
      walk_at "sx"
      refine g_ixM hp2 (k := 0) rfl rfl ?_
      walk_at "sx"
      refine g_I (by omega) ?_
      walk_at "sx"
      refine g_ixM hp2 (k := 0) rfl rfl ?_
      walk_at "sx"
      refine g_I ⟨by omega, by omega⟩ ?_
      walk_at "sx"
      refine g_setM hp2 (k := 0) rfl (by simp) ?_
      walk_at "sx"
      exact take_end n2.gh g hp2 hl hr (by omega) h0 h1 fun i H' a1 a2 n p => q i H' a1 a2 ((n1.trans n2).trans n) p
    · refine g_ixM hp (k := 0) rfl rfl ?_
      walk_at "sx"
      refine g_I (by omega) ?_
      walk_at "sx"
      refine g_ixM hp (k := 0) rfl rfl ?_
      walk_at "sx"
      refine g_I ⟨by omega, by omega⟩ ?_
      walk_at "sx"
      refine g_setM hp (k := 0) rfl (by simp) ?_
      walk_at "sx"
      exact take_end e g hp hl hx hk h0 h1 q
/-- how often the value that is told most is told -/
def topN (rs : Rws) : Nat := (rs.map fun r => cntN rs r.2).foldl max 0
theorem foldl_max {l : List Nat} {a : Nat} : a ≤ l.foldl max a ∧ (∀ x ∈ l, x ≤ l.foldl max a) ∧ (l.foldl max a = a ∨ l.foldl max a ∈ l) := by
  induction l generalizing a with
  | nil => exact ⟨Nat.le_refl _, by simp, .inl rfl⟩
  | cons x l ih =>
    obtain ⟨h1, h2, h3⟩ := ih (a := max a x)
    rw [List.foldl_cons]
    refine ⟨by omega, fun y hy => ?_, ?_⟩
    · rcases List.mem_cons.mp hy with rfl | hy
      · omega
      · exact h2 y hy
    · rcases h3 with h | h
      · by_cases z : a ≤ x
        · exact .inr (by rw [h, Nat.max_eq_right z]; simp)
        · exact .inl (by omega)
      · exact .inr (List.mem_cons_of_mem _ h)
theorem top_best {rs : Rws} {b : Int} (h : Best rs b) : cntN rs b = topN rs := by
  obtain ⟨h1, h2, h3⟩ := foldl_max (l := rs.map fun r => cntN rs r.2) (a := 0)
  obtain ⟨r, hr, e⟩ := cnt_pos.mp h.1
  have k1 := h2 (cntN rs b) (List.mem_map.mpr ⟨r, hr, by rw [e]⟩)
  have k2 : topN rs ≤ cntN rs b := by
    rcases h3 with h3 | h3
    · unfold topN; omega
    · obtain ⟨r', hr', e'⟩ := List.mem_map.mp h3
      rcases h.2 r'.2 (cnt_pos.mpr ⟨r', hr', rfl⟩) with z | z
      · unfold topN; omega
      · unfold topN; omega
  unfold topN at *
  omega
theorem top_tal {rs : Rws} {m : List (Int × Int)} (h : Tal rs m) {n : Int} (hn : n ∈ m.map (·.2)) (hx : ∀ e ∈ m, e.2 ≤ n) : n = (topN rs : Int) := by
  obtain ⟨⟨k, n'⟩, hm, rfl⟩ := List.mem_map.mp hn
  obtain ⟨h0, e⟩ := h.mem.mp hm
  simp only at e hx
  subst e
  obtain ⟨h1, h2, h3⟩ := foldl_max (l := rs.map fun r => cntN rs r.2) (a := 0)
  obtain ⟨r, hr, e⟩ := cnt_pos.mp h0
  have k1 := h2 (cntN rs k) (List.mem_map.mpr ⟨r, hr, by rw [e]⟩)
  have k2 : topN rs ≤ cntN rs k := by
    rcases h3 with h3 | h3
    · unfold topN; omega
    · obtain ⟨r', hr', e'⟩ := List.mem_map.mp h3
      have := hx (r'.2, (cntN rs r'.2 : Int)) (h.mem.mpr ⟨cnt_pos.mpr ⟨r', hr', rfl⟩, rfl⟩)
      simp only at this
      unfold topN
      omega
  unfold topN at *
  omega
def lowN (g : Grd) : List Int := g.map fun e => (e.2.length : Int) - (topN e.2 : Int)
theorem pr_ints : ∀ {xs : List V} {ns : List Int}, PySem.Paired (fun v (n : Int) => v = V.int n) xs ns → xs = ns.map V.int
  | _, _, .nil => rfl
  | _, _, .cons a r => by rw [a, pr_ints r]; rfl
/-- a ground as it is drawn -/
structure GrOk (g : Grd) : Prop where
  nd : (g.map (·.1)).Nodup
  len : g.length ≤ 1000
  row : ∀ e ∈ g, e.2 ≠ [] ∧ e.2.length ≤ 1000
theorem GrOk.at (k : GrOk g) {i : Nat} {c : Cell} (h : (g.map (·.1))[i]? = some c) : ∃ rs, g[i]? = some (c, rs) ∧ gtM g c = some rs ∧ rs ≠ [] ∧ rs.length ≤ 1000 := by
  rw [List.getElem?_map] at h
  obtain ⟨⟨c', rs⟩, h1, rfl⟩ := Option.map_eq_some_iff.mp h
  have hm := List.mem_of_getElem? h1
  exact ⟨rs, h1, mem_gtM k.nd hm, (k.row _ hm).1, (k.row _ hm).2⟩
def sp_least_cost (K : PySem.W.Frag) : Sp := fun vs H Q _ => ∃ G d g, vs = [.ref d] ∧ Y.Ex G H ∧ DtAt K d G H (grD g) ∧ GrOk g ∧ ∀ G' H', Nx [] G H G' H' → DtAt K d G' H' (grD g) → Q (.int (lowN g).sum) H'
theorem ok_least_cost (T : Tx fa fn bx K mg) : FnOk P w K mg base CX0 2 (He.ga K "least_cost") (fdOf K (He.ga K "least_cost")) ["ground"] (sp_least_cost K) := by
  refine FunD.ok (F_least_cost T) sc_least_cost (fun vs H Q E h => ?_) (fun cdv A outer s H vs Q E hr h => ?_)
  · obtain ⟨_, _, _, rfl, _⟩ := h
    rfl
  · obtain ⟨G, d, g, rfl, e, r, k, q⟩ := h
    refine ⟨_, PSs.nox ((pss_one (ps_ret (pe_callB (Y.cr_sumK (K := K) rfl rfl) (by rfl) (T.free 8) (by decide +kernel) (pa_cons (pe_lock (pe_lc (own := [("cell", 1)]) (tt := tYes) rfl sc_least_cost.nd (pi_keys (pv 0)) (blkOk_by (own := [("cell", 1)]) (by kernel_rfl)) (fun _ _ _ _ _ => (pg_name (i := 1) sc_least_cost.nd rfl (Or.inl rfl))) (fun _ _ _ _ _ => pts_nil) (fun _ _ _ _ _ => (pe_op op_sub (pe_callB (Y.call_lenK (K := K) rfl) (by rfl) (T.free 3) (by decide +kernel) (pa_cons (pe_dget (hu_of hr) (pv 0) (pv 1) (fun _ _ => rfl)) pa_nil)) (Y.pe_maxVals rfl (by rfl) (T.free 9) (Y.pe_callC (ok__tally T) (cal__tally T) (hr.mono (by decide)) (by rfl) pass0 (pa_cons (pv 0) (pa_cons (pv 1) pa_nil)))))))) pa_nil))))), ?_⟩
    walk_at "sx"
    obtain ⟨kvs, hd, gd, kc⟩ := r
    refine g_lockTE hd fun od => ?_
    obtain ⟨e1, r1⟩ := dt_lock (od := od) hd gd kc e
    walk_at "sx"
    refine g_iKeys0 ?_
    walk_at "sx"
    refine g_keysT upd_same ?_
    intro A hA
    have hAd : A ≠ d := fun z => by rw [z, upd_same] at hA; cases hA
    refine g_lcR (M := []) (R' := fun _ v (n : Int) => v = .int n) (es := fun i => (lowN g).take i) (fun _ _ _ _ _ h => h) (src_dt upd_same kc (by simp)) e1 hA (by simp) (by rw [grD_len]; exact szl (by have := k.len; omega)) rfl (fun i v acc G' H' hi ⟨c, hc, cv⟩ n hp QE QN k1 k2 => ?_) (fun G' H' n r2 => ?_)
    · rw [grD_keys] at hc
      obtain ⟨rs, hg, hgt, hne, hl⟩ := k.at hc
      refine ⟨by first | rfl | exact wipe1, ?_⟩
      walk_at "sx"
      have r2 := r1.go n (by simp)
      refine g_dtGet n.gh r2 cv (grD_some hgt) fun v2 dv2 => ?_
      walk_at "sx"
      refine g_lenT n.gh dv2 ?_
      walk_at "sx"
      refine g_maxV ?_
      walk_at "sx"
      refine ⟨G', d, v, g, c, rs, rfl, n.gh, r2, cv, hgt, hl, fun p m G3 H3 n3 hp3 hm hP => ?_⟩
      refine g_maxI (tal_int hP) (hm.ne hne) fun x h1 h2 => ?_
      walk_at "sx"
      refine k1 _ G3 H3 _ n3 rfl ?_
      have := top_tal hm h1 h2
      subst this
      unfold lowN
      rw [← List.map_take, ← List.map_take, List.take_add_one, hg, List.map_append]
      rw [List.length_map]
      rfl
    · obtain ⟨u1, u2, u3⟩ := dt_unlock hd gd kc (by simp) n
      refine ⟨u1, ?_⟩
      have r3 := r2.upd (A := d) (o := .dT kvs) hAd.symm
      rw [grD_len, List.take_of_length_le (by unfold lowN; rw [List.length_map]; exact Nat.le_refl _)] at r3
      obtain ⟨xs, hx, _, hp⟩ := r3
      have ex : xs = (lowN g).map V.int := pr_ints hp
      subst ex
      walk_at "sx"
      exact ⟨A, _, rfl, .of hx, q G' _ u2 u3⟩
def cellOf (k : Nat) : Cell := ((k : Int) % 2, (k : Int) / 2)
def valOk (x : Int) : Prop := x = 0 ∨ x = 1 ∨ x = 2 ∨ x = 5 ∨ x = -3
structure GrAt (g : Grd) (n : Nat) : Prop where
  keys : g.map (·.1) = (List.range n).map cellOf
  rows : ∀ e ∈ g, e.2 ≠ [] ∧ e.2.length ≤ 5 ∧ ∀ r ∈ e.2, valOk r.2
theorem ptM_nin {κ α : Type} [DecidableEq κ] {m : List (κ × α)} {k : κ} {a : α} (h : k ∉ m.map (·.1)) : ptM m k a = m ++ [(k, a)] := by
  unfold ptM
  rw [if_neg]
  simp only [List.any_eq_true, decide_eq_true_eq, not_exists, not_and]
  rintro p hp rfl
  exact h (List.mem_map.mpr ⟨p, hp, rfl⟩)
theorem cellOf_inj {i j : Nat} (h : cellOf i = cellOf j) : i = j := by
  have h1 := congrArg Prod.fst h
  have h2 := congrArg Prod.snd h
  simp only [cellOf] at h1 h2
  omega
theorem cdiv (i : Nat) : CDivN (i : Int) 2 := by
  first
    | exact ⟨by omega, by omega⟩
    | (show (2 : Int) ≠ 0; decide)
    | (unfold CDivN; omega)
theorem fm2 {i : Nat} : (i : Int).fmod 2 = (i : Int) % 2 := Int.fmod_eq_emod_of_nonneg _ (by decide)
theorem fd2 {i : Nat} : (i : Int).fdiv 2 = (i : Int) / 2 := Int.fdiv_eq_ediv_of_nonneg _ (by decide)
theorem str5 {j : Nat} (h : j < 5) : (j : Int).natAbs.log2 < 1920 ∧ ("v" : Str).length + (Str.ofString (toString (j : Int))).length ≤ sizeLine := by
  have : j = 0 ∨ j = 1 ∨ j = 2 ∨ j = 3 ∨ j = 4 := by omega
  rcases this with rfl | rfl | rfl | rfl | rfl <;> exact ⟨by decide +kernel, by decide +kernel⟩
def sp__law_ground (K : PySem.W.Frag) : Sp := fun vs H Q _ => ∃ G a m n, vs = [.ref a, .int m, .int n] ∧ Y.Ex G H ∧ PoolAt K a G H ∧ 1 ≤ m ∧ m ≤ 6 ∧ 1 ≤ n ∧ n ≤ 5 ∧ ∀ p g i G' H', Nx [a] G H G' H' → PoolAt K a G' H' → H p = none → DtAt K p G' H' (grD g) → GrAt g i → 1 ≤ i → (i : Int) ≤ m → Q (.ref p) H'
theorem ok__law_ground (T : Tx fa fn bx K mg) : FnOk P w K mg base CX0 3 (He.ga K "_law_ground") (fdOf K (He.ga K "_law_ground")) ["pool", "cells", "most"] (sp__law_ground K) := by
  refine FunD.ok (F__law_ground T) sc__law_ground (fun vs H Q E h => ?_) (fun cdv A outer s H vs Q E hr h => ?_)
  · obtain ⟨_, _, _, _, rfl, _⟩ := h
    rfl
  · obtain ⟨G, a, m, n, rfl, e, hp, hm1, hm2, hn1, hn2, q⟩ := h
    refine ⟨_, PSs.nox ((pss_cons (ps_set (i := 3) sc__law_ground.nd rfl (Or.inl rfl) pe_dnewT)
      (pss_cons (ps_for PassesOwn.never rfl (pi_range1 (by rfl) (T.free 14) (pa_cons (pe_op op_add pe_int (Y.pe_callC (ok__law_take T) (cal__law_take T) (hr.mono (by decide)) (by rfl) pass0 (pa_cons (pv 0) (pa_cons (pv 1) pa_nil)))) pa_nil)) (pg_name (i := 4) sc__law_ground.nd rfl (Or.inl rfl))
      (pss_cons (ps_set (i := 5) sc__law_ground.nd rfl (Or.inl rfl) (pe_lst pa_nil))
      (pss_cons (ps_for PassesOwn.never rfl (pi_range1 (by rfl) (T.free 14) (pa_cons (pe_op op_add pe_int (Y.pe_callC (ok__law_take T) (cal__law_take T) (hr.mono (by decide)) (by rfl) pass0 (pa_cons (pv 0) (pa_cons (pv 2) pa_nil)))) pa_nil)) (pg_name (i := 6) sc__law_ground.nd rfl (Or.inl rfl))
      (pss_one (ps_expr (Y.pe_bmK (K := K) rfl PySem.F.plainAttrs_list PySem.F.slot_list_append PySem.F.type_list_append mt_append (pv 5) (pa_cons (pe_tup (pa_cons (pe_op Y.op_addS pe_str (pe_callTy Y.call_strI (by rfl) (T.free 11) (by decide +kernel) (pa_cons (pv 6) pa_nil))) (pa_cons (pe_ix (Y.ix_listK (K := K) rfl) (pe_lst (pa_cons pe_int (pa_cons pe_int (pa_cons pe_int (pa_cons pe_int (pa_cons (pe_un un_neg pe_int) pa_nil)))))) (Y.pe_callC (ok__law_take T) (cal__law_take T) (hr.mono (by decide)) (by rfl) pass0 (pa_cons (pv 0) (pa_cons pe_int pa_nil))) (fun _ _ => rfl)) pa_nil))) pa_nil)))))
      (pss_one (ps_dput (hu_of hr) (pv 3) (pe_tup (pa_cons (pe_op op_modN (pv 4) pe_int) (pa_cons (pe_op op_fdivN (pv 4) pe_int) pa_nil))) (pe_callTy (Y.call_tupleK (K := K) rfl) (by rfl) (T.free 4) (by decide +kernel) (pa_cons (pv 5) pa_nil)) rfl)))))
      (pss_one (ps_ret (pv 3)))))), ?_⟩
    walk_at "sx"
    refine g_dtNew (K := K) e fun p H1 n1 hpn hD => ?_
    walk_at "sx"
    have hp1 := hp.go n1 (by simp)
    refine ⟨G, a, m, rfl, n1.gh, hp1, by omega, by omega, fun w H2 w0 w1 n2 hp2 => ?_⟩
    walk_at "sx"
    refine g_walkR (by omega) (by omega) ?_
    have hpa : p ≠ a := fun z => hp.live (z ▸ hpn)
    have hD2 := hD.go n2 (by simpa using hpa)
    refine g_forS (K := K) (M := [a, p]) (src_rng 0 _) n2.gh (fun i σ G' H' => ∃ g y4 y5 y6, σ = [some (.ref a), some (.int m), some (.int n), some (.ref p), y4, y5, y6] ∧ GrAt g i ∧ PoolAt K a G' H' ∧ DtAt K p G' H' (grD g)) ⟨[], _, _, _, rfl, ⟨rfl, by simp⟩, hp2, hD2⟩ ?_ ?_
    · rintro i z x σ' G3 H3 G4 H4 hi n3 ⟨g, y4, y5, y6, rfl, hg, hp3, hD3⟩ n4 dx
      obtain ⟨hin, rfl⟩ := rng_get hi
      cases dp_int dx
      have hp4 := hp3.go n4 (by simp)
      have hD4 := hD3.go n4 (by simp)
      walk_at "sx"
      refine g_lstLs (K := K) (L := []) n4.gh .nil (by decide) fun r H5 n5 hr hR => ?_
      walk_at "sx"
      have hra : r ≠ a := fun z => hp4.live (z ▸ hr)
      have hrp : r ≠ p := fun z => hD4.live (z ▸ hr)
      have hp5 := hp4.go n5 (by simp)
      have hD5 := hD4.go n5 (by simp)
      refine ⟨G4, a, n, rfl, n5.gh, hp5, by omega, by omega, fun w2 H6 w20 w21 n6 hp6 => ?_⟩
      walk_at "sx"
      refine g_walkR (by omega) (by omega) ?_
      have hD6 := hD5.go n6 (by simpa using hpa)
      have hR6 := hR.go n6 (by simpa using hra)
      refine g_forS (K := K) (M := [a, r]) (src_rng 0 _) n6.gh (fun i2 σ G' H' => ∃ rs z6, σ = [some (.ref a), some (.int m), some (.int n), some (.ref p), some (.int i), some (.ref r), z6] ∧ rs.length = i2 ∧ (∀ x ∈ rs, valOk x.2) ∧ PoolAt K a G' H' ∧ LstAt K r G' H' (rs.map rwD)) ⟨[], _, rfl, rfl, by simp, hp6, hR6⟩ ?_ ?_
      · rintro i2 z2 x2 σ2 G7 H7 G8 H8 hi2 n7 ⟨rs, z6, rfl, hrl, hrv, hp7, hR7⟩ n8 dx2
        obtain ⟨hin2, rfl⟩ := rng_get hi2
        cases dp_int dx2
        obtain ⟨s1, s2⟩ := str5 (j := i2) (by omega)
        walk_at "sx"
        refine g_tyLs (hR7.go n8 (by simp)) ?_
        walk_at "sx"
        refine g_strI s1 ?_
        walk_at "sx"
        refine g_addS s2 ?_
        walk_at "sx"
        refine g_lstM n8.gh (by show 5 ≤ sizeLine; decide) fun l H9 n9 hl hlst gl => ?_
        have hp9 := (hp7.go n8 (by simp)).go n9 (by simp)
        have hR9 := (hR7.go n8 (by simp)).go n9 (by simp)
        walk_at "sx"
        refine ⟨G8, a, 5, rfl, n9.gh, hp9, by decide, by decide, fun j H10 j0 j1 n10 hp10 => ?_⟩
        walk_at "sx"
        have hla : l ≠ a := fun z => by
          have := (hp7.go n8 (by simp)).live
          exact this (z ▸ hl)
        obtain ⟨x, hx, hv⟩ : ∃ x : Int, ([.int 0, .int 1, .int 2, .int 5, .int (-3)] : List V)[j.toNat]? = some (.int x) ∧ valOk x := by
          have : j.toNat = 0 ∨ j.toNat = 1 ∨ j.toNat = 2 ∨ j.toNat = 3 ∨ j.toNat = 4 := by omega
          rcases this with h | h | h | h | h <;> rw [h]
          · exact ⟨0, rfl, .inl rfl⟩
          · exact ⟨1, rfl, .inr (.inl rfl)⟩
          · exact ⟨2, rfl, .inr (.inr (.inl rfl))⟩
          · exact ⟨5, rfl, .inr (.inr (.inr (.inl rfl)))⟩
          · exact ⟨-3, rfl, .inr (.inr (.inr (.inr rfl)))⟩
        refine g_ixM (n10.fr l _ (by simpa using hla) hlst) (k := j.toNat) hx (by omega) ?_
        walk_at "sx"
        refine g_tupD (K := K) n10.gh (.cons (.str _) (.cons (.int x) .nil)) (by show 2 ≤ sizeLine; decide) fun t G11 H11 n11 d11 => ?_
        walk_at "sx"
        refine g_appLs n11.gh ((hR9.go n10 (by simpa using hra)).go n11 (by simp)) d11 (by rw [List.length_map]; omega) fun H12 n12 hR12 => ?_
        walk_at "sx"
        refine ⟨G11, ((((n7.trans n8.pure).trans n9.pure).trans (n10.mono (by simp))).trans n11.pure).trans (n12.mono (by simp)), rs ++ [(_, x)], _, rfl, by rw [List.length_append, hrl]; rfl, fun y hy => ?_, (hp10.go n11 (by simp)).go n12 (by simpa using hra.symm), by rw [List.map_append]; exact hR12⟩
        rcases List.mem_append.mp hy with hy | hy
        · exact hrv y hy
        · rw [List.mem_singleton.mp hy]; exact hv
      · rintro σ2 G7 H7 n7 ⟨rs, z6, rfl, hrl, hrv, hp7, hR7⟩
        rw [rng_len] at hrl
        obtain ⟨ys, hy, gy, dy⟩ := hR7
        walk_at "sx"
        refine g_tupOfM n7.gh hy dy fun t G8 H8 n8 d8 => ?_
        walk_at "sx"
        refine g_I (by decide) ?_
        walk_at "sx"
        refine g_I (cdiv i) ?_
        walk_at "sx"
        rw [fm2, fd2]
        refine g_cl n8.gh fun c G9 H9 n9 hc cl => ?_
        have n49 : Nx [a, p] G3 H3 G9 H9 := by
          have z : Nx [a, r] G4 H4 G9 H9 := (((n5.pure).trans (n6.mono (by simp))).trans ((n7.trans n8.pure).trans n9.pure))
          exact n4.pure.trans (z.sub fun x hx => by
            simp only [List.mem_cons, List.not_mem_nil, or_false] at hx
            rcases hx with rfl | rfl
            · exact .inl (by simp)
            · exact .inr hr)
        have n69 : Nx [a, r] G4 H6 G9 H9 := (n7.trans n8.pure).trans n9.pure
        have hD9 := hD6.go n69 (by simp [hpa, hrp.symm])
        have hgl : g.length = i := by
          have := congrArg List.length hg.keys
          simpa using this
        refine g_dtPut n9.gh hD9 cl (dp_mono n9.gg d8) (by rw [grD_len]; omega) fun H10 n10 hD10 => ?_
        have hnin : cellOf i ∉ g.map (·.1) := by
          rw [hg.keys]
          intro hm
          obtain ⟨j, hj, e2⟩ := List.mem_map.mp hm
          rw [List.mem_range] at hj
          have := cellOf_inj e2
          omega
        have e9 : ptM (grD g) (cellOf i) (rwsD rs) = grD (g ++ [(cellOf i, rs)]) := by
          rw [ptM_nin (by rw [grD_keys]; exact hnin)]
          unfold grD
          rw [List.map_append]
          rfl
        rw [show (((i : Int) % 2, (i : Int) / 2) : Cell) = cellOf i from rfl, show PyData.tuple (rs.map rwD) = rwsD rs from rfl, e9] at hD10
        refine ⟨G9, (n3.trans n49).trans (n10.mono (by simp)), g ++ [(cellOf i, rs)], _, _, _, rfl, ⟨?_, fun e he => ?_⟩, (((hp7.go n8 (by simp)).go n9 (by simp)).go n10 (by simpa using hpa.symm)), hD10⟩
        · rw [List.map_append, hg.keys, List.range_succ, List.map_append]
          rfl
        · rcases List.mem_append.mp he with he | he
          · exact hg.rows e he
          · rw [List.mem_singleton.mp he]
            exact ⟨fun z => by simp only at z; rw [z] at hrl; simp at hrl; omega, by simp only; omega, hrv⟩
    · rintro σ' G3 H3 n3 ⟨g, y4, y5, y6, rfl, hg, hp3, hD3⟩
      walk_at "sx"
      rw [rng_len] at hg
      have nn : Nx [a, p] G H G3 H3 := (n1.pure.trans (n2.mono (by simp))).trans n3
      exact q p g _ G3 H3 (nn.sub fun x hx => by
        simp only [List.mem_cons, List.not_mem_nil, or_false] at hx
        rcases hx with rfl | rfl
        · exact .inl (by simp)
        · exact .inr hpn) hp3 hpn hD3 hg (by omega) (by omega)
noncomputable def bestF (rs : Rws) : Int := Classical.epsilon (Best rs)
noncomputable def otherF (rs : Rws) : Int := Classical.epsilon (Other rs)
theorem bestF_eq {rs : Rws} {b : Int} (h : Best rs b) : bestF rs = b := Best.uniq (Classical.epsilon_spec (p := Best rs) ⟨b, h⟩) h
theorem otherF_eq {rs : Rws} {b : Int} (h : Other rs b) : otherF rs = b := Other.uniq (Classical.epsilon_spec (p := Other rs) ⟨b, h⟩) h
noncomputable def addF (rs : Rws) : Int := (costN rs (otherF rs) : Int) - (costN rs (bestF rs) : Int)
def inD (l : List (Cell × Int)) : Dt := l.map fun e => (e.1, PyData.int e.2)
noncomputable def sureF (g : Grd) (sp : Int) : List (Cell × Int) := (g.filter fun e => decide (sp < addF e.2)).map fun e => (e.1, bestF e.2)
theorem sure_take {g : Grd} {sp : Int} {i : Nat} {e : Cell × Rws} (h : g[i]? = some e) : sureF (g.take (i + 1)) sp = sureF (g.take i) sp ++ if sp < addF e.2 then [(e.1, bestF e.2)] else [] := by
  unfold sureF
  rw [List.take_add_one, h, List.filter_append, List.map_append]
  congr 1
  show List.map _ (List.filter _ [e]) = _
  by_cases hc : sp < addF e.2
  · rw [List.filter_cons_of_pos (by simpa using hc), if_pos hc]; rfl
  · rw [List.filter_cons_of_neg (by simpa using hc), if_neg hc]; rfl
theorem sure_nin {g : Grd} {sp : Int} (k : (g.map (·.1)).Nodup) {i : Nat} {e : Cell × Rws} (h : g[i]? = some e) : e.1 ∉ (inD (sureF (g.take i) sp)).map (·.1) := by
  intro hm
  unfold inD sureF at hm
  rw [List.map_map, List.map_map] at hm
  obtain ⟨e2, h2, e3⟩ := List.mem_map.mp hm
  have h4 := (List.mem_filter.mp h2).1
  obtain ⟨j, hj, e5⟩ := List.getElem_of_mem h4
  rw [List.length_take] at hj
  rw [List.getElem_take] at e5
  have hi : i < g.length := (List.getElem?_eq_some_iff.mp h).1
  have k2 := (List.getElem_inj (h₀ := by rw [List.length_map]; omega) (h₁ := by rw [List.length_map]; exact hi) k (i := j) (j := i)).mp (by
    rw [List.getElem_map, List.getElem_map, e5]
    have : g[i] = e := by
      rw [List.getElem?_eq_getElem hi] at h
      exact Option.some.inj h
    rw [this]
    exact e3)
  omega
theorem ptM_new {κ α : Type} [DecidableEq κ] {m : List (κ × α)} {k : κ} {a : α} (h : k ∉ m.map (·.1)) : ptM m k a = m ++ [(k, a)] := by
  unfold ptM
  rw [if_neg]
  simp only [List.any_eq_true, decide_eq_true_eq, not_exists, not_and]
  rintro p hp rfl
  exact h (List.mem_map.mpr ⟨p, hp, rfl⟩)
theorem sure_len {g : Grd} {sp : Int} {i : Nat} : (inD (sureF (g.take i) sp)).length ≤ i := by
  unfold inD sureF
  rw [List.length_map, List.length_map]
  have := List.length_filter_le (fun e : Cell × Rws => decide (sp < addF e.2)) (g.take i)
  rw [List.length_take] at this
  omega
theorem tb_upd {P A : Addr} {q : Str} {G H : Hp} {o : HO} (t : Y.TabAt P q G H) (h : A ≠ P) : Y.TabAt P q G (L2.upd H A o) := by
  obtain ⟨g, tab, h1, r⟩ := t
  exact ⟨g, tab, by rw [upd_ne h.symm]; exact h1, r⟩
def sp_sure (K : PySem.W.Frag) : Sp := fun vs H Q _ => ∃ G d f g, vs = [.ref d, .int f] ∧ Y.Ex G H ∧ TbAt K G H ∧ DtAt K d G H (grD g) ∧ GrOk g ∧
  (f - (lowN g).sum < 0 → ∀ G' H', Nx [] G H G' H' → Q .non H') ∧
  (0 ≤ f - (lowN g).sum → ∀ p G' H', Nx [lamP K] G H G' H' → TbAt K G' H' → DtAt K d G' H' (grD g) → H p = none → DtAt K p G' H' (inD (sureF g (f - (lowN g).sum))) → Q (.ref p) H')
abbrev Vals := List (Cell × Int)
def inDv (l : Vals) : Dt := l.map fun e => (e.1, PyData.int e.2)
def DvR (K : PySem.W.Frag) (G : Hp) (v : V) (l : Vals) : Prop := ∃ d, v = .ref d ∧ DtKn K d G (inDv l)
def PrR (K : PySem.W.Frag) (G : Hp) (v : V) (z : Int × Vals) : Prop := ∃ b d, v = .ref b ∧ G b = some (.lst [.int z.1, .ref d]) ∧ DtKn K d G (inDv z.2)
theorem dv_mono {K : PySem.W.Frag} : Mono (DvR K) := fun _ _ _ _ e ⟨d, h1, h2⟩ => ⟨d, h1, h2.go e⟩
theorem pr_monoR {K : PySem.W.Frag} : Mono (PrR K) := fun _ _ _ _ e ⟨b, d, h1, h2, h3⟩ => ⟨b, d, h1, e _ _ h2, h3.go e⟩
/-- an explanation of the first cells, and what it costs -/
def Asg (g : Grd) (l : Vals) (p : Int) : Prop := PySem.Paired (fun (e : Cell × Rws) (v : Cell × Int) => e.1 = v.1 ∧ Cand e.2 v.2) g l ∧ p = ((g.zip l).map fun z => (costN z.1.2 z.2.2 : Int)).sum
theorem prd_app {α β : Type} {R : α → β → Prop} : ∀ {as : List α} {bs : List β} {cs : List α} {ds : List β}, PySem.Paired R as bs → PySem.Paired R cs ds → PySem.Paired R (as ++ cs) (bs ++ ds)
  | _, _, _, _, .nil, h => h
  | _, _, _, _, .cons a r, h => .cons a (prd_app r h)
theorem prd_len {α β : Type} {R : α → β → Prop} : ∀ {as : List α} {bs : List β}, PySem.Paired R as bs → as.length = bs.length
  | _, _, .nil => rfl
  | _, _, .cons _ r => by rw [List.length_cons, List.length_cons, prd_len r]
theorem prd_snoc {α β : Type} {R : α → β → Prop} {a : α} : ∀ {as : List α} {bs : List β}, PySem.Paired R (as ++ [a]) bs → ∃ bs' b, bs = bs' ++ [b] ∧ PySem.Paired R as bs' ∧ R a b
  | [], [], h => by cases h
  | [], [b], .cons h .nil => ⟨[], b, rfl, .nil, h⟩
  | [], _ :: _ :: _, .cons _ h => by cases h
  | x :: as, [], h => by cases h
  | x :: as, y :: bs, .cons h r => by
    obtain ⟨bs', b, rfl, h1, h2⟩ := prd_snoc r
    exact ⟨y :: bs', b, rfl, .cons h h1, h2⟩
theorem asg_snoc {g : Grd} {c : Cell} {rs : Rws} {l' : Vals} {p' : Int} : Asg (g ++ [(c, rs)]) l' p' ↔ ∃ l p x, Asg g l p ∧ Cand rs x ∧ l' = l ++ [(c, x)] ∧ p' = p + (costN rs x : Int) := by
  constructor
  · rintro ⟨h, rfl⟩
    obtain ⟨l, b, rfl, h1, h2⟩ := prd_snoc h
    obtain ⟨c', x⟩ := b
    obtain ⟨rfl, h3⟩ := h2
    refine ⟨l, _, x, ⟨h1, rfl⟩, h3, rfl, ?_⟩
    rw [List.zip_append (prd_len h1), List.map_append, List.sum_append]
    simp
  · rintro ⟨l, p, x, ⟨h, rfl⟩, hx, rfl, rfl⟩
    refine ⟨prd_app h (.cons ⟨rfl, hx⟩ .nil), ?_⟩
    rw [List.zip_append (prd_len h), List.map_append, List.sum_append]
    simp
theorem asg_keys {g : Grd} {l : Vals} {p : Int} (h : Asg g l p) : l.map (·.1) = g.map (·.1) := by
  obtain ⟨h, h2⟩ := h
  clear h2
  induction h with
  | nil => rfl
  | cons a _ ih => rw [List.map_cons, List.map_cons, ih, a.1]
theorem asg_nn {g : Grd} {l : Vals} {p : Int} (h : Asg g l p) : 0 ≤ p := by
  obtain ⟨_, rfl⟩ := h
  generalize g.zip l = zs
  induction zs with
  | nil => simp
  | cons z zs ih => rw [List.map_cons, List.sum_cons]; omega
/-- the hashes of the cells of a ground are apart -/
theorem cells_hash {n : Nat} (h : n ≤ 6) : (((List.range n).map cellOf).map fun c => kHash (ckey c)).Nodup := by
  have : n = 0 ∨ n = 1 ∨ n = 2 ∨ n = 3 ∨ n = 4 ∨ n = 5 ∨ n = 6 := by omega
  rcases this with rfl | rfl | rfl | rfl | rfl | rfl | rfl <;> decide +kernel
theorem hnd_of {md : Dt} {n k : Nat} (hn : n ≤ 6) (h : md.map (·.1) = ((List.range n).map cellOf).take k) : HNdD md := by
  unfold HNdD
  have e : (md.map fun e => kHash (ckey e.1)) = (md.map (·.1)).map fun c => kHash (ckey c) := by rw [List.map_map]; rfl
  rw [e, h]
  exact List.Nodup.sublist ((List.take_sublist _ _).map _) (cells_hash hn)
theorem cells_nd {n : Nat} : ((List.range n).map cellOf).Nodup := List.Pairwise.map _ (fun a b (h : a ≠ b) (z : cellOf a = cellOf b) => h (cellOf_inj z)) List.nodup_range
theorem inDv_keys {l : Vals} : (inDv l).map (·.1) = l.map (·.1) := by unfold inDv; rw [List.map_map]; rfl
/-- what is found over the first cells -/
structure FndAt (g : Grd) (f : Int) (n : Nat) (F : List (Int × Vals)) : Prop where
  mem : ∀ p l, (p, l) ∈ F ↔ Asg (g.take n) l p ∧ p ≤ f
  len : F.length ≤ 6 ^ n
def extP (z : Int × Vals) (c : Cell) (rs : Rws) (x : Int) : Int × Vals := (z.1 + (costN rs x : Int), z.2 ++ [(c, x)])
structure MorAt (c : Cell) (rs : Rws) (f : Int) (Z : List (Int × Vals)) (L : List (Int × Vals)) : Prop where
  mem : ∀ y, y ∈ L ↔ ∃ z ∈ Z, ∃ x, Cand rs x ∧ y = extP z c rs x ∧ y.1 ≤ f
  len : L.length ≤ Z.length * 6
theorem fnd_next {g : Grd} {f : Int} {n : Nat} {F L : List (Int × Vals)} {c : Cell} {rs : Rws} (h : FndAt g f n F) (m : MorAt c rs f F L) (hg : g[n]? = some (c, rs)) : FndAt g f (n + 1) L := by
  refine ⟨fun p l => ?_, ?_⟩
  · rw [m.mem, List.take_add_one, hg]
    show _ ↔ Asg (g.take n ++ [(c, rs)]) l p ∧ p ≤ f
    rw [asg_snoc]
    constructor
    · rintro ⟨z, hz, x, hx, e, hp⟩
      obtain ⟨z1, z2⟩ := z
      have := (h.mem z1 z2).mp hz
      unfold extP at e
      cases e
      exact ⟨⟨z2, z1, x, this.1, hx, rfl, rfl⟩, hp⟩
    · rintro ⟨⟨l0, p0, x, ha, hx, rfl, rfl⟩, hp⟩
      exact ⟨(p0, l0), (h.mem p0 l0).mpr ⟨ha, by omega⟩, x, hx, rfl, hp⟩
  · have := m.len
    have := h.len
    rw [Nat.pow_succ]
    omega
theorem pr_make {K : PySem.W.Frag} {Gs Hs G H : Hp} {M : List Addr} {d : Addr} {l : Vals} {pd : Int} {Q : VK} (n : Nx M Gs Hs G H) (hd : Hs d = none) (r : DtAt K d G H (inDv l)) (q : ∀ p G' H', Nx M Gs Hs G' H' → Hs p = none → PrR K G' (.ref p) (pd, l) → Q (.ref p) H') : MkL [.int pd, .ref d] H Q := by
  obtain ⟨kvs, h, g, k⟩ := r
  have n1 := n.know hd h g
  refine ⟨by show 2 ≤ sizeLine; decide, fun p hp => ?_⟩
  have n2 := (Nx.own (o := .lst [.int pd, .ref d]) n1.gh hp).know hp upd_same (n1.gh.free hp)
  exact q p _ _ (n1.trans n2.pure) (n.fresh hp) ⟨p, d, rfl, upd_same, kvs, n2.gg _ _ upd_same, k.go ((Ex.new g).trans n2.gg)⟩
theorem cand_list {rs : Rws} {ts cs : List Int} {u : Int} (e : cs = ts ++ [u]) (h : ∀ x, x ∈ ts ↔ 0 < cntN rs x) (hu : Unt rs u) (x : Int) : x ∈ cs ↔ Cand rs x := by
  rw [e, List.mem_append, List.mem_singleton, h]
  constructor
  · rintro (h | h)
    · exact .inl h
    · rw [h]; exact .inr hu
  · rintro (h | h)
    · exact .inl h
    · exact .inr (h.uniq hu)
def sp__law_all (K : PySem.W.Frag) : Sp := fun vs H Q _ => ∃ G d f g n, vs = [.ref d, .int f] ∧ Y.Ex G H ∧ DtRd K d G H (grD g) ∧ GrAt g n ∧ n ≤ 6 ∧ 0 ≤ f ∧ ∀ p F G' H', Nx [] G H G' H' → H p = none → LsR (DvR K) p G' H' F → (∀ l, l ∈ F ↔ ∃ pd, Asg g l pd ∧ pd ≤ f) → F.length ≤ 46656 → Q (.ref p) H'
theorem ok__law_all (T : Tx fa fn bx K mg) : FnOk P w K mg base CX0 2 (He.ga K "_law_all") (fdOf K (He.ga K "_law_all")) ["ground", "faults"] (sp__law_all K) := by
  refine FunD.ok (F__law_all T) sc__law_all (fun vs H Q E h => ?_) (fun cdv A outer s H vs Q E hr h => ?_)
  · obtain ⟨_, _, _, _, _, rfl, _⟩ := h
    rfl
  · obtain ⟨G, d, f, g, n, rfl, e, r, hg, hn, hf, q⟩ := h
    refine ⟨_, PSs.nox ((pss_cons (ps_set (i := 2) sc__law_all.nd rfl (Or.inl rfl) (pe_lst (pa_cons (pe_lst (pa_cons pe_int (pa_cons pe_dnewT pa_nil))) pa_nil)))
      (pss_cons (ps_for PassesOwn.never rfl (Y.pi_listK (K := K) rfl (pe_callTy (Y.call_listT rfl) (by rfl) (T.free 13) (by decide +kernel) (pa_cons (pv 0) pa_nil))) (pg_name (i := 3) sc__law_all.nd rfl (Or.inl rfl))
      (pss_cons (ps_set (i := 4) sc__law_all.nd rfl (Or.inl rfl) (pe_lst pa_nil))
      (pss_cons (ps_for PassesOwn.never rfl (Y.pi_listK (K := K) rfl (pv 2)) (pg_name (i := 5) sc__law_all.nd rfl (Or.inl rfl))
      (pss_one (ps_for PassesOwn.never rfl (Y.pi_listK (K := K) rfl (Y.pe_callC (ok__law_candidates T) (cal__law_candidates T) (hr.mono (by decide)) (by rfl) pass0 (pa_cons (pv 0) (pa_cons (pv 3) pa_nil)))) (pg_name (i := 6) sc__law_all.nd rfl (Or.inl rfl))
      (pss_cons (ps_set (i := 7) sc__law_all.nd rfl (Or.inl rfl) (pe_op op_add (pe_ix (Y.ix_listK (K := K) rfl) (pv 5) pe_int (fun _ _ => rfl)) (Y.pe_callC (ok__law_cost T) (cal__law_cost T) (hr.mono (by decide)) (by rfl) pass0 (pa_cons (pv 0) (pa_cons (pv 3) (pa_cons (pv 6) pa_nil))))))
      (pss_one (ps_if (pt_cmpR op_le (pv 7) (pv 1) (nomark _))
      (pss_cons (ps_set (i := 8) sc__law_all.nd rfl (Or.inl rfl) (pe_callTy (Y.call_dictTR hr) (by rfl) (T.free 5) (by decide +kernel) (pa_cons (pe_ix (Y.ix_listK (K := K) rfl) (pv 5) pe_int (fun _ _ => rfl)) pa_nil)))
      (pss_cons (ps_dput (hu_of hr) (pv 8) (pv 3) (pv 6) rfl)
      (pss_one (ps_expr (Y.pe_bmK (K := K) rfl PySem.F.plainAttrs_list PySem.F.slot_list_append PySem.F.type_list_append mt_append (pv 4) (pa_cons (pe_lst (pa_cons (pv 7) (pa_cons (pv 8) pa_nil))) pa_nil))))))
      pss_nil))))))
      (pss_one (ps_set (i := 2) sc__law_all.nd rfl (Or.inl rfl) (pv 4))))))
      (pss_one (ps_ret (pe_lc (own := [("pair", 5)]) (tt := tYes) rfl sc__law_all.nd (Y.pi_listK (K := K) rfl (pv 2)) (blkOk_by (own := [("pair", 5)]) (by kernel_rfl)) (fun _ _ _ _ _ => (pg_name (i := 5) sc__law_all.nd rfl (Or.inl rfl))) (fun _ _ _ _ _ => pts_nil) (fun _ _ _ _ _ => (pe_ix (Y.ix_listK (K := K) rfl) (pv 5) pe_int (fun _ _ => rfl))))))))), ?_⟩
    walk_at "sx"
    refine g_dtNew (K := K) e fun d0 H1 n1 hd0 hD0 => ?_
    walk_at "sx"
    refine pr_make (K := K) (l := []) n1 hd0 hD0 fun b0 G2 H2 n2 hb0 hP0 => ?_
    walk_at "sx"
    refine g_lsrN (R := PrR K) (as := [(0, [])]) n2.gh (.cons hP0 .nil) (by show 1 ≤ 100000; decide) fun fd H3 n3 hfd hF => ?_
    walk_at "sx"
    have n03 := n2.trans n3
    have r3 := r.go n03 (by simp)
    refine g_dtList n3.gh r3 fun cd G4 H4 n4 hcd hC => ?_
    walk_at "sx"
    refine g_walkR0 hC fun vsC hvC pC => ?_
    have n04 := n03.trans n4
    have hgl : g.length = n := by
      have := congrArg List.length hg.keys
      simpa using this
    refine g_forQ (M := []) (src_lsR cl_mono hvC pC (by simp)) n4.gh (fun i σ G' H' => ∃ fd F y3 y4 y5 y6 y7 y8, σ = [some (.ref d), some (.int f), some (.ref fd), y3, y4, y5, y6, y7, y8] ∧ FndAt g f i F ∧ LsR (PrR K) fd G' H' F) ⟨fd, [(0, [])], _, _, _, _, _, _, rfl, ⟨fun p l => ?_, by decide⟩, hF.go pr_monoR n4 (by simp)⟩ ?_ ?_
    · rw [List.take_zero, List.mem_singleton]
      constructor
      · intro h
        cases h
        exact ⟨⟨.nil, rfl⟩, hf⟩
      · rintro ⟨⟨h, rfl⟩, _⟩
        cases h
        rfl
    · rintro i v σ' G5 H5 G6 H6 hi n5 ⟨fd, F, y3, y4, y5, y6, y7, y8, rfl, hFn, hF5⟩ n6 ⟨c, hc, cv⟩
      rw [grD_keys] at hc
      have hin : i < g.length := by
        have := (List.getElem?_eq_some_iff.mp hc).1
        simpa using this
      obtain ⟨rs, hgi, hgt, hrs⟩ : ∃ rs, g[i]? = some (c, rs) ∧ gtM g c = some rs ∧ rs.length ≤ 5 := by
        rw [List.getElem?_map] at hc
        obtain ⟨⟨c', rs⟩, h1, rfl⟩ := Option.map_eq_some_iff.mp hc
        have hm := List.mem_of_getElem? h1
        exact ⟨rs, h1, mem_gtM (by rw [hg.keys]; exact cells_nd) hm, (hg.rows _ hm).2.1⟩
      have n06 := (n04.trans n5).trans n6
      have r6 := r.go n06 (by simp)
      have hF6 := hF5.go pr_monoR n6 (by simp)
      walk_at "sx"
      refine g_lsrN (R := PrR K) (as := []) n6.gh .nil (by decide) fun mo H7 n7 hmo hM => ?_
      walk_at "sx"
      have hF7 := hF6.go pr_monoR n7 (by simp)
      have hmf : mo ≠ fd := fun z => hF6.live (z ▸ hmo)
      refine g_walkR0 hF7 fun vsF hvF pF => ?_
      have r7 := r6.go n7 (by simp)
      have hmd : mo ≠ d := fun z => by
        obtain ⟨_, h | ⟨_, h⟩, _⟩ := r6 <;> rw [← z, hmo] at h <;> cases h
      have hl6 : F.length ≤ 7776 := by
        have h1 := hFn.len
        have h2 : i ≤ 5 := by omega
        have h3 : 6 ^ i ≤ 6 ^ 5 := Nat.pow_le_pow_right (by decide) h2
        omega
      refine g_forQ (M := [mo]) (src_lsR pr_monoR hvF pF (by simpa using hmf.symm)) n7.gh (fun j σ G' H' => ∃ L y5 y6 y7 y8, σ = [some (.ref d), some (.int f), some (.ref fd), some v, some (.ref mo), y5, y6, y7, y8] ∧ MorAt c rs f (F.take j) L ∧ LsR (PrR K) mo G' H' L) ⟨[], _, _, _, _, rfl, ⟨fun y => by simp, by simp⟩, hM⟩ ?_ ?_
      · rintro j v2 σ2 G8 H8 G9 H9 hj n8 ⟨L, y5, y6, y7, y8, rfl, hL, hL8⟩ n9 ⟨z, hz, hzv⟩
        obtain ⟨b, dz, rfl, hb, hdz⟩ := hzv
        obtain ⟨zp, zl⟩ := z
        have hzF : (zp, zl) ∈ F := List.mem_of_getElem? hz
        have hasg := ((hFn.mem zp zl).mp hzF).1
        have hzk := asg_keys hasg
        rw [List.map_take, hg.keys] at hzk
        have hnd : HNdD (inDv zl) := hnd_of hn (by rw [inDv_keys]; exact hzk)
        have hcn : c ∉ (inDv zl).map (·.1) := by
          rw [inDv_keys, hzk, ← List.map_take, List.take_range]
          rw [hg.keys, List.getElem?_map, List.getElem?_range (by omega)] at hc
          cases hc
          intro hm
          obtain ⟨j2, hj2, e2⟩ := List.mem_map.mp hm
          rw [List.mem_range] at hj2
          have := cellOf_inj e2
          omega
        have hzlen : zl.length ≤ 6 := by
          have := congrArg List.length hzk
          rw [List.length_map, List.length_take, List.length_map, List.length_range] at this
          omega
        walk_at "sx"
        have n79 := n8.trans n9.pure
        have r9 := r7.go n79 (by simpa using hmd.symm)
        have cv9 := (cv.go n7.gg).go n79.gg
        refine ⟨G9, d, v, g, c, rs, rfl, n9.gh, r9, cv9, hgt, hrs, fun cp ts u G10 H10 n10 hcp hts _ hun htl hCs => ?_⟩
        obtain ⟨cs, ecs⟩ : ∃ cs, cs = ts ++ [u] := ⟨_, rfl⟩
        rw [← ecs] at hCs
        have hcl : cs.length ≤ 6 := by rw [ecs, List.length_append, List.length_singleton]; omega
        have hcs : ∀ x, x ∈ cs ↔ Cand rs x := cand_list ecs hts hun
        have hL10 := (hL8.go pr_monoR n9 (by simp)).go pr_monoR n10 (by simp)
        have hmc : cp ≠ mo := fun zz => (hL8.go pr_monoR n9 (by simp)).live (zz ▸ hcp)
        refine g_walkLs hCs fun S => ?_
        have hb10 := n10.gg _ _ hb
        have hdz10 := hdz.go n10.gg
        have cv10 := cv9.go n10.gg
        have r10 := r9.go n10 (by simp)
        refine g_forS (K := K) (M := [mo]) (S [mo] (by simpa using hmc)) n10.gh (fun k σ G' H' => ∃ L' y6 y7 y8, σ = [some (.ref d), some (.int f), some (.ref fd), some v, some (.ref mo), some (.ref b), y6, y7, y8] ∧ (∀ y, y ∈ L' ↔ y ∈ L ∨ ∃ x ∈ cs.take k, y = extP (zp, zl) c rs x ∧ y.1 ≤ f) ∧ L'.length ≤ L.length + k ∧ LsR (PrR K) mo G' H' L') ⟨L, _, _, _, rfl, (fun y => by simp), by omega, hL10⟩ ?_ ?_
        · rintro k zz x σ3 G11 H11 G12 H12 hk n11 ⟨L', y6, y7, y8, rfl, hL', hLl, hL11⟩ n12 dx
          rw [List.getElem?_map] at hk
          obtain ⟨x0, hx0, rfl⟩ := Option.map_eq_some_iff.mp hk
          cases dp_int dx
          have hkl : k < cs.length := (List.getElem?_eq_some_iff.mp hx0).1
          have n112 := n11.trans n12.pure
          have hlt : L'.length < 100000 := by
            have h1 := hL.len
            rw [List.length_take] at h1
            have h2 : min j F.length ≤ F.length := Nat.min_le_right ..
            omega
          have hL12 := hL11.go pr_monoR n12 (by simp)
          have r12 := r10.go n112 (by simpa using hmd.symm)
          have cv12 := cv10.go n112.gg
          have hb12 := n112.gg _ _ hb10
          have hdz12 := hdz10.go n112.gg
          walk_at "sx"
          refine g_ixM (n12.gh _ _ hb12) (k := 0) rfl rfl ?_
          walk_at "sx"
          refine ⟨G12, d, v, x0, g, c, rs, rfl, n12.gh, r12, cv12, hgt, by omega, fun G13 H13 n13 => ?_⟩
          walk_at "sx"
          have hst : cs.take (k + 1) = cs.take k ++ [x0] := by rw [List.take_add_one, hx0]; rfl
          refine g_dec (fun hle => ?_) (fun hle => ?_) <;> walk_at "sx"
          · refine g_ixM (n13.gh _ _ (n13.gg _ _ hb12)) (k := 1) rfl rfl ?_
            walk_at "sx"
            have hdz13 := hdz12.go n13.gg
            refine g_dtCopy n13.gh (hdz13.rd n13.gh) hnd fun vd H14 n14 hvd hV => ?_
            walk_at "sx"
            have cv14 := (cv12.go n13.gg).go n14.gg
            refine g_dtPut (x := .int x0) n14.gh hV cv14 (.int _) (by show (inDv zl).length < 100000; unfold inDv; rw [List.length_map]; omega) fun H15 n15 hV2 => ?_
            have eV : ptM (inDv zl) c (.int x0) = inDv (zl ++ [(c, x0)]) := by
              rw [ptM_nin hcn]
              unfold inDv
              rw [List.map_append]
              rfl
            rw [eV] at hV2
            have n135 : Nx [] G13 H13 G13 H15 := ((n14.pure (M := [vd])).trans n15).drop hvd
            have n125 := n13.trans n135
            have hL15 := hL12.go pr_monoR n125 (by simp)
            walk_at "sx"
            obtain ⟨vsM, hvM, gM, pM⟩ := id hL15
            refine g_tyL hvM ?_
            walk_at "sx"
            refine pr_make (K := K) (Gs := G12) (Hs := H12) n125 (n13.fresh hvd) hV2 fun pb G16 H16 n16 hpb hPb => ?_
            walk_at "sx"
            have hL16 := hL12.go pr_monoR n16 (by simp)
            refine g_lsrApp pr_monoR n16.gh hL16 hPb hlt fun H17 n17 hL17 => ?_
            walk_at "sx"
            refine ⟨G16, (n112.trans n16.pure).trans n17, L' ++ [(zp + (costN rs x0 : Int), zl ++ [(c, x0)])], _, _, _, rfl, fun y => ?_, by rw [List.length_append]; simp; omega, hL17⟩
            rw [List.mem_append, List.mem_singleton, hL', hst]
            constructor
            · rintro ((h | ⟨x, hx, h1, h2⟩) | rfl)
              · exact .inl h
              · exact .inr ⟨x, List.mem_append_left _ hx, h1, h2⟩
              · exact .inr ⟨x0, by simp, rfl, hle⟩
            · rintro (h | ⟨x, hx, h1, h2⟩)
              · exact .inl (.inl h)
              · rcases List.mem_append.mp hx with hx | hx
                · exact .inl (.inr ⟨x, hx, h1, h2⟩)
                · rw [List.mem_singleton.mp hx] at h1
                  exact .inr h1
          · refine ⟨G13, n112.trans n13.pure, L', _, _, _, rfl, fun y => ?_, by omega, hL12.go pr_monoR n13 (by simp)⟩
            rw [hL', hst]
            constructor
            · rintro (h | ⟨x, hx, h1, h2⟩)
              · exact .inl h
              · exact .inr ⟨x, List.mem_append_left _ hx, h1, h2⟩
            · rintro (h | ⟨x, hx, h1, h2⟩)
              · exact .inl h
              · rcases List.mem_append.mp hx with hx | hx
                · exact .inr ⟨x, hx, h1, h2⟩
                · rw [List.mem_singleton.mp hx] at h1
                  rw [h1] at h2
                  exact absurd h2 hle
        · rintro σ3 G11 H11 n11 ⟨L', y6, y7, y8, rfl, hL', hLl, hL11⟩
          rw [List.length_map] at hLl
          rw [List.length_map, List.take_length] at hL'
          walk_at "sx"
          refine ⟨G11, ((n8.trans n9.pure).trans n10.pure).trans n11, L', _, _, _, _, rfl, ⟨fun y => ?_, ?_⟩, hL11⟩
          · have htk : F.take (j + 1) = F.take j ++ [(zp, zl)] := by rw [List.take_add_one, hz]; rfl
            rw [hL', hL.mem, htk]
            constructor
            · rintro (⟨z, h1, h2⟩ | ⟨x, h1, h2, h3⟩)
              · exact ⟨z, List.mem_append_left _ h1, h2⟩
              · exact ⟨(zp, zl), by simp, x, (hcs x).mp h1, h2, h3⟩
            · rintro ⟨z, h1, x, h2, h3, h4⟩
              rcases List.mem_append.mp h1 with h1 | h1
              · exact .inl ⟨z, h1, x, h2, h3, h4⟩
              · rw [List.mem_singleton.mp h1] at h3
                exact .inr ⟨x, (hcs x).mpr h2, h3, h4⟩
          · have := hL.len
            rw [List.length_take] at this ⊢
            have : j < F.length := hj
            omega
      · rintro σ2 G8 H8 n8 ⟨L, y5, y6, y7, y8, rfl, hL, hL8⟩
        rw [List.take_length] at hL
        walk_at "sx"
        have n58 : Nx [] G5 H5 G8 H8 := by
          have z : Nx [mo] G5 H5 G8 H8 := ((n6.trans n7).pure).trans n8
          exact z.drop (n6.fresh hmo)
        exact ⟨G8, n5.trans n58, mo, L, _, _, _, _, _, _, rfl, fnd_next hFn hL hgi, hL8⟩
    · rintro σ' G5 H5 n5 ⟨fd, F, y3, y4, y5, y6, y7, y8, rfl, hFn, hF5⟩
      rw [List.length_map, grD_len, hgl] at hFn
      walk_at "sx"
      refine g_walkR0 hF5 fun vsF hvF pF => ?_
      intro A hA
      have n05 := n04.trans n5
      refine g_lcR (M := []) (R' := DvR K) (es := fun j => (F.take j).map (·.2)) dv_mono (src_lsR pr_monoR hvF pF (by simp)) n5.gh hA (by simp) ?_ rfl (fun j v2 acc G6 H6 hj ⟨z, hz, hzv⟩ n6 hp6 QE QN k1 k2 => ?_) (fun G6 H6 n6 r6 => ?_)
      · have h1 := hFn.len
        have h3 : 6 ^ n ≤ 6 ^ 6 := Nat.pow_le_pow_right (by decide) hn
        exact szl (by omega)
      · obtain ⟨b, dz, rfl, hb, hdz⟩ := hzv
        refine ⟨by first | rfl | exact wipe1, ?_⟩
        walk_at "sx"
        refine g_ixM (n6.gh _ _ hb) (k := 1) rfl rfl ?_
        refine k1 _ G6 H6 z.2 (Nx.refl n6.gh) ⟨dz, rfl, hdz⟩ ?_
        rw [List.take_add_one, hz, List.map_append]
        rfl
      · rw [List.take_length] at r6
        refine q A _ G6 H6 (n05.trans n6) (n05.fresh hA) r6 (fun l => ?_) ?_
        · rw [List.mem_map]
          have htk : g.take n = g := List.take_of_length_le (by omega)
          constructor
          · rintro ⟨⟨p, l'⟩, h1, rfl⟩
            have := (hFn.mem p l').mp h1
            rw [htk] at this
            exact ⟨p, this⟩
          · rintro ⟨p, h1⟩
            exact ⟨(p, l), (hFn.mem p l).mpr (by rw [htk]; exact h1), rfl⟩
        · rw [List.length_map]
          have h1 := hFn.len
          have h3 : 6 ^ n ≤ 6 ^ 6 := Nat.pow_le_pow_right (by decide) hn
          omega
def sp__law_drawn (K : PySem.W.Frag) : Sp := fun vs H Q _ => ∃ G a d g n, vs = [.ref a, .ref d] ∧ Y.Ex G H ∧ PoolAt K a G H ∧ DtRd K d G H (grD g) ∧ GrAt g n ∧ n ≤ 6 ∧ a ≠ d ∧ ∀ p (vl : Vals) G' H', Nx [a] G H G' H' → PoolAt K a G' H' → H p = none → vl.map (·.1) = g.map (·.1) → DtAt K p G' H' (inDv vl) → Q (.ref p) H'
theorem ok__law_drawn (T : Tx fa fn bx K mg) : FnOk P w K mg base CX0 3 (He.ga K "_law_drawn") (fdOf K (He.ga K "_law_drawn")) ["pool", "ground"] (sp__law_drawn K) := by
  refine FunD.ok (F__law_drawn T) sc__law_drawn (fun vs H Q E h => ?_) (fun cdv A outer s H vs Q E hr h => ?_)
  · obtain ⟨_, _, _, _, _, rfl, _⟩ := h
    rfl
  · obtain ⟨G, a, d, g, n, rfl, e, hp, r, hg, hn, had, q⟩ := h
    refine ⟨_, PSs.nox ((pss_cons (ps_set (i := 2) sc__law_drawn.nd rfl (Or.inl rfl) pe_dnewT)
      (pss_cons (ps_for PassesOwn.never rfl (Y.pi_listK (K := K) rfl (pe_callTy (Y.call_listT rfl) (by rfl) (T.free 13) (by decide +kernel) (pa_cons (pv 1) pa_nil))) (pg_name (i := 3) sc__law_drawn.nd rfl (Or.inl rfl))
      (pss_cons (ps_set (i := 4) sc__law_drawn.nd rfl (Or.inl rfl) (Y.pe_callC (ok__law_candidates T) (cal__law_candidates T) (hr.mono (by decide)) (by rfl) pass0 (pa_cons (pv 1) (pa_cons (pv 3) pa_nil))))
      (pss_one (ps_dput (hu_of hr) (pv 2) (pv 3) (pe_ix (Y.ix_listK (K := K) rfl) (pv 4) (pe_ix (Y.ix_listK (K := K) rfl) (pe_lst (pa_cons pe_int (pa_cons pe_int (pa_cons (Y.pe_callC (ok__law_take T) (cal__law_take T) (hr.mono (by decide)) (by rfl) pass0 (pa_cons (pv 0) (pa_cons (pe_callB (Y.call_lenK (K := K) rfl) (by rfl) (T.free 3) (by decide +kernel) (pa_cons (pv 4) pa_nil)) pa_nil))) pa_nil)))) (Y.pe_callC (ok__law_take T) (cal__law_take T) (hr.mono (by decide)) (by rfl) pass0 (pa_cons (pv 0) (pa_cons pe_int pa_nil))) (fun _ _ => rfl)) (fun _ _ => rfl)) rfl))))
      (pss_one (ps_ret (pv 2)))))), ?_⟩
    have hnd : (g.map (·.1)).Nodup := by rw [hg.keys]; exact cells_nd
    have hgn : g.length = n := by
      have := congrArg List.length hg.keys
      simpa using this
    have hda : d ∉ [a] := fun z => had (List.mem_singleton.mp z).symm
    walk_at "sx"
    refine g_dtNew (K := K) e fun dr H1 n1 hdr hDr => ?_
    walk_at "sx"
    have hp1 := hp.go n1 (by simp)
    have r1 := r.go n1 (by simp)
    have hdra : dr ≠ a := fun z => hp.live (z ▸ hdr)
    refine g_dtList n1.gh r1 fun cl G2 H2 n2 hcl hC => ?_
    rw [grD_keys] at hC
    walk_at "sx"
    have hp2 := hp1.go n2 (by simp)
    have hDr2 := hDr.go n2 (by simp)
    have hcla : cl ≠ a := fun z => hp1.live (z ▸ hcl)
    have hcldr : cl ≠ dr := fun z => hDr.live (z ▸ hcl)
    have n02 := n1.trans n2
    have r2 := r.go n02 (by simp)
    have hdrd : d ≠ dr := fun z => by
      obtain ⟨_, h | ⟨_, h⟩, _⟩ := r <;> (rw [z, hdr] at h; cases h)
    refine g_walkR0 hC fun vsC hvC pC => ?_
    refine g_forQ (M := [a, dr]) (src_lsR cl_mono hvC pC (by simp [hcla, hcldr])) n2.gh (fun i σ G' H' => ∃ y3 y4, ∃ dl : Vals, σ = [some (.ref a), some (.ref d), some (.ref dr), y3, y4] ∧ PoolAt K a G' H' ∧ dl.map (·.1) = (g.take i).map (·.1) ∧ DtAt K dr G' H' (inDv dl)) ⟨_, _, [], rfl, hp2, rfl, hDr2⟩ ?_ ?_
    · rintro i v σ' G3 H3 G4 H4 hi n3 ⟨y3, y4, dl, rfl, hp3, hdl, hDr3⟩ n4 ⟨c, hc, cv⟩
      obtain ⟨rs, hgi, hgt, hrs⟩ : ∃ rs, g[i]? = some (c, rs) ∧ gtM g c = some rs ∧ rs.length ≤ 5 := by
        rw [List.getElem?_map] at hc
        obtain ⟨⟨c', rs⟩, h1, rfl⟩ := Option.map_eq_some_iff.mp hc
        have hm := List.mem_of_getElem? h1
        exact ⟨rs, h1, mem_gtM hnd hm, (hg.rows _ hm).2.1⟩
      have hil : i < g.length := (List.getElem?_eq_some_iff.mp hgi).1
      have n24 := n3.trans n4.pure
      have r4 := r2.go n24 (by simp [had.symm, hdrd])
      have hp4 := hp3.go n4 (by simp)
      have hDr4 := hDr3.go n4 (by simp)
      walk_at "sx"
      refine ⟨G4, d, v, g, c, rs, rfl, n4.gh, r4, cv, hgt, hrs, fun cp ts u G5 H5 n5 hcp hts htn hun htl hCs => ?_⟩
      walk_at "sx"
      have hp5 := hp4.go n5 (by simp)
      have hDr5 := hDr4.go n5 (by simp)
      have hcpa : cp ≠ a := fun z => hp4.live (z ▸ hcp)
      refine g_lenLs hCs ?_
      rw [List.length_map, List.length_append, List.length_singleton]
      refine ⟨G5, a, _, rfl, n5.gh, hp5, by omega, by omega, fun j1 H6 j10 j11 n6 hp6 => ?_⟩
      walk_at "sx"
      refine g_lstM n6.gh (by show 3 ≤ sizeLine; decide) fun ll H7 n7 hll hlst gll => ?_
      walk_at "sx"
      have hp7 := hp6.go n7 (by simp)
      have hlla : ll ≠ a := fun z => hp6.live (z ▸ hll)
      refine ⟨G5, a, 3, rfl, n7.gh, hp7, by decide, by decide, fun j2 H8 j20 j21 n8 hp8 => ?_⟩
      walk_at "sx"
      obtain ⟨jj, hjj, hj0, hj1⟩ : ∃ jj : Int, ([.int 0, .int 0, .int j1] : List V)[j2.toNat]? = some (.int jj) ∧ 0 ≤ jj ∧ jj < ((ts.length + 1 : Nat) : Int) := by
        have : j2.toNat = 0 ∨ j2.toNat = 1 ∨ j2.toNat = 2 := by omega
        rcases this with h | h | h <;> rw [h]
        · exact ⟨0, rfl, by omega, by omega⟩
        · exact ⟨0, rfl, by omega, by omega⟩
        · exact ⟨j1, rfl, j10, j11⟩
      refine g_ixM (n8.fr ll _ (by simpa using hlla) hlst) (k := j2.toNat) hjj (by omega) ?_
      walk_at "sx"
      have n58 : Nx [a] G5 H5 G5 H8 := (n6.trans n7.pure).trans n8
      have hCs8 := hCs.go n58 (by simpa using hcpa)
      have hjl : jj.toNat < (ts ++ [u]).length := by rw [List.length_append, List.length_singleton]; omega
      refine g_ixLs hCs8 (k := jj.toNat) (d := .int (ts ++ [u])[jj.toNat]) (by rw [List.getElem?_map, List.getElem?_eq_getElem hjl]; rfl) (by omega) fun v2 dv2 => ?_
      cases dp_int dv2
      walk_at "sx"
      have n48 : Nx [a] G4 H4 G5 H8 := n5.pure.trans n58
      have hDr8 := hDr4.go n48 (by simpa using hdra)
      have dlen : dl.length ≤ g.length := by
        have := congrArg List.length hdl
        rw [List.length_map, List.length_map, List.length_take] at this
        omega
      refine g_dtPut (x := .int (ts ++ [u])[jj.toNat]) n8.gh hDr8 (cv.go n48.gg) (.int _) (by unfold inDv; rw [List.length_map]; omega) fun H9 n9 hDr9 => ?_
      have hnin : c ∉ (inDv dl).map (·.1) := by
        rw [inDv_keys, hdl]
        intro hcm
        obtain ⟨e2, he2, e3⟩ := List.mem_map.mp hcm
        obtain ⟨j, hj, e5⟩ := List.getElem_of_mem he2
        rw [List.length_take] at hj
        rw [List.getElem_take] at e5
        have k2 := (List.getElem_inj (h₀ := by rw [List.length_map]; omega) (h₁ := by rw [List.length_map]; exact hil) hnd (i := j) (j := i)).mp (by
          rw [List.getElem_map, List.getElem_map, e5]
          have : g[i] = (c, rs) := by
            rw [List.getElem?_eq_getElem hil] at hgi
            exact Option.some.inj hgi
          rw [this]
          exact e3)
        omega
      rw [ptM_nin hnin] at hDr9
      refine ⟨G5, (n24.trans (n48.mono fun _ z => by simp at z; simp [z])).trans (n9.mono fun _ z => by simp at z; simp [z]), _, _, dl ++ [(c, (ts ++ [u])[jj.toNat])], rfl, hp8.go n9 (by simpa using hdra.symm), ?_, ?_⟩
      · rw [List.map_append, hdl, List.take_add_one, hgi, List.map_append]
        rfl
      · have e7 : inDv (dl ++ [(c, (ts ++ [u])[jj.toNat])]) = inDv dl ++ [(c, PyData.int (ts ++ [u])[jj.toNat])] := by
          unfold inDv
          rw [List.map_append]
          rfl
        rw [e7]
        exact hDr9
    rintro σ' G3 H3 n3 ⟨y3, y4, dl, rfl, hp3, hdl, hDr3⟩
    rw [show (g.map (·.1)).length = g.length from List.length_map .., List.take_of_length_le (Nat.le_refl _)] at hdl
    walk_at "sx"
    have nn : Nx [a, dr] G H G3 H3 := n02.pure.trans n3
    exact q dr dl G3 H3 (nn.sub fun x hx => by
      simp only [List.mem_cons, List.not_mem_nil, or_false] at hx
      rcases hx with rfl | rfl
      · exact .inl (by simp)
      · exact .inr hdr) hp3 hdr hdl hDr3
def paidN (g : Grd) (vl : Vals) : List Int := g.map fun e => (costN e.2 ((gtM vl e.1).getD 0) : Int)
theorem inDv_gt3 {c : Cell} : ∀ {l : Vals}, gtM (inDv l) c = (gtM l c).map .int
  | [] => rfl
  | (k, x) :: l => by
    have ih := inDv_gt3 (c := c) (l := l)
    show gtM ((k, PyData.int x) :: inDv l) c = _
    rw [gtM_cons, gtM_cons, ih]
    by_cases h : k = c
    · rw [if_pos h, if_pos h]; rfl
    · rw [if_neg h, if_neg h]
def sp__law_explains (K : PySem.W.Frag) : Sp := fun vs H Q _ => ∃ G d f w g vl, vs = [.ref d, .int f, .ref w] ∧ Y.Ex G H ∧ DtRd K d G H (grD g) ∧ GrOk g ∧ DtRd K w G H (inDv vl) ∧ (∀ c ∈ g.map (·.1), (gtM vl c).isSome = true) ∧ ∀ G' H', Nx [] G H G' H' → Q (.bl (decide ((paidN g vl).sum ≤ f))) H'
theorem ok__law_explains (T : Tx fa fn bx K mg) : FnOk P w K mg base CX0 2 (He.ga K "_law_explains") (fdOf K (He.ga K "_law_explains")) ["ground", "faults", "values"] (sp__law_explains K) := by
  refine FunD.ok (F__law_explains T) sc__law_explains (fun vs H Q E h => ?_) (fun cdv A outer s H vs Q E hr h => ?_)
  · obtain ⟨_, _, _, _, _, _, rfl, _⟩ := h
    rfl
  · obtain ⟨G, d, f, w, g, vl, rfl, e, r, k, hw, hall, q⟩ := h
    refine ⟨_, PSs.nox ((pss_one (ps_ret (pe_cmpR op_le (pe_callB (Y.cr_sumK (K := K) rfl rfl) (by rfl) (T.free 8) (by decide +kernel) (pa_cons (pe_lc (own := [("cell", 3)]) (tt := tYes) rfl sc__law_explains.nd (Y.pi_listK (K := K) rfl (pe_callTy (Y.call_listT rfl) (by rfl) (T.free 13) (by decide +kernel) (pa_cons (pv 0) pa_nil))) (blkOk_by (own := [("cell", 3)]) (by kernel_rfl)) (fun _ _ _ _ _ => (pg_name (i := 3) sc__law_explains.nd rfl (Or.inl rfl))) (fun _ _ _ _ _ => pts_nil) (fun _ _ _ _ _ => (Y.pe_callC (ok__law_cost T) (cal__law_cost T) (hr.mono (by decide)) (by rfl) pass0 (pa_cons (pv 0) (pa_cons (pv 3) (pa_cons (pe_dget (hu_of hr) (pv 2) (pv 3) (fun _ _ => rfl)) pa_nil)))))) pa_nil)) (pv 1) (nomark _))))), ?_⟩
    walk_at "sx"
    refine g_dtList e r fun cl G1 H1 n1 hcl hC => ?_
    rw [grD_keys] at hC
    walk_at "sx"
    refine g_walkR0 hC fun vsC hvC pC => ?_
    intro A hA
    refine g_lcR (M := []) (R' := fun _ v (n : Int) => v = .int n) (es := fun i => (paidN g vl).take i) (fun _ _ _ _ _ h => h) (src_lsR cl_mono hvC pC (by simp)) n1.gh hA (by simp) (by rw [List.length_map]; exact szl (by have := k.len; omega)) rfl (fun i v acc G' H' hi ⟨c, hc, cv⟩ n hp QE QN k1 k2 => ?_) (fun G' H' n r2 => ?_)
    · obtain ⟨rs, hg, hgt, hne, hl⟩ := k.at hc
      obtain ⟨y, hy⟩ := Option.isSome_iff_exists.mp (hall c (List.mem_of_getElem? hc))
      refine ⟨by first | rfl | exact wipe1, ?_⟩
      walk_at "sx"
      have n0 := n1.trans n
      refine g_dtGet (x := .int y) n.gh (hw.go n0 (by simp)) cv (by rw [inDv_gt3, hy]; rfl) fun v2 dv2 => ?_
      cases dp_int dv2
      walk_at "sx"
      refine ⟨G', d, v, y, g, c, rs, rfl, n.gh, r.go n0 (by simp), cv, hgt, hl, fun G2 H2 n2 => ?_⟩
      refine k1 _ G2 H2 _ n2 rfl ?_
      unfold paidN
      rw [← List.map_take, ← List.map_take, List.take_add_one, hg, List.map_append]
      show _ = _ ++ [((costN rs y : Nat) : Int)]
      congr 1
      show [((costN rs ((gtM vl c).getD 0) : Nat) : Int)] = _
      rw [hy]
      rfl
    · rw [List.length_map, List.take_of_length_le (by unfold paidN; rw [List.length_map]; exact Nat.le_refl _)] at r2
      obtain ⟨xs, hx, _, hp⟩ := r2
      have ex : xs = (paidN g vl).map V.int := pr_ints hp
      subst ex
      walk_at "sx"
      refine ⟨A, _, rfl, .of hx, ?_⟩
      walk_at "sx"
      exact q G' H' (n1.trans n)
def sp__law_pool (K : PySem.W.Frag) : Sp := fun vs H Q _ => ∃ (G : Hp) (a : Addr) (ns : List Int), vs = [.ref a] ∧ Y.Ex G H ∧ SqL K G a (ns.map V.int) ∧ ∀ p G' H', Nx [] G H G' H' → H p = none → PoolAt K p G' H' → Q (.ref p) H'
theorem ok__law_pool (T : Tx fa fn bx K mg) : FnOk P w K mg base CX0 1 (He.ga K "_law_pool") (fdOf K (He.ga K "_law_pool")) ["script"] (sp__law_pool K) := by
  refine FunD.ok (F__law_pool T) sc__law_pool (fun vs H Q E h => ?_) (fun cdv A outer s H vs Q E hr h => ?_)
  · obtain ⟨_, _, _, rfl, _⟩ := h
    rfl
  · obtain ⟨G, a, ns, rfl, e, hs, q⟩ := h
    refine ⟨_, PSs.nox ((pss_one (ps_ret (pe_lst (pa_cons pe_int (pa_cons (pe_callTy (Y.call_listK (K := K) rfl) (by rfl) (T.free 13) (by decide +kernel) (pa_cons (pv 0) pa_nil)) (pa_cons (pe_un un_neg pe_int) pa_nil))))))), ?_⟩
    walk_at "sx"
    refine g_listOf e (.inl (.lst hs (dpAll_ints ns))) fun l G1 H1 n1 dl => ?_
    walk_at "sx"
    refine g_lstM (xs := [.int 0, .ref l, .int (-1)]) n1.gh (by show 3 ≤ sizeLine; decide) fun p H2 n2 np hp gp => ?_
    obtain ⟨l', vs, el, sl, dl'⟩ := dp_lst dl
    cases el
    rw [dpAll_ints_inv dl'] at sl
    exact q p G1 H2 (n1.trans n2) (n1.fresh np) ⟨gp, 0, -1, l, ns, hp, sl, by decide, by decide⟩
def sp__law_turned (K : PySem.W.Frag) : Sp := fun vs H Q _ => ∃ G w vl, vs = [.ref w] ∧ Y.Ex G H ∧ DtRd K w G H (inDv vl) ∧ (vl.map (·.1)).Nodup ∧ vl.length ≤ 1000 ∧ ∀ p G' H', Nx [] G H G' H' → H p = none → DtAt K p G' H' (inDv vl.reverse) → Q (.ref p) H'
theorem ok__law_turned (T : Tx fa fn bx K mg) : FnOk P w K mg base CX0 1 (He.ga K "_law_turned") (fdOf K (He.ga K "_law_turned")) ["row"] (sp__law_turned K) := by
  refine FunD.ok (F__law_turned T) sc__law_turned (fun vs H Q E h => ?_) (fun cdv A outer s H vs Q E hr h => ?_)
  · obtain ⟨_, _, _, rfl, _⟩ := h
    rfl
  · obtain ⟨G, w, vl, rfl, e, r, hnd, hl, q⟩ := h
    refine ⟨_, PSs.nox ((pss_cons (ps_set (i := 1) sc__law_turned.nd rfl (Or.inl rfl) pe_dnewT)
      (pss_cons (ps_for PassesOwn.never rfl (Y.pi_listK (K := K) rfl (Y.pe_listRev (K := K) rfl rfl (by rfl) (T.free 13) (by rfl) (T.free 15) (pe_callTy (Y.call_listT rfl) (by rfl) (T.free 13) (by decide +kernel) (pa_cons (pv 0) pa_nil)))) (pg_name (i := 2) sc__law_turned.nd rfl (Or.inl rfl))
      (pss_one (ps_dput (hu_of hr) (pv 1) (pv 2) (pe_dget (hu_of hr) (pv 0) (pv 2) (fun _ _ => rfl)) rfl)))
      (pss_one (ps_ret (pv 1)))))), ?_⟩
    walk_at "sx"
    refine g_dtNew (K := K) e fun dr H1 n1 hdr hDr => ?_
    walk_at "sx"
    refine g_dtList n1.gh (r.go n1 (by simp)) fun cl G2 H2 n2 hcl hC => ?_
    walk_at "sx"
    have n02 := n1.trans n2
    refine g_lrevR n2.gh hC fun rp H3 n3 hrp hR => ?_
    walk_at "sx"
    have hrd : rp ≠ dr := fun z => (hDr.go n2 (by simp)).live (z ▸ hrp)
    refine g_walkR0 hR fun vsC hvC pC => ?_
    have hkey : (inDv vl).map (·.1) = vl.map (·.1) := inDv_keys
    rw [hkey] at hR pC
    refine g_forQ (M := [dr]) (src_lsR cl_mono hvC pC (by simpa using hrd)) n3.gh (fun i σ G' H' => ∃ y2, σ = [some (.ref w), some (.ref dr), y2] ∧ DtAt K dr G' H' (inDv (vl.reverse.take i))) ⟨_, rfl, (hDr.go n2 (by simp)).go n3 (by simp)⟩ ?_ ?_
    · rintro i v σ' G4 H4 G5 H5 hi n4 ⟨y2, rfl, hDr4⟩ n5 ⟨c, hc, cv⟩
      rw [← List.map_reverse, List.getElem?_map] at hc
      obtain ⟨⟨c', x⟩, hcx, rfl⟩ := Option.map_eq_some_iff.mp hc
      have n35 := n4.trans n5.pure
      have hwd : w ∉ [dr] := fun z => by
        have z2 := List.mem_singleton.mp z
        obtain ⟨_, h | ⟨_, h⟩, _⟩ := r <;> (rw [z2, hdr] at h; cases h)
      have r5 := ((r.go n02 (by simp)).go n3 (by simp)).go n35 hwd
      have hm : (c', x) ∈ vl := List.mem_reverse.mp (List.mem_of_getElem? hcx)
      walk_at "sx"
      refine g_dtGet (x := .int x) n5.gh r5 cv (mem_gtM (by rw [hkey]; exact hnd) (List.mem_map.mpr ⟨_, hm, rfl⟩)) fun v2 dv2 => ?_
      cases dp_int dv2
      walk_at "sx"
      refine g_dtPut (x := .int x) n5.gh (hDr4.go n5 (by simp)) cv (.int _) (by unfold inDv; rw [List.length_map, List.length_take, List.length_reverse]; omega) fun H6 n6 hDr6 => ?_
      have hil : i < vl.reverse.length := (List.getElem?_eq_some_iff.mp hcx).1
      have hnr : (vl.reverse.map (·.1)).Nodup := by rw [List.map_reverse]; exact (List.reverse_perm _).nodup_iff.mpr hnd
      have hnin : c' ∉ (inDv (vl.reverse.take i)).map (·.1) := by
        rw [inDv_keys]
        intro hcm
        obtain ⟨e2, he2, e3⟩ := List.mem_map.mp hcm
        obtain ⟨j, hj, e5⟩ := List.getElem_of_mem he2
        rw [List.length_take] at hj
        rw [List.getElem_take] at e5
        have k2 := (List.getElem_inj (h₀ := by rw [List.length_map]; omega) (h₁ := by rw [List.length_map]; exact hil) hnr (i := j) (j := i)).mp (by
          rw [List.getElem_map, List.getElem_map, e5]
          have : vl.reverse[i] = (c', x) := by
            rw [List.getElem?_eq_getElem hil] at hcx
            exact Option.some.inj hcx
          rw [this]
          exact e3)
        omega
      rw [ptM_nin hnin] at hDr6
      refine ⟨G5, n35.trans n6, _, rfl, ?_⟩
      have e7 : inDv (vl.reverse.take (i + 1)) = inDv (vl.reverse.take i) ++ [(c', PyData.int x)] := by
        unfold inDv
        rw [List.take_add_one, hcx, List.map_append]
        rfl
      rw [e7]
      exact hDr6
    · rintro σ' G4 H4 n4 ⟨y2, rfl, hDr4⟩
      rw [List.length_reverse, List.length_map, ← List.length_reverse, List.take_length] at hDr4
      walk_at "sx"
      have nn : Nx [dr] G H G4 H4 := (n02.trans n3).pure.trans n4
      exact q dr G4 H4 (nn.drop hdr) hdr hDr4
theorem lam_mt0 {p1 p2 p3 p4 p5 p6 pa : Pos} {k1 : Nat} : LamMT { posonlyargs := [], args := [{ arg := "value", annotation := none, pos := pa }], vararg := none, kwonlyargs := [], kw_defaults := [], kwarg := none, defaults := [] } (.Tuple [.UnaryOp .USub (.Subscript (.Name "tally" p1) (.Name "value" p2) p3) p4, .Name "value" p5] k1 p6) { kind := .function, names := [("value", .local), ("tally", .free)], isGenerator := false, isCoroutine := false, more := [] } :=
  ⟨rfl, rfl, rfl, rfl, fun _ _ _ _ _ _ => rfl, fun _ => rfl, _, _, _, _, _, _, _, rfl⟩
/-- the value that min picks -/
def Most (m : List (Int × Int)) (k : Int) : Prop := ∃ n, (k, n) ∈ m ∧ ∀ e ∈ m, lt2 (-e.2, e.1) (-n, k) = false
def sp__most_told (K : PySem.W.Frag) : Sp := fun vs H Q _ => ∃ G p m, vs = [.ref p] ∧ Y.Ex G H ∧ TbAt K G H ∧ DctAt K p G H (talD m) ∧ m ≠ [] ∧ ∀ k G' H', Nx [lamP K] G H G' H' → TbAt K G' H' → Most m k → Q (.int k) H'
theorem ok__most_told (T : Tx fa fn bx K mg) (TB : LamX.TabB base mg (lamC K) (lamP K)) : FnOk P w K mg base CX0 1 (He.ga K "_most_told") (fdOf K (He.ga K "_most_told")) ["tally"] (sp__most_told K) := by
  refine Y.okC (p := ("_most_told", none)) (F__most_told T) sc__most_told (fun vs H Q E h => ?_) (fun A outer s H vs Q E hr h => ?_)
  · obtain ⟨_, _, _, rfl, _⟩ := h
    rfl
  · obtain ⟨G, p, m, rfl, e, t, r, hm, q⟩ := h
    refine ⟨_, PSs.nox ((pss_one (ps_ret (Y.pe_minMT (i := 0) hr (by rfl) (T.free 7) (by exact lam_mt0) TB rfl rfl rfl (.inr (.inl rfl)) (pa_cons (pv 0) pa_nil))))), ?_⟩
    walk_at "sx"
    refine g_minMT e t rfl (tal_int r) hm fun k n G1 H1 n1 t1 h1 h2 => ?_
    walk_at "sx"
    exact q k G1 H1 n1 t1 ⟨n, h1, h2⟩
def sp_best (K : PySem.W.Frag) : Sp := fun vs H Q _ => ∃ G d y g c rs, vs = [.ref d, y] ∧ Y.Ex G H ∧ TbAt K G H ∧ DtRd K d G H (grD g) ∧ Cl G y c ∧ gtM g c = some rs ∧ rs.length ≤ 1000 ∧ rs ≠ [] ∧ ∀ b G' H', Nx [lamP K] G H G' H' → TbAt K G' H' → Best rs b → Q (.int b) H'
theorem most_best {rs : Rws} {m : List (Int × Int)} (h : Tal rs m) {k : Int} (hm : Most m k) : Best rs k := by
  obtain ⟨n, h1, h2⟩ := hm
  exact h.best h1 h2
theorem ok_best (T : Tx fa fn bx K mg) (TB : LamX.TabB base mg (lamC K) (lamP K)) : FnOk P w K mg base CX0 2 (He.ga K "best") (fdOf K (He.ga K "best")) ["ground", "cell"] (sp_best K) := by
  refine FunD.ok (F_best T) sc_best (fun vs H Q E h => ?_) (fun cdv A outer s H vs Q E hr h => ?_)
  · obtain ⟨_, _, _, _, _, _, rfl, _⟩ := h
    rfl
  · obtain ⟨G, d, y, g, c, rs, rfl, e, t, r, hy, hg, hl, hne, q⟩ := h
    refine ⟨_, PSs.nox ((pss_one (ps_ret (Y.pe_callC (ok__most_told T TB) (cal__most_told T) (hr.mono (by decide)) (by rfl) pass0 (pa_cons (Y.pe_callC (ok__tally T) (cal__tally T) (hr.mono (by decide)) (by rfl) pass0 (pa_cons (pv 0) (pa_cons (pv 1) pa_nil))) pa_nil))))), ?_⟩
    walk_at "sx"
    refine ⟨G, d, y, g, c, rs, rfl, e, r, hy, hg, hl, fun p m G1 H1 n1 hp hm hP => ?_⟩
    walk_at "sx"
    refine ⟨G1, p, m, rfl, n1.gh, t.go n1 (by simp), hP, hm.ne hne, fun k G2 H2 n2 t2 hk => ?_⟩
    walk_at "sx"
    exact q k G2 H2 (n1.pure.trans n2) t2 (most_best hm hk)
def sp_cost (K : PySem.W.Frag) : Sp := fun vs H Q _ => ∃ G d y x g c rs, vs = [.ref d, y, .int x] ∧ Y.Ex G H ∧ DtRd K d G H (grD g) ∧ Cl G y c ∧ gtM g c = some rs ∧ rs.length ≤ 1000 ∧ ∀ G' H', Nx [] G H G' H' → Q (.int (costN rs x : Int)) H'
theorem ok_cost (T : Tx fa fn bx K mg) : FnOk P w K mg base CX0 1 (He.ga K "cost") (fdOf K (He.ga K "cost")) ["ground", "cell", "value"] (sp_cost K) := by
  refine FunD.ok (F_cost T) sc_cost (fun vs H Q E h => ?_) (fun cdv A outer s H vs Q E hr h => ?_)
  · obtain ⟨_, _, _, _, _, _, _, rfl, _⟩ := h
    rfl
  · obtain ⟨G, d, y, x, g, c, rs, rfl, e, r, hy, hg, hl, q⟩ := h
    refine ⟨_, PSs.nox ((pss_one (ps_ret (pe_callB (Y.call_lenK (K := K) rfl) (by rfl) (T.free 3) (by decide +kernel) (pa_cons (pe_lc (own := [("_", 3), ("told", 4)]) rfl sc_cost.nd (Y.pi_tupK (K := K) rfl (pe_dget (hu_of hr) (pv 0) (pv 1) (fun _ _ => rfl))) (blkOk_by (own := [("_", 3), ("told", 4)]) (by kernel_rfl)) (fun _ _ _ _ _ => (Y.pg_tupK (K := K) (n := 2) rfl rfl (pgs_cons (pg_name (i := 3) sc_cost.nd rfl (Or.inl rfl)) (pgs_cons (pg_name (i := 4) sc_cost.nd rfl (Or.inl rfl)) pgs_nil)))) (fun _ _ _ _ _ => (pts_one (pt_cmpR op_ne (pv 4) (pv 2) (nomark _)))) (fun _ _ _ _ _ => (pv 4))) pa_nil))))), ?_⟩
    walk_at "sx"
    refine g_dtGet e r hy (grD_some hg) fun v dv => ?_
    walk_at "sx"
    refine g_walkT e dv fun t et S => ?_
    intro A hA
    refine g_lcPS (K := K) (M := []) (es := fun i => ((rs.take i).filter fun r => decide (r.2 ≠ x)).map fun r => .int r.2) (S []) e hA (by simp) (by rw [List.length_map]; exact szl (by omega)) (by simp) (fun i d1 v1 acc G1 H1 hi dv1 n1 _ QE QN k1 k2 => ?_) fun G1 H1 n1 hL => ?_
    · rw [List.getElem?_map] at hi
      obtain ⟨r0, hr0, rfl⟩ := Option.map_eq_some_iff.mp hi
      refine g_un2 n1.gh dv1 fun u1 u2 e1 e2 => ?_
      cases dp_int e2
      refine ⟨wipe2, ?_⟩
      walk_at "sx"
      have hes : (rs.take (i + 1)).filter (fun r => decide (r.2 ≠ x)) = (rs.take i).filter (fun r => decide (r.2 ≠ x)) ++ if r0.2 ≠ x then [r0] else [] := by
        rw [List.take_add_one, hr0, List.filter_append]
        congr 1
        show List.filter _ [r0] = _
        by_cases h : r0.2 ≠ x
        · rw [List.filter_cons_of_pos (by simpa using h), if_pos h]; rfl
        · rw [List.filter_cons_of_neg (by simpa using h), if_neg h]; rfl
      refine g_ndec (fun h => ?_) (fun h => ?_) <;> walk_at "sx"
      · refine k1 _ G1 H1 (.int r0.2) (Nx.refl n1.gh) (.int _) ?_
        rw [hes, if_pos h, List.map_append]
        rfl
      · refine k2 G1 H1 (Nx.refl n1.gh) ?_
        rw [hes, if_neg (by simpa using h), List.append_nil]
    · rw [List.length_map, List.take_length] at hL
      walk_at "sx"
      refine g_lenLs hL ?_
      rw [List.length_map]
      exact q G1 H1 n1
def sp_other (K : PySem.W.Frag) : Sp := fun vs H Q _ => ∃ G d y g c rs, vs = [.ref d, y] ∧ Y.Ex G H ∧ TbAt K G H ∧ DtRd K d G H (grD g) ∧ Cl G y c ∧ gtM g c = some rs ∧ rs.length ≤ 1000 ∧ rs ≠ [] ∧ ∀ b G' H', Nx [lamP K] G H G' H' → TbAt K G' H' → Other rs b → Q (.int b) H'
theorem ok_other (T : Tx fa fn bx K mg) (TB : LamX.TabB base mg (lamC K) (lamP K)) : FnOk P w K mg base CX0 3 (He.ga K "other") (fdOf K (He.ga K "other")) ["ground", "cell"] (sp_other K) := by
  refine FunD.ok (F_other T) sc_other (fun vs H Q E h => ?_) (fun cdv A outer s H vs Q E hr h => ?_)
  · obtain ⟨_, _, _, _, _, _, rfl, _⟩ := h
    rfl
  · obtain ⟨G, d, y, g, c, rs, rfl, e, t, r, hy, hg, hl, hne, q⟩ := h
    refine ⟨_, PSs.nox ((pss_cons (ps_set (i := 2) sc_other.nd rfl (Or.inl rfl) (Y.pe_callC (ok__tally T) (cal__tally T) (hr.mono (by decide)) (by rfl) pass0 (pa_cons (pv 0) (pa_cons (pv 1) pa_nil))))
      (pss_cons (ps_dput (hu_of hr) (pv 2) (Y.pe_callC (ok__least_untold T) (cal__least_untold T) (hr.mono (by decide)) (by rfl) pass0 (pa_cons (pv 2) pa_nil)) pe_int rfl)
      (pss_cons (ps_ddel (pv 2) (Y.pe_callC (ok_best T TB) (cal_best T) (hr.mono (by decide)) (by rfl) pass0 (pa_cons (pv 0) (pa_cons (pv 1) pa_nil))))
      (pss_one (ps_ret (Y.pe_callC (ok__most_told T TB) (cal__most_told T) (hr.mono (by decide)) (by rfl) pass0 (pa_cons (pv 2) pa_nil)))))))), ?_⟩
    walk_at "sx"
    refine ⟨G, d, y, g, c, rs, rfl, e, r, hy, hg, hl, fun p m G1 H1 n1 hp hm hP => ?_⟩
    walk_at "sx"
    refine ⟨G1, p, m, rs, rfl, n1.gh, hP, hm, fun u G2 H2 n2 hu => ?_⟩
    walk_at "sx"
    refine g_dcPut (dx := .int 0) n2.gh (hP.go n2 (by simp)) (k := Sum.inl u) rfl (.int _) (by rw [talD_len]; have := hm.len; omega) fun H3 n3 hP3 => ?_
    walk_at "sx"
    have n13 : Nx [p] G1 H1 G2 H3 := n2.pure.trans n3
    have n03 : Nx [] G H G2 H3 := (n1.pure.trans n13).drop hp
    refine ⟨G2, d, y, g, c, rs, rfl, n3.gh, t.go n03 (by simp), r.go n03 (by simp), hy.go n03.gg, hg, hl, hne, fun b G4 H4 n4 t4 hb => ?_⟩
    walk_at "sx"
    rw [talD_pt] at hP3
    have hpL : p ≠ lamP K := (t.go n03 (by simp)).neD hP3
    have hb2 : gtM (ptM m u 0) b = some (cntN rs b : Int) := by
      rw [gtM_ptM, if_neg (fun z : u = b => by have := hu.2.1; have := hb.1; rw [z] at *; omega), hm.gt, if_neg (by have := hb.1; omega)]
    refine g_dctDel n4.gh (hP3.go n4 (fun z => hpL (List.mem_singleton.mp z))) (k := Sum.inl b) rfl (by rw [talD_gt, hb2]; rfl) fun H5 n5 hP5 => ?_
    rw [talD_drop] at hP5
    walk_at "sx"
    have nA : Nx [p, lamP K] G H G4 H5 := ((n03.pure).trans (n4.mono fun _ z => List.mem_cons_of_mem _ z)).trans (n5.mono (by simp))
    have nB : Nx [lamP K] G H G4 H5 := nA.sub fun x hx => by
      rcases List.mem_cons.mp hx with rfl | hx
      · exact .inr hp
      · exact .inl hx
    have hm2 := hm.two hu hb
    have t5 : TbAt K G4 H5 := t4.go n5 (by simpa using fun z => hpL z.symm)
    refine ⟨G4, p, _, rfl, n5.gh, t5, hP5, fun z => ?_, fun k G6 H6 n6 t6 hk => ?_⟩
    · have h1 := hm2.gt u
      rw [z, if_neg (by have := hu.2.1; have := hb.1; rintro (rfl | h) <;> omega)] at h1
      cases h1
    · walk_at "sx"
      obtain ⟨nn, h1, h2⟩ := hk
      exact q k G6 H6 (nB.trans n6) t6 (hm2.other hu hb h1 h2)
def sp__added_cost (K : PySem.W.Frag) : Sp := fun vs H Q _ => ∃ G d y g c rs, vs = [.ref d, y] ∧ Y.Ex G H ∧ TbAt K G H ∧ DtRd K d G H (grD g) ∧ Cl G y c ∧ gtM g c = some rs ∧ rs.length ≤ 1000 ∧ rs ≠ [] ∧ ∀ o b G' H', Nx [lamP K] G H G' H' → TbAt K G' H' → Other rs o → Best rs b → Q (.int ((costN rs o : Int) - (costN rs b : Int))) H'
theorem ok__added_cost (T : Tx fa fn bx K mg) (TB : LamX.TabB base mg (lamC K) (lamP K)) : FnOk P w K mg base CX0 4 (He.ga K "_added_cost") (fdOf K (He.ga K "_added_cost")) ["ground", "cell"] (sp__added_cost K) := by
  refine FunD.ok (F__added_cost T) sc__added_cost (fun vs H Q E h => ?_) (fun cdv A outer s H vs Q E hr h => ?_)
  · obtain ⟨_, _, _, _, _, _, rfl, _⟩ := h
    rfl
  · obtain ⟨G, d, y, g, c, rs, rfl, e, t, r, hy, hg, hl, hne, q⟩ := h
    refine ⟨_, PSs.nox ((pss_one (ps_ret (pe_op op_sub (Y.pe_callC (ok_cost T) (cal_cost T) (hr.mono (by decide)) (by rfl) pass0 (pa_cons (pv 0) (pa_cons (pv 1) (pa_cons (Y.pe_callC (ok_other T TB) (cal_other T) (hr.mono (by decide)) (by rfl) pass0 (pa_cons (pv 0) (pa_cons (pv 1) pa_nil))) pa_nil)))) (Y.pe_callC (ok_cost T) (cal_cost T) (hr.mono (by decide)) (by rfl) pass0 (pa_cons (pv 0) (pa_cons (pv 1) (pa_cons (Y.pe_callC (ok_best T TB) (cal_best T) (hr.mono (by decide)) (by rfl) pass0 (pa_cons (pv 0) (pa_cons (pv 1) pa_nil))) pa_nil)))))))), ?_⟩
    have hd : d ∉ [lamP K] := fun z => t.neT r (List.mem_singleton.mp z)
    walk_at "sx"
    refine ⟨G, d, y, g, c, rs, rfl, e, t, r, hy, hg, hl, hne, fun o G1 H1 n1 t1 ho => ?_⟩
    walk_at "sx"
    have r1 := r.go n1 hd
    refine ⟨G1, d, y, o, g, c, rs, rfl, n1.gh, r1, hy.go n1.gg, hg, hl, fun G2 H2 n2 => ?_⟩
    walk_at "sx"
    have r2 := r1.go n2 (by simp)
    refine ⟨G2, d, y, g, c, rs, rfl, n2.gh, t1.go n2 (by simp), r2, (hy.go n1.gg).go n2.gg, hg, hl, hne, fun b G3 H3 n3 t3 hb => ?_⟩
    walk_at "sx"
    have r3 := r2.go n3 hd
    refine ⟨G3, d, y, b, g, c, rs, rfl, n3.gh, r3, ((hy.go n1.gg).go n2.gg).go n3.gg, hg, hl, fun G4 H4 n4 => ?_⟩
    walk_at "sx"
    exact q o b G4 H4 (((n1.trans n2.pure).trans n3).trans n4.pure) (t3.go n4 (by simp)) ho hb
/-! ### what is sure, by all explanations -/
theorem pick {cnt : Int → Nat} : ∀ {l : List Int}, l ≠ [] → ∃ b ∈ l, ∀ x ∈ l, cnt x < cnt b ∨ cnt x = cnt b ∧ b ≤ x
  | [a], _ => ⟨a, by simp, fun x hx => by rw [List.mem_singleton.mp hx]; exact .inr ⟨rfl, Int.le_refl _⟩⟩
  | a :: c :: l, _ => by
    obtain ⟨b, hb, h⟩ := pick (cnt := cnt) (l := c :: l) (by simp)
    by_cases z : cnt a < cnt b ∨ cnt a = cnt b ∧ b ≤ a
    · refine ⟨b, List.mem_cons_of_mem _ hb, fun x hx => ?_⟩
      rcases List.mem_cons.mp hx with rfl | hx
      · exact z
      · exact h x hx
    · refine ⟨a, by simp, fun x hx => ?_⟩
      rcases List.mem_cons.mp hx with rfl | hx
      · exact .inr ⟨rfl, Int.le_refl _⟩
      · rcases h x hx with k | k <;> omega
theorem best_ex {rs : Rws} (h : rs ≠ []) : ∃ b, Best rs b := by
  obtain ⟨b, hb, hx⟩ := pick (cnt := cntN rs) (l := rs.map (·.2)) (by simpa using h)
  obtain ⟨r, hr, e⟩ := List.mem_map.mp hb
  refine ⟨b, cnt_pos.mpr ⟨r, hr, e⟩, fun x hx2 => ?_⟩
  obtain ⟨r2, hr2, e2⟩ := cnt_pos.mp hx2
  exact hx x (List.mem_map.mpr ⟨r2, hr2, e2⟩)
theorem least_ex {P : Nat → Prop} : ∀ n, P n → ∃ m, P m ∧ ∀ k, k < m → ¬ P k := by
  intro n
  induction n using Nat.strongRecOn with
  | ind n ih =>
    intro hn
    by_cases h : ∃ k, k < n ∧ P k
    · obtain ⟨k, h1, h2⟩ := h
      exact ih k h1 h2
    · exact ⟨n, hn, fun k hk hP => h ⟨k, hk, hP⟩⟩
theorem unt_ex {rs : Rws} : ∃ u, Unt rs u := by
  have : ∃ n : Nat, cntN rs n = 0 := by
    apply Classical.byContradiction
    intro hc
    have := unt_rows (rs := rs) (v := rs.length + 1) fun w h1 h2 => by
      obtain ⟨w, rfl⟩ := Int.eq_ofNat_of_zero_le h1
      have : cntN rs (w : Int) ≠ 0 := fun z => hc ⟨w, z⟩
      omega
    omega
  obtain ⟨n, hn⟩ := this
  obtain ⟨m, h1, h2⟩ := least_ex (P := fun n : Nat => cntN rs n = 0) n hn
  refine ⟨m, by omega, h1, fun v v0 v1 => ?_⟩
  obtain ⟨v, rfl⟩ := Int.eq_ofNat_of_zero_le v0
  have : cntN rs (v : Int) ≠ 0 := h2 v (by omega)
  omega
theorem other_ex {rs : Rws} (h : rs ≠ []) : ∃ o, Other rs o := by
  obtain ⟨b, hb⟩ := best_ex h
  obtain ⟨u, hu⟩ := unt_ex (rs := rs)
  have hub : u ≠ b := fun z => by have := hu.2.1; have := hb.1; rw [z] at *; omega
  have hm : ∀ x, x ∈ (u :: rs.map (·.2)).filter (fun x => decide (x ≠ b)) ↔ x ≠ b ∧ (0 < cntN rs x ∨ x = u) := fun x => by
    rw [List.mem_filter, List.mem_cons, decide_eq_true_eq, cnt_pos, List.mem_map]
    constructor
    · rintro ⟨h1 | h1, h2⟩
      · exact ⟨h2, .inr h1⟩
      · exact ⟨h2, .inl h1⟩
    · rintro ⟨h1, h2 | h2⟩
      · exact ⟨.inr h2, h1⟩
      · exact ⟨.inl h2, h1⟩
  obtain ⟨o, ho, hx⟩ := pick (cnt := cntN rs) (l := (u :: rs.map (·.2)).filter fun x => decide (x ≠ b)) (fun z => by
    have := (hm u).mpr ⟨hub, .inr rfl⟩
    rw [z] at this
    cases this)
  have ho2 := (hm o).mp ho
  exact ⟨o, u, b, hu, hb, ho2.1, ho2.2, fun x h1 h2 => hx x ((hm x).mpr ⟨h1, h2⟩)⟩
theorem best_sp {rs : Rws} (h : rs ≠ []) : Best rs (bestF rs) := Classical.epsilon_spec (best_ex h)
theorem other_sp {rs : Rws} (h : rs ≠ []) : Other rs (otherF rs) := Classical.epsilon_spec (other_ex h)
def lowC (rs : Rws) : Int := (rs.length : Int) - (topN rs : Int)
theorem low_best {rs : Rws} (h : rs ≠ []) : lowC rs = (costN rs (bestF rs) : Int) := by
  have h1 := top_best (best_sp h)
  have h2 := cost_cnt (rs := rs) (x := bestF rs)
  unfold lowC
  omega
theorem cand_best {rs : Rws} (h : rs ≠ []) : Cand rs (bestF rs) := .inl (best_sp h).1
theorem cand_other {rs : Rws} (h : rs ≠ []) : Cand rs (otherF rs) := by
  obtain ⟨u, b, hu, _, _, h1 | h1, _⟩ := other_sp h
  · exact .inl h1
  · exact .inr (h1 ▸ hu)
theorem other_ne {rs : Rws} (h : rs ≠ []) : otherF rs ≠ bestF rs := by
  obtain ⟨u, b, hu, hb, h0, _⟩ := other_sp h
  rw [bestF_eq hb]
  exact h0
theorem cost_low {rs : Rws} (h : rs ≠ []) {x : Int} (hx : Cand rs x) : lowC rs ≤ (costN rs x : Int) := by
  rw [low_best h]
  have b := best_sp h
  have h1 := cost_cnt (rs := rs) (x := bestF rs)
  have h2 := cost_cnt (rs := rs) (x := x)
  rcases hx with hx | hx
  · rcases b.2 x hx with k | k <;> omega
  · have := hx.2.1
    omega
theorem cost_add {rs : Rws} (h : rs ≠ []) {x : Int} (hx : Cand rs x) (hne : x ≠ bestF rs) : lowC rs + addF rs ≤ (costN rs x : Int) := by
  rw [low_best h]
  obtain ⟨u, b, hu, hb, h0, h1, h2⟩ := other_sp h
  have eb := bestF_eq hb
  have k1 := cost_cnt (rs := rs) (x := otherF rs)
  have k2 := cost_cnt (rs := rs) (x := x)
  have k3 : 0 < cntN rs x ∨ x = u := by
    rcases hx with hx | hx
    · exact .inl hx
    · exact .inr (hx.uniq hu)
  unfold addF
  rcases h2 x (fun z => hne (z.trans eb.symm)) k3 with k | k <;> omega
theorem cost_other {rs : Rws} (h : rs ≠ []) : (costN rs (otherF rs) : Int) = lowC rs + addF rs := by
  rw [low_best h]
  unfold addF
  omega
theorem lowN_eq {g : Grd} : lowN g = g.map fun e => lowC e.2 := rfl
theorem asg_cons {e : Cell × Rws} {g : Grd} {l' : Vals} {p' : Int} : Asg (e :: g) l' p' ↔ ∃ l p x, Asg g l p ∧ Cand e.2 x ∧ l' = (e.1, x) :: l ∧ p' = (costN e.2 x : Int) + p := by
  constructor
  · rintro ⟨h, rfl⟩
    cases h with
    | cons h1 h2 =>
      rename_i b l
      obtain ⟨c, x⟩ := b
      obtain ⟨rfl, h3⟩ := h1
      refine ⟨l, _, x, ⟨h2, rfl⟩, h3, rfl, ?_⟩
      rw [List.zip_cons_cons, List.map_cons, List.sum_cons]
  · rintro ⟨l, p, x, ⟨h, rfl⟩, hx, rfl, rfl⟩
    refine ⟨.cons ⟨rfl, hx⟩ h, ?_⟩
    rw [List.zip_cons_cons, List.map_cons, List.sum_cons]
theorem asg_low : ∀ {g : Grd} {l : Vals} {p : Int}, (∀ e ∈ g, e.2 ≠ []) → Asg g l p → (lowN g).sum ≤ p
  | [], l, p, _, h => by
    obtain ⟨_, rfl⟩ := h
    simp [lowN]
  | e :: g, l, p, hr, h => by
    obtain ⟨l', p', x, h1, h2, rfl, rfl⟩ := asg_cons.mp h
    have := asg_low (fun e' he' => hr e' (List.mem_cons_of_mem _ he')) h1
    have h3 := cost_low (hr e (by simp)) h2
    rw [lowN_eq] at this ⊢
    rw [List.map_cons, List.sum_cons]
    omega
noncomputable def bestL (g : Grd) : Vals := g.map fun e => (e.1, bestF e.2)
theorem asg_best : ∀ {g : Grd}, (∀ e ∈ g, e.2 ≠ []) → Asg g (bestL g) (lowN g).sum
  | [], _ => ⟨.nil, rfl⟩
  | e :: g, hr => by
    have ih := asg_best (g := g) fun e' he' => hr e' (List.mem_cons_of_mem _ he')
    refine asg_cons.mpr ⟨_, _, bestF e.2, ih, cand_best (hr e (by simp)), rfl, ?_⟩
    rw [lowN_eq, lowN_eq, List.map_cons, List.sum_cons, low_best (hr e (by simp))]
/-- the value at a cell, in an explanation: another one than the best costs more -/
theorem asg_at : ∀ {g : Grd} {l : Vals} {p : Int} {c : Cell} {rs : Rws}, (g.map (·.1)).Nodup → (∀ e ∈ g, e.2 ≠ []) → Asg g l p → (c, rs) ∈ g → ∃ x, gtM l c = some x ∧ Cand rs x ∧ (x ≠ bestF rs → (lowN g).sum + addF rs ≤ p)
  | [], _, _, _, _, _, _, _, h => by cases h
  | e :: g, l, p, c, rs, hn, hr, h, hm => by
    obtain ⟨l', p', x, h1, h2, rfl, rfl⟩ := asg_cons.mp h
    rw [List.map_cons, List.nodup_cons] at hn
    have hr2 : ∀ e ∈ g, e.2 ≠ [] := fun e' he' => hr e' (List.mem_cons_of_mem _ he')
    rw [lowN_eq, List.map_cons, List.sum_cons, ← lowN_eq]
    rw [gtM_cons]
    rcases List.mem_cons.mp hm with rfl | hm
    · refine ⟨x, by rw [if_pos rfl], h2, fun hx => ?_⟩
      have := cost_add (hr _ (by simp)) h2 hx
      have := asg_low hr2 h1
      simp only at *
      omega
    · obtain ⟨y, h3, h4, h5⟩ := asg_at hn.2 hr2 h1 hm
      refine ⟨y, ?_, h4, fun hy => ?_⟩
      · rw [if_neg (fun z : e.1 = c => hn.1 (List.mem_map.mpr ⟨_, hm, z.symm⟩))]
        exact h3
      · have := h5 hy
        have := cost_low (hr e (by simp)) h2
        omega
/-- the explanation with the other value at one cell -/
theorem asg_other : ∀ {g : Grd} {c : Cell} {rs : Rws}, (g.map (·.1)).Nodup → (∀ e ∈ g, e.2 ≠ []) → (c, rs) ∈ g → ∃ l, Asg g l ((lowN g).sum + addF rs) ∧ gtM l c = some (otherF rs)
  | [], _, _, _, _, h => by cases h
  | e :: g, c, rs, hn, hr, hm => by
    rw [List.map_cons, List.nodup_cons] at hn
    have hr2 : ∀ e ∈ g, e.2 ≠ [] := fun e' he' => hr e' (List.mem_cons_of_mem _ he')
    rw [lowN_eq, List.map_cons, List.sum_cons, ← lowN_eq]
    rcases List.mem_cons.mp hm with rfl | hm
    · refine ⟨_, asg_cons.mpr ⟨_, _, otherF rs, asg_best hr2, cand_other (hr _ (by simp)), rfl, ?_⟩, ?_⟩
      · have := cost_other (hr (c, rs) (by simp))
        simp only at *
        omega
      · rw [gtM_cons, if_pos rfl]
    · obtain ⟨l, h1, h2⟩ := asg_other hn.2 hr2 hm
      refine ⟨_, asg_cons.mpr ⟨l, _, bestF e.2, h1, cand_best (hr e (by simp)), rfl, ?_⟩, ?_⟩
      · rw [low_best (hr e (by simp))]
        omega
      · rw [gtM_cons, if_neg (fun z : e.1 = c => hn.1 (List.mem_map.mpr ⟨_, hm, z.symm⟩))]
        exact h2
theorem best_gt {g : Grd} (hn : (g.map (·.1)).Nodup) {c : Cell} {rs : Rws} (hm : (c, rs) ∈ g) : gtM (bestL g) c = some (bestF rs) := by
  refine mem_gtM ?_ (List.mem_map.mpr ⟨_, hm, rfl⟩)
  unfold bestL
  rw [List.map_map]
  exact hn
/-- all explanations -/
structure AllF (g : Grd) (f : Int) (F : List Vals) : Prop where
  nd : (g.map (·.1)).Nodup
  row : ∀ e ∈ g, e.2 ≠ []
  mem : ∀ l, l ∈ F ↔ ∃ pd, Asg g l pd ∧ pd ≤ f
theorem AllF.none {g : Grd} {f : Int} {F : List Vals} (h : AllF g f F) : F = [] ↔ f - (lowN g).sum < 0 := by
  constructor
  · intro z
    apply Classical.byContradiction
    intro hc
    have := (h.mem (bestL g)).mpr ⟨_, asg_best h.row, by omega⟩
    rw [z] at this
    cases this
  · intro z
    cases F with
    | nil => rfl
    | cons l F =>
      obtain ⟨pd, h1, h2⟩ := (h.mem l).mp (by simp)
      have := asg_low h.row h1
      omega
def valsAt (F : List Vals) (c : Cell) : List Int := F.map fun l => (gtM l c).getD 0
theorem AllF.at {g : Grd} {f : Int} {F : List Vals} (h : AllF g f F) {c : Cell} {rs : Rws} (hm : (c, rs) ∈ g) {l : Vals} (hl : l ∈ F) : ∃ x, gtM l c = some x := by
  obtain ⟨pd, h1, h2⟩ := (h.mem l).mp hl
  obtain ⟨x, h3, _⟩ := asg_at h.nd h.row h1 hm
  exact ⟨x, h3⟩
theorem AllF.sure {g : Grd} {f : Int} {F : List Vals} (h : AllF g f F) {c : Cell} {rs : Rws} (hm : (c, rs) ∈ g) {v : Int} (hv : v ∈ valsAt F c) :
    ((∀ x ∈ valsAt F c, x = v) ↔ f - (lowN g).sum < addF rs) ∧ ((∀ x ∈ valsAt F c, x = v) → v = bestF rs) := by
  have hF : ¬ f - (lowN g).sum < 0 := fun z => by
    rw [h.none.mpr z] at hv
    cases hv
  have hb : bestF rs ∈ valsAt F c := List.mem_map.mpr ⟨bestL g, (h.mem _).mpr ⟨_, asg_best h.row, by omega⟩, by rw [best_gt h.nd hm]; rfl⟩
  have hall : f - (lowN g).sum < addF rs → ∀ x ∈ valsAt F c, x = bestF rs := fun z x hx => by
    obtain ⟨l, hl, rfl⟩ := List.mem_map.mp hx
    obtain ⟨pd, h1, h2⟩ := (h.mem l).mp hl
    obtain ⟨x, h3, h4, h5⟩ := asg_at h.nd h.row h1 hm
    rw [h3]
    apply Classical.byContradiction
    intro hc
    have := h5 hc
    omega
  refine ⟨⟨fun z => ?_, fun z x hx => (hall z x hx).trans (hall z v hv).symm⟩, fun z => (z _ hb).symm⟩
  apply Classical.byContradiction
  intro hc
  obtain ⟨l, h1, h2⟩ := asg_other h.nd h.row hm
  have h3 : otherF rs ∈ valsAt F c := List.mem_map.mpr ⟨l, (h.mem l).mpr ⟨_, h1, by omega⟩, by rw [h2]; rfl⟩
  exact other_ne (h.row _ hm) ((z _ h3).trans (z _ hb).symm)
def sp_is_sure (K : PySem.W.Frag) : Sp := fun vs H Q _ => ∃ G d f y g c rs, vs = [.ref d, .int f, y] ∧ Y.Ex G H ∧ TbAt K G H ∧ DtAt K d G H (grD g) ∧ GrOk g ∧ Cl G y c ∧ gtM g c = some rs ∧ ∀ G' H', Nx [lamP K] G H G' H' → TbAt K G' H' → DtAt K d G' H' (grD g) → Q (.bl (decide (0 ≤ f - (lowN g).sum ∧ f - (lowN g).sum < addF rs))) H'
theorem ok_is_sure (T : Tx fa fn bx K mg) (TB : LamX.TabB base mg (lamC K) (lamP K)) : FnOk P w K mg base CX0 5 (He.ga K "is_sure") (fdOf K (He.ga K "is_sure")) ["ground", "faults", "cell"] (sp_is_sure K) := by
  refine FunD.ok (F_is_sure T) sc_is_sure (fun vs H Q E h => ?_) (fun cdv A outer s H vs Q E hr h => ?_)
  · obtain ⟨_, _, _, _, _, _, _, rfl, _⟩ := h
    rfl
  · obtain ⟨G, d, f, y, g, c, rs, rfl, e, t, r, k, hy, hg, q⟩ := h
    refine ⟨_, PSs.nox ((pss_one (ps_ret (pe_chain op_le op_lt pe_int (pe_op op_sub (pv 1) (Y.pe_callC (ok_least_cost T) (cal_least_cost T) (hr.mono (by decide)) (by rfl) pass0 (pa_cons (pv 0) pa_nil))) (Y.pe_callC (ok__added_cost T TB) (cal__added_cost T) (hr.mono (by decide)) (by rfl) pass0 (pa_cons (pv 0) (pa_cons (pv 2) pa_nil))))))), ?_⟩
    have hd : d ∉ [lamP K] := fun z => t.neT r.rd (List.mem_singleton.mp z)
    have hm := gtM_mem hg
    have hro := k.row _ hm
    walk_at "sx"
    refine ⟨G, d, g, rfl, e, r, k, fun G1 H1 n1 r1 => ?_⟩
    have t1 := t.go n1 (by simp)
    walk_at "sx"
    refine g_dec (fun h0 => ?_) (fun h0 => ?_) <;> walk_at "sx"
    · refine ⟨G1, d, y, g, c, rs, rfl, n1.gh, t1, r1.rd, hy.go n1.gg, hg, hro.2, hro.1, fun o b G2 H2 n2 t2 ho hb => ?_⟩
      walk_at "sx"
      have hadd : addF rs = (costN rs o : Int) - (costN rs b : Int) := by unfold addF; rw [otherF_eq ho, bestF_eq hb]
      rw [← hadd]
      have := q G2 H2 (n1.pure.trans n2) t2 (r1.go n2 hd)
      have e1 : decide (0 ≤ f - (lowN g).sum ∧ f - (lowN g).sum < addF rs) = decide (f - (lowN g).sum < addF rs) := decide_eq_decide.mpr ⟨fun h => h.2, fun h => ⟨h0, h⟩⟩
      rw [e1] at this
      exact this
    · have := q G1 H1 n1.pure t1 r1
      rw [decide_eq_false (fun h => h0 h.1)] at this
      exact this
theorem ok_Misused___init__ (T : Tx fa fn bx K mg) : FnOk P w K mg base CX0 1 (He.ma K (He.ga K "Misused") "__init__") (fdOf K (He.ma K (He.ga K "Misused") "__init__")) ["self", "why"] (spXi (He.ga K "Misused") "why") := by
  refine FunD.ok (F_Misused___init__ T) sc_Misused___init__ (fun vs H Q E h => ?_) (fun cdv A outer s H vs Q E hr h => ?_)
  · obtain ⟨_, _, rfl, _⟩ := h
    rfl
  · obtain ⟨a, v, rfl, ha, q⟩ := h
    refine ⟨_, PSs.nox ((pss_one (ps_ost (pv 0) (pv 1)))), ?_⟩
    exact ⟨_, rfl, _, rfl, a, _, rfl, (ex_Misused T).oex, (ex_Misused T).no, .inl ⟨ha, fun dx hd hne => q dx hd hne⟩⟩
noncomputable def plainF (g : Grd) : List (Cell × Int) := g.map fun e => (e.1, bestF e.2)
def sp_plain_ground (K : PySem.W.Frag) : Sp := fun vs H Q _ => ∃ G d g, vs = [.ref d] ∧ Y.Ex G H ∧ TbAt K G H ∧ DtAt K d G H (grD g) ∧ GrOk g ∧
  ∀ p G' H', Nx [lamP K] G H G' H' → TbAt K G' H' → DtAt K d G' H' (grD g) → H p = none → DtAt K p G' H' (inD (plainF g)) → Q (.ref p) H'
theorem ok_plain_ground (T : Tx fa fn bx K mg) (TB : LamX.TabB base mg (lamC K) (lamP K)) : FnOk P w K mg base CX0 3 (He.ga K "plain_ground") (fdOf K (He.ga K "plain_ground")) ["ground"] (sp_plain_ground K) := by
  refine FunD.ok (F_plain_ground T) sc_plain_ground (fun vs H Q E h => ?_) (fun cdv A outer s H vs Q E hr h => ?_)
  · obtain ⟨_, _, _, rfl, _⟩ := h
    rfl
  · obtain ⟨G, d, g, rfl, e, t, r, k, q2⟩ := h
    refine ⟨_, PSs.nox ((pss_one (ps_ret (pe_lock (Y.pe_dcTR hr (own := [("cell", 1)]) (tt := tYes) rfl sc_plain_ground.nd (pi_keys (pv 0)) (blkOk_by (own := [("cell", 1)]) (by kernel_rfl)) (fun _ _ _ _ _ => (pg_name (i := 1) sc_plain_ground.nd rfl (Or.inl rfl))) (fun _ _ _ _ _ => pts_nil) (fun _ _ _ _ _ => (pv 1)) (fun _ _ _ _ _ => (Y.pe_callC (ok_best T TB) (cal_best T) (hr.mono (by decide)) (by rfl) pass0 (pa_cons (pv 0) (pa_cons (pv 1) pa_nil))))))))), ?_⟩
    walk_at "sx"
    have hdP : d ≠ lamP K := t.neT r.rd
    obtain ⟨kvs, hd, gd, kc⟩ := r
    refine g_lockTE hd fun od => ?_
    obtain ⟨e1, r2⟩ := dt_lock (od := od) hd gd kc e
    have t2 : TbAt K G (L2.upd H d (.frz od (.dT kvs))) := tb_upd t hdP
    refine g_dcT ?_
    refine g_iKeys0 ?_
    walk_at "sx"
    refine g_keysT upd_same ?_
    intro A hA
    have hAd : A ≠ d := fun z => by rw [z, upd_same] at hA; cases hA
    have hAP : A ≠ lamP K := fun z => t2.live (z ▸ hA)
    have hlen : ∀ i, (inD (plainF (g.take i))).length ≤ i := fun i => by unfold inD plainF; rw [List.length_map, List.length_map, List.length_take]; omega
    refine g_dcTP (K := K) (M := [lamP K]) (es := fun i => inD (plainF (g.take i))) (src_dt upd_same kc (fun z => hdP (List.mem_singleton.mp z))) e1 hA (fun b hb => by rw [List.mem_singleton.mp hb]; exact t2.live) (by rw [grD_len]; have := k.len; omega) rfl hlen
      (fun i G' H' => TbAt K G' H') (fun i G' H' o z => tb_upd z hAP) (fun i G' H' G1 H1 n z => z.go n (by simp)) t2 (fun i v G' H' hi ⟨c, hc, cv⟩ n tb QE QN k1 k2 => ?_) (fun G' H' n tb r3 => ?_)
    · rw [grD_keys] at hc
      obtain ⟨rs, hg, hgt, hne, hl⟩ := k.at hc
      refine ⟨by first | rfl | exact wipe1, ?_⟩
      walk_at "sx"
      have r3 := r2.go n (fun z => hdP (List.mem_singleton.mp z))
      refine ⟨G', d, v, g, c, rs, rfl, n.gh, tb, r3, cv, hgt, hl, hne, fun b' G4 H4 n4 t4 hb' => ?_⟩
      walk_at "sx"
      refine k1 _ _ c (.int b') G4 H4 n4 t4 (cv.go n4.gg) (.int _) ?_
      have hnin : c ∉ (inD (plainF (g.take i))).map (·.1) := by
        intro hm
        have h2 := sure_nin (sp := -1000000) k.nd hg
        unfold inD plainF at hm
        rw [List.map_map, List.map_map] at hm
        obtain ⟨e2, he2, e3⟩ := List.mem_map.mp hm
        have h4 := he2
        obtain ⟨j, hj, e5⟩ := List.getElem_of_mem h4
        rw [List.length_take] at hj
        rw [List.getElem_take] at e5
        have hi2 : i < g.length := (List.getElem?_eq_some_iff.mp hg).1
        have k2 := (List.getElem_inj (h₀ := by rw [List.length_map]; omega) (h₁ := by rw [List.length_map]; exact hi2) k.nd (i := j) (j := i)).mp (by
          rw [List.getElem_map, List.getElem_map, e5]
          have : g[i] = (c, rs) := by
            rw [List.getElem?_eq_getElem hi2] at hg
            exact Option.some.inj hg
          rw [this]
          exact e3)
        omega
      rw [ptM_new hnin]
      unfold inD plainF
      rw [List.take_add_one, hg, List.map_append, List.map_append, ← bestF_eq hb']
      rfl
    · obtain ⟨u1, u2, u3⟩ := dt_unlock hd gd kc (fun z => hdP (List.mem_singleton.mp z)) n
      refine ⟨u1, ?_⟩
      have r4 := r3.upd (A := d) (o := .dT kvs) hAd.symm
      rw [grD_len, List.take_of_length_le (Nat.le_refl _)] at r4
      have hA1 : H A = none := by rw [upd_ne hAd] at hA; exact hA
      exact q2 A G' _ u2 (tb_upd tb hdP) u3 hA1 r4
theorem inD_pt {l : List (Cell × Int)} {c : Cell} {x : Int} : ptM (inD l) c (.int x) = inD (ptM l c x) := by
  unfold ptM inD
  rw [List.any_map]
  have e2 : (l.any ((fun p => decide (p.1 = c)) ∘ fun e : Cell × Int => (e.1, PyData.int e.2))) = l.any fun p => decide (p.1 = c) := rfl
  rw [e2]
  split
  · rw [List.map_map, List.map_map]
    refine List.map_congr_left fun e _ => ?_
    show (if e.1 = c then (e.1, PyData.int x) else (e.1, PyData.int e.2)) = ((if e.1 = c then (e.1, x) else e).1, PyData.int (if e.1 = c then (e.1, x) else e).2)
    by_cases h : e.1 = c
    · rw [if_pos h, if_pos h]
    · rw [if_neg h, if_neg h]
  · rw [List.map_append]
    rfl
def sp_two_grounds (K : PySem.W.Frag) : Sp := fun vs H Q E => ∃ G d f y g c rs, vs = [.ref d, .int f, y] ∧ Y.Ex G H ∧ TbAt K G H ∧ DtAt K d G H (grD g) ∧ GrOk g ∧ Cl G y c ∧ gtM g c = some rs ∧
  (f < (lowN g).sum → RaX (He.ga K "Misused") "why" (.str "none") G H E) ∧
  (0 ≤ f - (lowN g).sum → f - (lowN g).sum < addF rs → ∀ G1 H1, Nx [lamP K] G H G1 H1 → TbAt K G1 H1 → DtAt K d G1 H1 (grD g) → RaX (He.ga K "Misused") "why" (.str "sure") G1 H1 E) ∧
  (0 ≤ f - (lowN g).sum → ¬ f - (lowN g).sum < addF rs → ∀ t a b G' H', Nx [lamP K] G H G' H' → TbAt K G' H' → DtAt K d G' H' (grD g) → H a = none → H b = none → a ≠ b → SqT K G' t [.ref a, .ref b] → DtAt K a G' H' (inD (plainF g)) → DtAt K b G' H' (inD (ptM (plainF g) c (otherF rs))) → Q (.ref t) H')
theorem ok_two_grounds (T : Tx fa fn bx K mg) (TB : LamX.TabB base mg (lamC K) (lamP K)) : FnOk P w K mg base (L2.CX P w) 6 (He.ga K "two_grounds") (fdOf K (He.ga K "two_grounds")) ["ground", "faults", "cell"] (sp_two_grounds K) := by
  refine FunD.ok (F_two_grounds T) sc_two_grounds (fun vs H Q E h => ?_) (fun cdv A outer s H vs Q E hr h => ?_)
  · obtain ⟨_, _, _, _, _, _, _, rfl, _⟩ := h
    rfl
  · obtain ⟨G, d, f, y, g, c, rs, rfl, e, t, r, k, hy, hg, q1, q2, q3⟩ := h
    refine ⟨_, ((pss_cons (ps_if (pt_cmpR op_gt (Y.pe_callC (ok_least_cost T) (cal_least_cost T) (hr.mono (by decide)) (by rfl) pass0 (pa_cons (pv 0) pa_nil)) (pv 1) (nomark _))
      (pss_one (Y.ps_raiseI (ex_Misused T) (T.glo 10) (ok_Misused___init__ T) (cal_Misused___init__ T).b (hr.mono (by decide)) (by rfl) rfl (takes_ofL (takesL_of (takes_of rfl rfl rfl rfl))) (by exact (pa_cons pe_str pa_nil))))
      pss_nil)
      (pss_cons (ps_if (pt_val (Y.pe_callC (ok_is_sure T TB) (cal_is_sure T) (hr.mono (by decide)) (by rfl) pass0 (pa_cons (pv 0) (pa_cons (pv 1) (pa_cons (pv 2) pa_nil)))))
      (pss_one (Y.ps_raiseI (ex_Misused T) (T.glo 10) (ok_Misused___init__ T) (cal_Misused___init__ T).b (hr.mono (by decide)) (by rfl) rfl (takes_ofL (takesL_of (takes_of rfl rfl rfl rfl))) (by exact (pa_cons pe_str pa_nil))))
      pss_nil)
      (pss_cons (ps_set (i := 3) sc_two_grounds.nd rfl (Or.inl rfl) (Y.pe_callC (ok_plain_ground T TB) (cal_plain_ground T) (hr.mono (by decide)) (by rfl) pass0 (pa_cons (pv 0) pa_nil)))
      (pss_cons (ps_dput (hu_of hr) (pv 3) (pv 2) (Y.pe_callC (ok_other T TB) (cal_other T) (hr.mono (by decide)) (by rfl) pass0 (pa_cons (pv 0) (pa_cons (pv 2) pa_nil))) rfl)
      (pss_one (ps_ret (pe_tup (pa_cons (Y.pe_callC (ok_plain_ground T TB) (cal_plain_ground T) (hr.mono (by decide)) (by rfl) pass0 (pa_cons (pv 0) pa_nil)) (pa_cons (pv 3) pa_nil)))))))))), ?_⟩
    have hd : d ∉ [lamP K] := fun z => t.neT r.rd (List.mem_singleton.mp z)
    have hm := gtM_mem hg
    have hro := k.row _ hm
    walk_at "sx"
    refine ⟨G, d, g, rfl, e, r, k, fun G1 H1 n1 r1 => ?_⟩
    have t1 := t.go n1 (by simp)
    walk_at "sx"
    refine g_dec (fun h1 => ?_) (fun h1 => ?_) <;> walk_at "sx"
    · exact ⟨_, rfl, fun dd hdd => (q1 (by omega)).go n1 hdd⟩
    refine ⟨G1, d, f, y, g, c, rs, rfl, n1.gh, t1, r1, k, hy.go n1.gg, hg, fun G2 H2 n2 t2 r2 => ?_⟩
    refine ⟨_, rfl, ?_⟩
    have h0 : 0 ≤ f - (lowN g).sum := by omega
    refine g_dec (fun h2 => ?_) (fun h2 => ?_) <;> walk_at "sx"
    · exact ⟨_, rfl, fun dd hdd => (q2 h0 h2.2 G2 H2 (n1.pure.trans n2) t2 r2).go (Nx.refl n2.gh) hdd⟩
    have h3 : ¬ f - (lowN g).sum < addF rs := fun z => h2 ⟨h0, z⟩
    refine ⟨G2, d, g, rfl, n2.gh, t2, r2, k, fun b G3 H3 n3 t3 r3 hb hB => ?_⟩
    walk_at "sx"
    have cy3 := ((hy.go n1.gg).go n2.gg).go n3.gg
    refine ⟨G3, d, y, g, c, rs, rfl, n3.gh, t3, r3.rd, cy3, hg, hro.2, hro.1, fun o G4 H4 n4 t4 ho => ?_⟩
    have hbP : b ∉ [lamP K] := fun z => t3.neT hB.rd (List.mem_singleton.mp z)
    have hbd : b ≠ d := fun z => r2.live (z ▸ hb)
    have hB4 := hB.go n4 hbP
    have r4 := r3.go n4 hd
    walk_at "sx"
    refine g_dtPut (x := .int o) n4.gh hB4 (cy3.go n4.gg) (.int _) (by unfold inD plainF; rw [List.length_map, List.length_map]; have := k.len; omega) fun H5 n5 hB5 => ?_
    rw [inD_pt, ← otherF_eq ho] at hB5
    walk_at "sx"
    have t5 : TbAt K G4 H5 := t4.go n5 (fun z => hbP (List.mem_singleton.mpr (List.mem_singleton.mp z).symm))
    have r5 := r4.go n5 (by simpa using hbd.symm)
    refine ⟨G4, d, g, rfl, n5.gh, t5, r5, k, fun a G6 H6 n6 t6 r6 ha hA => ?_⟩
    walk_at "sx"
    have hB6 := hB5.go n6 hbP
    have hab : a ≠ b := fun z => hB5.live (z ▸ ha)
    have n25 : Nx [lamP K] G2 H2 G4 H5 := ((n3.mono (M' := [b, lamP K]) fun _ z => List.mem_cons_of_mem _ z).trans (n4.mono fun _ z => List.mem_cons_of_mem _ z) |>.trans (n5.mono fun b z => by simp at z; simp [z])).drop hb
    have n05 : Nx [lamP K] G H G4 H5 := (n1.pure.trans n2).trans n25
    refine g_tupRaw (K := K) n6.gh (by show 2 ≤ sizeLine; decide) fun tt G7 H7 n7 htt hT => ?_
    exact q3 h0 h3 tt a b G7 H7 ((n05.trans n6).trans n7.pure) (t6.go n7 (by simp)) (r6.go n7 (by simp)) (n05.fresh ha) ((n1.pure.trans n2).fresh hb) hab hT (hA.go n7 (by simp)) (hB6.go n7 (by simp))
def sp_cell_paper (K : PySem.W.Frag) : Sp := fun vs H Q E => ∃ G d f y g c rs, vs = [.ref d, .int f, y] ∧ Y.Ex G H ∧ TbAt K G H ∧ DtAt K d G H (grD g) ∧ GrOk g ∧ Cl G y c ∧ gtM g c = some rs ∧
  (f < (lowN g).sum → ∀ t G' H', Nx [lamP K] G H G' H' → TbAt K G' H' → DtAt K d G' H' (grD g) → SqT K G' t [.str "none"] → Q (.ref t) H') ∧
  (0 ≤ f - (lowN g).sum → f - (lowN g).sum < addF rs → ∀ t G' H', Nx [lamP K] G H G' H' → TbAt K G' H' → DtAt K d G' H' (grD g) → SqT K G' t [.str "sure", y, .int (bestF rs)] → Q (.ref t) H') ∧
  (0 ≤ f - (lowN g).sum → ¬ f - (lowN g).sum < addF rs → ∀ t a b G' H', Nx [lamP K] G H G' H' → TbAt K G' H' → DtAt K d G' H' (grD g) → H a = none → H b = none → a ≠ b → SqT K G' t [.str "open", y, .ref a, .ref b] → DtAt K a G' H' (inD (plainF g)) → DtAt K b G' H' (inD (ptM (plainF g) c (otherF rs))) → Q (.ref t) H')
theorem ok_cell_paper (T : Tx fa fn bx K mg) (TB : LamX.TabB base mg (lamC K) (lamP K)) : FnOk P w K mg base (L2.CX P w) 7 (He.ga K "cell_paper") (fdOf K (He.ga K "cell_paper")) ["ground", "faults", "cell"] (sp_cell_paper K) := by
  refine FunD.ok (F_cell_paper T) sc_cell_paper (fun vs H Q E h => ?_) (fun cdv A outer s H vs Q E hr h => ?_)
  · obtain ⟨_, _, _, _, _, _, _, rfl, _⟩ := h
    rfl
  · obtain ⟨G, d, f, y, g, c, rs, rfl, e, t, r, k, hy, hg, q1, q2, q3⟩ := h
    refine ⟨_, ((pss_cons (ps_if (pt_cmpR op_gt (Y.pe_callC (ok_least_cost T) (cal_least_cost T) (hr.mono (by decide)) (by rfl) pass0 (pa_cons (pv 0) pa_nil)) (pv 1) (nomark _))
      (pss_one (ps_ret (pe_tup (pa_cons pe_str pa_nil))))
      pss_nil)
      (pss_cons (ps_if (pt_val (Y.pe_callC (ok_is_sure T TB) (cal_is_sure T) (hr.mono (by decide)) (by rfl) pass0 (pa_cons (pv 0) (pa_cons (pv 1) (pa_cons (pv 2) pa_nil)))))
      (pss_one (ps_ret (pe_tup (pa_cons pe_str (pa_cons (pv 2) (pa_cons (Y.pe_callC (ok_best T TB) (cal_best T) (hr.mono (by decide)) (by rfl) pass0 (pa_cons (pv 0) (pa_cons (pv 2) pa_nil))) pa_nil))))))
      pss_nil)
      (pss_one (ps_ret (pe_op (Y.op_catAK (K := K) rfl) (pe_tup (pa_cons pe_str (pa_cons (pv 2) pa_nil))) (Y.pe_callC (ok_two_grounds T TB) (cal_two_grounds T) (hr.mono (by decide)) (by rfl) (passL (takesL_of (takes_of rfl rfl rfl rfl))) (pa_cons (pv 0) (pa_cons (pv 1) (pa_cons (pv 2) pa_nil)))))))))), ?_⟩
    have hd : d ∉ [lamP K] := fun z => t.neT r.rd (List.mem_singleton.mp z)
    have hm := gtM_mem hg
    have hro := k.row _ hm
    walk_at "sx"
    refine ⟨G, d, g, rfl, e, r, k, fun G1 H1 n1 r1 => ?_⟩
    have t1 := t.go n1 (by simp)
    walk_at "sx"
    refine g_dec (fun h1 => ?_) (fun h1 => ?_) <;> walk_at "sx"
    · refine g_tupRaw (K := K) n1.gh (by show 1 ≤ sizeLine; decide) fun tt G2 H2 n2 htt hT => ?_
      exact q1 (by omega) tt G2 H2 (n1.trans n2).pure (t1.go n2 (by simp)) (r1.go n2 (by simp)) hT
    refine ⟨G1, d, f, y, g, c, rs, rfl, n1.gh, t1, r1, k, hy.go n1.gg, hg, fun G2 H2 n2 t2 r2 => ?_⟩
    refine ⟨_, rfl, ?_⟩
    have h0 : 0 ≤ f - (lowN g).sum := by omega
    refine g_dec (fun h2 => ?_) (fun h2 => ?_) <;> walk_at "sx"
    · have cy2 := (hy.go n1.gg).go n2.gg
      refine ⟨G2, d, y, g, c, rs, rfl, n2.gh, t2, r2.rd, cy2, hg, hro.2, hro.1, fun b G3 H3 n3 t3 hb => ?_⟩
      walk_at "sx"
      refine g_tupRaw (K := K) n3.gh (by show 3 ≤ sizeLine; decide) fun tt G4 H4 n4 htt hT => ?_
      rw [← bestF_eq hb] at hT
      exact q2 h0 h2.2 tt G4 H4 (((n1.pure.trans n2).trans n3).trans n4.pure) (t3.go n4 (by simp)) ((r2.go n3 hd).go n4 (by simp)) hT
    · have h3 : ¬ f - (lowN g).sum < addF rs := fun z => h2 ⟨h0, z⟩
      refine g_tupRaw (K := K) n2.gh (by show 2 ≤ sizeLine; decide) fun t0 G3 H3 n3 ht0 hT0 => ?_
      walk_at "sx"
      have cy3 := ((hy.go n1.gg).go n2.gg).go n3.gg
      have n03 : Nx [lamP K] G H G3 H3 := (n1.pure.trans n2).trans n3.pure
      refine ⟨G3, d, f, y, g, c, rs, rfl, n3.gh, t2.go n3 (by simp), r2.go n3 (by simp), k, cy3, hg, fun z => absurd z (by omega), fun _ z => absurd z h3, fun _ _ tw a b G4 H4 n4 t4 r4 ha hb hab hTW hA hB => ?_⟩
      refine g_catRaw n4.gh (n4.gg.seqT hT0) hTW (by simp) (by simp) (by show 4 ≤ sizeLine; decide) fun tt G5 H5 n5 htt hT => ?_
      exact q3 h0 h3 tt a b G5 H5 ((n03.trans n4).trans n5.pure) (t4.go n5 (by simp)) (r4.go n5 (by simp)) (n03.fresh ha) (n03.fresh hb) hab hT (hA.go n5 (by simp)) (hB.go n5 (by simp))
def frD (c : Cell) (r : Str × Int) : PyData := .tuple [celD c, .str r.1]
def wrongOf (vl : Vals) (e : Cell × Rws) : List PyData := (e.2.filter fun r => decide (some r.2 ≠ gtM vl e.1)).map (frD e.1)
def wrongs (g : Grd) (vl : Vals) : List PyData := g.flatMap (wrongOf vl)
theorem inDv_gt' {c : Cell} : ∀ {l : Vals}, gtM (inDv l) c = (gtM l c).map .int
  | [] => rfl
  | (k, x) :: l => by
    have ih := inDv_gt' (c := c) (l := l)
    show gtM ((k, PyData.int x) :: inDv l) c = _
    rw [gtM_cons, gtM_cons, ih]
    by_cases h : k = c
    · rw [if_pos h, if_pos h]; rfl
    · rw [if_neg h, if_neg h]
def sp_false_readings (K : PySem.W.Frag) : Sp := fun vs H Q _ => ∃ G d w g vl, vs = [.ref d, .ref w] ∧ Y.Ex G H ∧ DtAt K d G H (grD g) ∧ GrOk g ∧ DtRd K w G H (inDv vl) ∧ w ≠ d ∧ (∀ c ∈ g.map (·.1), (gtM vl c).isSome = true) ∧ (wrongs g vl).length ≤ 90000 ∧ (∀ i, ((g.take i).flatMap (wrongOf vl)).length ≤ 90000) ∧
  ∀ p G' H', Nx [] G H G' H' → H p = none → DtAt K d G' H' (grD g) → LstAt K p G' H' (wrongs g vl) → Q (.ref p) H'
theorem ok_false_readings (T : Tx fa fn bx K mg) : FnOk P w K mg base CX0 1 (He.ga K "false_readings") (fdOf K (He.ga K "false_readings")) ["ground", "values"] (sp_false_readings K) := by
  refine FunD.ok (F_false_readings T) sc_false_readings (fun vs H Q E h => ?_) (fun cdv A outer s H vs Q E hr h => ?_)
  · obtain ⟨_, _, _, _, _, rfl, _⟩ := h
    rfl
  · obtain ⟨G, d, w, g, vl, rfl, e, r, k, hw, hwd, hall, hl, hli, q⟩ := h
    refine ⟨_, PSs.nox ((pss_one (ps_ret (pe_lock (pe_lc2 (own := [("cell", 2), ("pairs", 3), ("name", 4), ("told", 5)]) (vs1 := [4, 5]) (tt := tYes) rfl sc_false_readings.nd (Y.pi_itemsT (pv 0)) (blkOk_by (own := [("cell", 2), ("pairs", 3), ("name", 4), ("told", 5)]) (by kernel_rfl)) (by decide) (fun _ _ _ _ _ => (Y.pg_tupK (K := K) (n := 2) rfl rfl (pgs_cons (pg_name (i := 2) sc_false_readings.nd rfl (Or.inl rfl)) (pgs_cons (pg_name (i := 3) sc_false_readings.nd rfl (Or.inl rfl)) pgs_nil)))) (fun _ _ _ _ _ => pts_nil) (fun _ _ _ _ _ => (Y.pi_tupK (K := K) rfl (pv 3))) (fun _ _ _ _ _ => (Y.pg_tupK (K := K) (n := 2) rfl rfl (pgs_cons (pg_name (i := 4) sc_false_readings.nd rfl (Or.inl rfl)) (pgs_cons (pg_name (i := 5) sc_false_readings.nd rfl (Or.inl rfl)) pgs_nil)))) (fun _ _ _ _ _ => (pts_one (pt_cmpR op_ne (pv 5) (pe_dget (hu_of hr) (pv 1) (pv 2) (fun _ _ => rfl)) (nomark _)))) (fun _ _ _ _ _ => (pe_tup (pa_cons (pv 2) (pa_cons (pv 4) pa_nil))))))))), ?_⟩
    walk_at "sx"
    obtain ⟨kvs, hd, gd, kc⟩ := r
    refine g_lockTE hd fun od => ?_
    obtain ⟨e1, r1⟩ := dt_lock (od := od) hd gd kc e
    have hw1 : DtRd K w G (L2.upd H d (.frz od (.dT kvs))) (inDv vl) := by
      obtain ⟨kv2, h | ⟨o2, h⟩, c2⟩ := hw
      · exact ⟨kv2, .inl (by rw [upd_ne hwd]; exact h), c2⟩
      · exact ⟨kv2, .inr ⟨o2, by rw [upd_ne hwd]; exact h⟩, c2⟩
    refine g_lc2 ?_
    show (tVar 0) _ _ fun x H1 => ∃ d o kvs, x = .ref d ∧ H1 d = some (.frz o (.dT kvs)) ∧ _
    walk_at "sx"
    refine ⟨d, od, kvs, rfl, upd_same, ?_⟩
    intro A hA
    have hAd : A ≠ d := fun z => by rw [z, upd_same] at hA; cases hA
    refine g_lc2O (K := K) (es := fun i => (g.take i).flatMap (wrongOf vl)) (src_dtI upd_same kc (by simp)) e1 hA rfl (fun i v G' H' hi ⟨t0, a0, b0, c, x, ev, hT, hmd, cv, dv⟩ n r3 NX hNX => ?_) (fun G' H' n r3 => ?_)
    · subst ev
      obtain ⟨rs, hg, rfl⟩ : ∃ rs, g[i]? = some (c, rs) ∧ x = rwsD rs := by
        unfold grD at hmd
        rw [List.getElem?_map] at hmd
        obtain ⟨⟨c', rs⟩, h1, h2⟩ := Option.map_eq_some_iff.mp hmd
        cases h2
        exact ⟨rs, h1, rfl⟩
      refine g_un2R n.gh hT ⟨by first | rfl | exact wipe2, ?_⟩
      walk_at "sx"
      refine g_walkT n.gh dv fun t1 et S => ?_
      obtain ⟨y, hy⟩ := Option.isSome_iff_exists.mp (hall c (List.mem_map.mpr ⟨_, List.mem_of_getElem? hg, rfl⟩))
      have hrl := (k.row _ (List.mem_of_getElem? hg)).2
      have hst : (g.take (i + 1)).flatMap (wrongOf vl) = (g.take i).flatMap (wrongOf vl) ++ wrongOf vl (c, rs) := by
        rw [List.take_add_one, hg, List.flatMap_append]
        simp
      refine g_lc2I (K := K) (L := (g.take i).flatMap (wrongOf vl)) (f := fun j => ((rs.take j).filter fun r => decide (some r.2 ≠ gtM vl c)).map (frD c)) (S [A]).p n.gh r3 (fun j => by rw [List.length_map]; exact Nat.le_trans (List.length_filter_le ..) (by rw [List.length_take]; omega)) (by rw [List.length_map]; have := hli i; simp only at hrl; omega) (by simp) (fun j v2 G2 H2 hj ⟨d2, hd2, dv2⟩ n2 r4 QE QN k1 k2 => ?_) (fun G2 H2 n2 r4 => ?_)
      · rw [List.getElem?_map] at hd2
        obtain ⟨r0, hr0, rfl⟩ := Option.map_eq_some_iff.mp hd2
        have nn : Nx [A] G (L2.upd H d (.frz od (.dT kvs))) G2 H2 := n.pure.trans n2
        have hw2 := hw1.go n (by simp)
        refine g_un2 n2.gh dv2 fun u1 u2 d3 d4 => ?_
        cases dp_str d3
        cases dp_int d4
        refine ⟨by first | rfl | exact wipe2, ?_⟩
        have hes : (rs.take (j + 1)).filter (fun r => decide (some r.2 ≠ gtM vl c)) = (rs.take j).filter (fun r => decide (some r.2 ≠ gtM vl c)) ++ if r0.2 ≠ y then [r0] else [] := by
          rw [List.take_add_one, hr0, List.filter_append]
          congr 1
          show List.filter _ [r0] = _
          by_cases h : r0.2 ≠ y
          · rw [List.filter_cons_of_pos (by rw [hy]; simpa using h), if_pos h]; rfl
          · rw [List.filter_cons_of_neg (by rw [hy]; simpa using h), if_neg h]; rfl
        walk_at "sx"
        have hwA : w ≠ A := fun z => by
          obtain ⟨_, h | ⟨_, h⟩, _⟩ := hw1 <;> (rw [z, hA] at h; cases h)
        refine g_dtGet (x := .int y) n2.gh (hw2.go n2 (by simpa using hwA)) (cv.go n2.gg) (by rw [inDv_gt', hy]; rfl) fun v3 dv3 => ?_
        cases dp_int dv3
        walk_at "sx"
        refine g_ndec (fun h => ?_) (fun h => ?_) <;> walk_at "sx"
        · refine g_tupD (K := K) (ds := [celD c, .str r0.1]) n2.gh (.cons (cv.go n2.gg).dp (.cons (.str _) .nil)) (by show 2 ≤ sizeLine; decide) fun t2 G5 H5 n5 d5 => ?_
          refine k1 _ G5 H5 _ n5 d5 ?_
          rw [hes, if_pos h, List.map_append]
          rfl
        · refine k2 G2 H2 (Nx.refl n2.gh) ?_
          rw [hes, if_neg (by simpa using h), List.append_nil]
      · rw [List.length_map, List.take_length] at r4
        refine hNX G2 H2 n2 ?_
        rw [hst]
        exact r4
    · obtain ⟨u1, u2, u3⟩ := dt_unlock hd gd kc (by simp) n
      refine ⟨u1, ?_⟩
      rw [grD_len, List.take_of_length_le (Nat.le_refl _)] at r3
      have hA1 : H A = none := by rw [upd_ne hAd] at hA; exact hA
      exact q A G' _ u2 hA1 u3 (r3.upd hAd.symm)
def tupleOf (d : PyData) (n : Int) : Bool := match d with
  | .tuple xs => decide ((xs.length : Int) = n)
  | _ => false
/-- data, or a tuple or a list of whatever: d tells then no more than its kind and its length -/
def TupIs (K : PySem.W.Frag) (G H : Hp) (v : V) (d : PyData) : Prop := Dp K G v d ∨ (∃ t xs ds, v = .ref t ∧ SqT K G t xs ∧ d = .tuple ds ∧ ds.length = xs.length) ∨ ∃ p xs ds, v = .ref p ∧ H p = some (.lst xs) ∧ d = .list ds
theorem g_isiLraw {K : PySem.W.Frag} {H : Hp} {p : Addr} {xs : List V} {Q : VK} (h : H p = some (.lst xs)) (q : Q (.bl false) H) : rIsi K [.ref p, .ty "tuple"] H Q :=
  ⟨.ref p, .ty "tuple", _, _, false, rfl, .ty "tuple", .base (.lst h), kit_ty (by rfl), q⟩
def sp_is_tuple_of (K : PySem.W.Frag) : Sp := fun vs H Q _ => ∃ G v d n, vs = [v, .int n] ∧ Y.Ex G H ∧ TupIs K G H v d ∧ Q (.bl (tupleOf d n)) H
theorem ok_is_tuple_of (T : Tx fa fn bx K mg) : FnOk P w K mg base CX0 1 (He.ga K "is_tuple_of") (fdOf K (He.ga K "is_tuple_of")) ["value", "length"] (sp_is_tuple_of K) := by
  refine FunD.ok (F_is_tuple_of T) sc_is_tuple_of (fun vs H Q E h => ?_) (fun cdv A outer s H vs Q E hr h => ?_)
  · obtain ⟨_, _, _, _, rfl, _⟩ := h
    rfl
  · obtain ⟨G, v, d, n, rfl, e, hd, q⟩ := h
    refine ⟨_, PSs.nox ((pss_one (ps_ret (pe_and (pe_callB (Y.call_isiK (K := K) rfl) (by rfl) (T.free 0) (by decide +kernel) (pa_cons (pv 0) (pa_cons (pe_bltn (v := .ty "tuple") (by rfl) (T.free 4) (by decide +kernel) rfl) pa_nil))) (pe_one (pe_cmpR op_eq (pe_callB (Y.call_lenK (K := K) rfl) (by rfl) (T.free 3) (by decide +kernel) (pa_cons (pv 0) pa_nil)) (pv 1) (nomark _))))))), ?_⟩
    rcases hd with hd | ⟨t, xs, ds, rfl, hs, rfl, hl⟩ | ⟨p, xs, ds, rfl, hp, rfl⟩
    · cases d with
      | dict _ => exact (dp_nodict hd).elim
      | tuple xs =>
        walk_at "sx"
        walk_at "isi"
        walk_at "sx"
        refine g_lenT e hd ?_
        walk_at "sx"
        exact q
      | _ =>
        walk_at "sx"
        walk_at "isi"
        walk_at "sx"
        exact q
    · walk_at "sx"
      refine g_isiR e hs ?_
      refine ⟨true, rfl, ?_⟩
      refine g_bool (fun _ => ?_) (fun h => nomatch h)
      walk_at "sx"
      refine g_lenTR e hs ?_
      walk_at "sx"
      rw [← hl]
      exact q
    · walk_at "sx"
      refine g_isiLraw hp ?_
      refine ⟨false, rfl, ?_⟩
      refine g_bool (fun h => nomatch h) (fun _ => ?_)
      exact q
def isWhole (d : PyData) : Bool := match d with
  | .int _ => true
  | _ => false
def sp_is_whole (K : PySem.W.Frag) : Sp := fun vs H Q _ => ∃ G v d, vs = [v] ∧ Y.Ex G H ∧ Dp K G v d ∧ Q (.bl (isWhole d)) H
theorem ok_is_whole (T : Tx fa fn bx K mg) : FnOk P w K mg base CX0 1 (He.ga K "is_whole") (fdOf K (He.ga K "is_whole")) ["value"] (sp_is_whole K) := by
  refine FunD.ok (F_is_whole T) sc_is_whole (fun vs H Q E h => ?_) (fun cdv A outer s H vs Q E hr h => ?_)
  · obtain ⟨_, _, _, rfl, _⟩ := h
    rfl
  · obtain ⟨G, v, d, rfl, e, hd, q⟩ := h
    refine ⟨_, PSs.nox ((pss_one (ps_ret (pe_and (pe_callB (Y.call_isiK (K := K) rfl) (by rfl) (T.free 0) (by decide +kernel) (pa_cons (pv 0) (pa_cons (pe_bltn (v := .ty "int") (by rfl) (T.free 2) (by decide +kernel) rfl) pa_nil))) (pe_one (pe_not (pe_callB (Y.call_isiK (K := K) rfl) (by rfl) (T.free 0) (by decide +kernel) (pa_cons (pv 0) (pa_cons (pe_bltn (v := .ty "bool") (by rfl) (T.free 1) (by decide +kernel) rfl) pa_nil))))))))), ?_⟩
    cases d with
    | dict _ => exact (dp_nodict hd).elim
    | int i =>
      cases dp_int hd
      walk_at "sx"
      walk_at "isi"
      walk_at "sx"
      walk_at "isi"
      walk_at "sx"
      exact q
    | _ =>
      walk_at "sx"
      walk_at "isi"
      walk_at "sx"
      try (walk_at "isi"; walk_at "sx")
      exact q
def isCell (d : PyData) : Bool := match d with
  | .tuple [a, b] => isWhole a && isWhole b
  | _ => false
def sp_is_cell (K : PySem.W.Frag) : Sp := fun vs H Q _ => ∃ G v d, vs = [v] ∧ Y.Ex G H ∧ Dp K G v d ∧ Q (.bl (isCell d)) H
theorem cell_two {d : PyData} (h : tupleOf d 2 = true) : ∃ a b, d = .tuple [a, b] := by
  cases d with
  | tuple xs =>
    have hl : xs.length = 2 := by
      have := of_decide_eq_true h
      omega
    match xs, hl with
    | [a, b], _ => exact ⟨a, b, rfl⟩
  | _ => cases h
theorem cell_no {d : PyData} (h : tupleOf d 2 = false) : isCell d = false := by
  cases d with
  | tuple xs =>
    match xs with
    | [] => rfl
    | [_] => rfl
    | [_, _] => cases h
    | _ :: _ :: _ :: _ => rfl
  | _ => rfl
theorem ok_is_cell (T : Tx fa fn bx K mg) : FnOk P w K mg base CX0 2 (He.ga K "is_cell") (fdOf K (He.ga K "is_cell")) ["value"] (sp_is_cell K) := by
  refine FunD.ok (F_is_cell T) sc_is_cell (fun vs H Q E h => ?_) (fun cdv A outer s H vs Q E hr h => ?_)
  · obtain ⟨_, _, _, rfl, _⟩ := h
    rfl
  · obtain ⟨G, v, d, rfl, e, hd, q⟩ := h
    refine ⟨_, PSs.nox ((pss_one (ps_ret (pe_and (Y.pe_callC (ok_is_tuple_of T) (cal_is_tuple_of T) (hr.mono (by decide)) (by rfl) pass0 (pa_cons (pv 0) (pa_cons pe_int pa_nil))) (pe_and (Y.pe_callC (ok_is_whole T) (cal_is_whole T) (hr.mono (by decide)) (by rfl) pass0 (pa_cons (pe_ix (Y.ix_tupK (K := K) rfl) (pv 0) pe_int (fun _ _ => rfl)) pa_nil)) (pe_one (Y.pe_callC (ok_is_whole T) (cal_is_whole T) (hr.mono (by decide)) (by rfl) pass0 (pa_cons (pe_ix (Y.ix_tupK (K := K) rfl) (pv 0) pe_int (fun _ _ => rfl)) pa_nil)))))))), ?_⟩
    walk_at "sx"
    refine ⟨G, v, d, 2, rfl, e, .inl hd, ?_⟩
    cases ht : tupleOf d 2 with
    | false =>
      refine ⟨false, rfl, ?_⟩
      refine g_bool (fun h => nomatch h) (fun _ => ?_)
      rw [cell_no ht] at q
      exact q
    | true =>
      obtain ⟨a, b, rfl⟩ := cell_two ht
      refine ⟨true, rfl, ?_⟩
      refine g_bool (fun _ => ?_) (fun h => nomatch h)
      walk_at "sx"
      refine g_ixT (K := K) (k := 0) e hd rfl rfl fun v1 d1 => ?_
      walk_at "sx"
      refine ⟨G, v1, a, rfl, e, d1, ?_⟩
      cases hw : isWhole a with
      | false =>
        refine ⟨false, rfl, ?_⟩
        refine g_bool (fun h => nomatch h) (fun _ => ?_)
        have : isCell (.tuple [a, b]) = false := by show (isWhole a && isWhole b) = false; rw [hw]; rfl
        rw [this] at q
        exact q
      | true =>
        refine ⟨true, rfl, ?_⟩
        refine g_bool (fun _ => ?_) (fun h => nomatch h)
        walk_at "sx"
        refine g_ixT (K := K) (k := 1) e hd rfl rfl fun v2 d2 => ?_
        refine ⟨G, v2, b, rfl, e, d2, ?_⟩
        have : isCell (.tuple [a, b]) = isWhole b := by show (isWhole a && isWhole b) = _; rw [hw]; rfl
        rw [this] at q
        walk_at "sx"
        exact q
theorem g_isiDT {K : PySem.W.Frag} {H : Hp} {p : Addr} {kvs : List (List L2.Key × V)} {Q : VK} (h : H p = some (.dT kvs)) (q : Q (.bl true) H) : rIsi K [.ref p, .ty "dict"] H Q :=
  ⟨.ref p, .ty "dict", _, _, true, rfl, .ty "dict", .base (.dT h), kit_ty (by rfl), q⟩
theorem g_isiLd {K : PySem.W.Frag} {H : Hp} {p : Addr} {xs : List V} {Q : VK} (h : H p = some (.lst xs)) (q : Q (.bl false) H) : rIsi K [.ref p, .ty "dict"] H Q :=
  ⟨.ref p, .ty "dict", _, _, false, rfl, .ty "dict", .base (.lst h), kit_ty (by rfl), q⟩
theorem bls_ls {K : PySem.W.Frag} {p : Addr} {G H : Hp} {bs : List Bool} (r : LsR (fun _ v (b : Bool) => v = V.bl b) p G H bs) : LstAt K p G H (bs.map .bool) := by
  obtain ⟨vs, h, g, q⟩ := r
  exact ⟨vs, h, g, pr_dp (fun v c h => by subst h; exact .bl _) q⟩
def hasB (vl : Vals) (g : Grd) : Bool := decide (vl.length = g.length) && vl.all fun e => (gtM g e.1).isSome
def sp_has_cells (K : PySem.W.Frag) : Sp := fun vs H Q _ => ∃ G v d g, vs = [v, .ref d] ∧ Y.Ex G H ∧ DtAt K d G H (grD g) ∧ g.length ≤ 1000 ∧
  ((∃ w vl, v = .ref w ∧ DtAt K w G H (inDv vl) ∧ w ≠ d ∧ vl.length ≤ 1000 ∧ ∀ G' H', Nx [] G H G' H' → DtAt K w G' H' (inDv vl) → DtAt K d G' H' (grD g) → Q (.bl (hasB vl g)) H') ∨ ∃ p xs, v = .ref p ∧ H p = some (.lst xs) ∧ Q (.bl false) H)
theorem ok_has_cells (T : Tx fa fn bx K mg) : FnOk P w K mg base CX0 3 (He.ga K "has_cells") (fdOf K (He.ga K "has_cells")) ["value", "cells"] (sp_has_cells K) := by
  refine FunD.ok (F_has_cells T) sc_has_cells (fun vs H Q E h => ?_) (fun cdv A outer s H vs Q E hr h => ?_)
  · obtain ⟨_, _, _, _, rfl, _⟩ := h
    rfl
  · obtain ⟨G, v, d, g, rfl, e, r, hgl, hv⟩ := h
    refine ⟨_, PSs.nox ((pss_cons (ps_if (PW.pt (pw_or (pt_not (pt_val (pe_callB (Y.call_isiK (K := K) rfl) (by rfl) (T.free 0) (by decide +kernel) (pa_cons (pv 0) (pa_cons (pe_bltn (v := .ty "dict") (by rfl) (T.free 5) (by decide +kernel) rfl) pa_nil))))) (pw_or1 (pt_cmpR op_ne (pe_callB call_len_dT (by rfl) (T.free 3) (by decide +kernel) (pa_cons (pv 0) pa_nil)) (pe_callB call_len_dT (by rfl) (T.free 3) (by decide +kernel) (pa_cons (pv 1) pa_nil)) (nomark _)))))
      (pss_one (ps_ret pe_bl))
      pss_nil)
      (pss_one (ps_ret (pe_callB (Y.cr_allK (K := K) rfl rfl) (by rfl) (T.free 6) (by decide +kernel) (pa_cons (pe_lock (pe_lc (own := [("key", 2)]) (tt := tYes) rfl sc_has_cells.nd (pi_keys (pv 0)) (blkOk_by (own := [("key", 2)]) (by kernel_rfl)) (fun _ _ _ _ _ => (pg_name (i := 2) sc_has_cells.nd rfl (Or.inl rfl))) (fun _ _ _ _ _ => pts_nil) (fun _ _ _ _ _ => (pe_and (Y.pe_callC (ok_is_cell T) (cal_is_cell T) (hr.mono (by decide)) (by rfl) pass0 (pa_cons (pv 2) pa_nil)) (pe_one (pe_cmp (pc_din (hu_of hr) (pv 2) (pv 1)))))))) pa_nil)))))), ?_⟩
    walk_at "sx"
    rcases hv with ⟨w, vl, rfl, hw, hwd, hvl, q⟩ | ⟨p, xs, rfl, hp, q⟩
    · obtain ⟨kvs, hwk, gw, kc⟩ := id hw
      refine g_isiDT hwk ?_
      walk_at "sx"
      refine g_dtLen hw ?_
      walk_at "sx"
      refine g_dtLen r ?_
      walk_at "sx"
      have hl1 : (inDv vl).length = vl.length := List.length_map ..
      rw [hl1, grD_len]
      refine g_ndec (fun h => ?_) (fun h => ?_) <;> walk_at "sx"
      · have := q G H (Nx.refl e) hw r
        rw [show hasB vl g = false by unfold hasB; rw [decide_eq_false (fun z => h (by rw [z]))]; rfl] at this
        exact this
      · have hle : vl.length = g.length := by omega
        refine g_lockTE hwk fun od => ?_
        obtain ⟨e1, r1⟩ := dt_lock (od := od) hwk gw kc e
        have rd1 := r.upd (A := w) (o := .frz od (.dT kvs)) hwd
        walk_at "sx"
        refine g_iKeys0 ?_
        walk_at "sx"
        refine g_keysT upd_same ?_
        intro A hA
        have hAw : A ≠ w := fun z => by rw [z, upd_same] at hA; cases hA
        have hAd : A ≠ d := fun z => rd1.live (z ▸ hA)
        refine g_lcR (M := []) (R' := fun _ v (b : Bool) => v = .bl b) (es := fun i => ((vl.take i).map fun e => (gtM g e.1).isSome)) (fun _ _ _ _ _ h => h) (src_dt upd_same kc (by simp)) e1 hA (by simp) (by rw [hl1]; exact szl (by omega)) rfl (fun i v acc G' H' hi ⟨c, hc, cv⟩ n hp QE QN k1 k2 => ?_) (fun G' H' n r2 => ?_)
        · rw [inDv_keys, List.getElem?_map] at hc
          obtain ⟨e0, he0, rfl⟩ := Option.map_eq_some_iff.mp hc
          refine ⟨by first | rfl | exact wipe1, ?_⟩
          walk_at "sx"
          refine ⟨G', v, celD e0.1, rfl, n.gh, cv.dp, ?_⟩
          refine ⟨true, rfl, ?_⟩
          refine g_bool (fun _ => ?_) (fun h => nomatch h)
          walk_at "sx"
          refine g_dtIn n.gh (rd1.go n (by simp)).rd cv ?_
          rw [grD_gt, Option.isSome_map]
          refine k1 _ G' H' _ (Nx.refl n.gh) rfl ?_
          rw [List.take_add_one, he0, List.map_append]
          rfl
        · obtain ⟨u1, u2, u3⟩ := dt_unlock hwk gw kc (by simp) n
          refine ⟨u1, ?_⟩
          rw [hl1, List.take_of_length_le (Nat.le_refl _)] at r2
          have r3 := r2.upd (A := w) (o := .dT kvs) hAw.symm
          obtain ⟨xs, hx, gx, px⟩ := bls_ls (K := K) r3
          walk_at "sx"
          refine g_allM hx px ?_
          have := q G' _ u2 u3 ((rd1.go n (by simp)).upd hwd)
          rw [show hasB vl g = ((vl.map fun e => (gtM g e.1).isSome).all id) by unfold hasB; rw [decide_eq_true hle, List.all_map]; rfl] at this
          exact this
    · refine g_isiLd hp ?_
      walk_at "sx"
      exact q
theorem has_all {vl : Vals} {g : Grd} (h : hasB vl g = true) (hn : (vl.map (·.1)).Nodup) : ∀ c ∈ g.map (·.1), (gtM vl c).isSome = true := by
  unfold hasB at h
  obtain ⟨h1, h2⟩ := Bool.and_eq_true_iff.mp h
  have hl := of_decide_eq_true h1
  have hsub : ∀ c ∈ vl.map (·.1), c ∈ g.map (·.1) := fun c hc => by
    obtain ⟨e, he, rfl⟩ := List.mem_map.mp hc
    have h3 := List.all_eq_true.mp h2 e he
    cases e1 : gtM g e.1 with
    | none => rw [e1] at h3; cases h3
    | some x => exact List.mem_map.mpr ⟨_, gtM_mem e1, rfl⟩
  intro c hc
  cases e1 : gtM vl c with
  | some x => rfl
  | none =>
    have hnc := gtM_none.mp e1
    have h5 : (c :: vl.map (·.1)).length ≤ (g.map (·.1)).length := by
      refine List.Nodup.length_le_of_subset (List.nodup_cons.mpr ⟨hnc, hn⟩) fun x hx => ?_
      rcases List.mem_cons.mp hx with rfl | hx
      · exact hc
      · exact hsub x hx
    rw [List.length_cons, List.length_map, List.length_map] at h5
    omega
theorem wrongs_len5 {dl : Vals} : ∀ {g : Grd}, (∀ e ∈ g, e.2.length ≤ 5) → (wrongs g dl).length ≤ 5 * g.length
  | [], _ => by simp [wrongs]
  | e :: g, h => by
    have ih := wrongs_len5 (dl := dl) (g := g) fun e' he' => h e' (List.mem_cons_of_mem _ he')
    have h1 := h e (by simp)
    have h2 := List.length_filter_le (fun r : Str × Int => decide (some r.2 ≠ gtM dl e.1)) e.2
    unfold wrongs at ih ⊢
    rw [List.flatMap_cons, List.length_append, List.length_cons]
    have h3 : (wrongOf dl e).length ≤ 5 := by
      unfold wrongOf
      rw [List.length_map]
      omega
    omega
def explB (vl : Vals) (g : Grd) (f : Int) : Bool := hasB vl g && decide (((wrongs g vl).length : Int) ≤ f)
def sp__is_explanation (K : PySem.W.Frag) : Sp := fun vs H Q _ => ∃ G v d f g, vs = [.ref d, .int f, v] ∧ Y.Ex G H ∧ DtAt K d G H (grD g) ∧ GrOk g ∧ (∀ e ∈ g, e.2.length ≤ 5) ∧ g.length ≤ 6 ∧
  ((∃ w vl, v = .ref w ∧ DtAt K w G H (inDv vl) ∧ w ≠ d ∧ vl.length ≤ 1000 ∧ (vl.map (·.1)).Nodup ∧ ∀ G' H', Nx [] G H G' H' → DtAt K w G' H' (inDv vl) → DtAt K d G' H' (grD g) → Q (.bl (explB vl g f)) H') ∨ ∃ p xs, v = .ref p ∧ H p = some (.lst xs) ∧ Q (.bl false) H)
theorem ok__is_explanation (T : Tx fa fn bx K mg) : FnOk P w K mg base CX0 4 (He.ga K "_is_explanation") (fdOf K (He.ga K "_is_explanation")) ["ground", "faults", "integers"] (sp__is_explanation K) := by
  refine FunD.ok (F__is_explanation T) sc__is_explanation (fun vs H Q E h => ?_) (fun cdv A outer s H vs Q E hr h => ?_)
  · obtain ⟨_, _, _, _, _, rfl, _⟩ := h
    rfl
  · obtain ⟨G, v, d, f, g, rfl, e, r, gok, hr5, hg6, hv⟩ := h
    refine ⟨_, PSs.nox ((pss_cons (ps_if (PW.pt (pw_or (pt_not (pt_val (Y.pe_callC (ok_has_cells T) (cal_has_cells T) (hr.mono (by decide)) (by rfl) pass0 (pa_cons (pv 2) (pa_cons (pv 0) pa_nil))))) (pw_or1 (pt_not (pt_val (pe_callB (Y.cr_allK (K := K) rfl rfl) (by rfl) (T.free 6) (by decide +kernel) (pa_cons (pe_lock (pe_lc (own := [("cell", 3)]) (tt := tYes) rfl sc__is_explanation.nd (pi_keys (pv 0)) (blkOk_by (own := [("cell", 3)]) (by kernel_rfl)) (fun _ _ _ _ _ => (pg_name (i := 3) sc__is_explanation.nd rfl (Or.inl rfl))) (fun _ _ _ _ _ => pts_nil) (fun _ _ _ _ _ => (Y.pe_callC (ok_is_whole T) (cal_is_whole T) (hr.mono (by decide)) (by rfl) pass0 (pa_cons (pe_dget (hu_of hr) (pv 2) (pv 3) (fun _ _ => rfl)) pa_nil))))) pa_nil)))))))
      (pss_one (ps_ret pe_bl))
      pss_nil)
      (pss_one (ps_ret (pe_cmpR op_le (pe_callB (Y.call_lenK (K := K) rfl) (by rfl) (T.free 3) (by decide +kernel) (pa_cons (Y.pe_callC (ok_false_readings T) (cal_false_readings T) (hr.mono (by decide)) (by rfl) pass0 (pa_cons (pv 0) (pa_cons (pv 2) pa_nil))) pa_nil)) (pv 1) (nomark _)))))), ?_⟩
    walk_at "sx"
    rcases hv with ⟨w, vl, rfl, hw, hwd, hvl, hnd, q⟩ | ⟨p, xs, rfl, hp, q⟩
    · refine ⟨G, .ref w, d, g, rfl, e, r, by omega, .inl ⟨w, vl, rfl, hw, hwd, hvl, fun G1 H1 n1 hw1 r1 => ?_⟩⟩
      cases hh : hasB vl g with
      | false =>
        refine ⟨false, rfl, ?_⟩
        refine g_nbool (fun _ => ?_) (fun h => nomatch h)
        walk_at "sx"
        have := q G1 H1 n1 hw1 r1
        rw [show explB vl g f = false by unfold explB; rw [hh]; rfl] at this
        exact this
      | true =>
        have hall := has_all hh hnd
        refine ⟨true, rfl, ?_⟩
        refine g_nbool (fun h => nomatch h) (fun _ => ?_)
        walk_at "sx"
        obtain ⟨kvs, hdk, gd, kc⟩ := id r1
        refine g_lockTE hdk fun od => ?_
        obtain ⟨e1, rd⟩ := dt_lock (od := od) hdk gd kc n1.gh
        have rw1 := hw1.upd (A := d) (o := .frz od (.dT kvs)) hwd.symm
        walk_at "sx"
        refine g_iKeys0 ?_
        walk_at "sx"
        refine g_keysT upd_same ?_
        intro A hA
        have hAd : A ≠ d := fun z => by rw [z, upd_same] at hA; cases hA
        have hAw : A ≠ w := fun z => rw1.live (z ▸ hA)
        refine g_lcR (M := []) (R' := fun _ v (b : Bool) => v = .bl b) (es := fun i => List.replicate i true) (fun _ _ _ _ _ h => h) (src_dt upd_same kc (by simp)) e1 hA (by simp) (by rw [grD_len]; exact szl (by omega)) rfl (fun i v acc G' H' hi ⟨c, hc, cv⟩ n hp QE QN k1 k2 => ?_) (fun G' H' n r2 => ?_)
        · rw [grD_keys] at hc
          obtain ⟨y, hy⟩ := Option.isSome_iff_exists.mp (hall c (List.mem_of_getElem? hc))
          refine ⟨by first | rfl | exact wipe1, ?_⟩
          walk_at "sx"
          refine g_dtGet (x := .int y) n.gh (rw1.go n (by simp)).rd cv (by rw [inDv_gt', hy]; rfl) fun v3 dv3 => ?_
          cases dp_int dv3
          walk_at "sx"
          refine ⟨G', .int y, .int y, rfl, n.gh, .int _, ?_⟩
          refine k1 _ G' H' true (Nx.refl n.gh) rfl ?_
          rw [List.replicate_succ']
        · obtain ⟨u1, u2, u3⟩ := dt_unlock hdk gd kc (by simp) n
          refine ⟨u1, ?_⟩
          have r3 := r2.upd (A := d) (o := .dT kvs) hAd.symm
          obtain ⟨xs, hx, gx, px⟩ := bls_ls (K := K) r3
          walk_at "sx"
          refine g_allM hx px ?_
          rw [show ((List.replicate (grD g).length true).all id) = true by rw [List.all_eq_true]; intro x hx; rw [List.eq_of_mem_replicate hx]; rfl]
          refine ⟨true, rfl, ?_⟩
          refine g_nbool (fun h => nomatch h) (fun _ => ?_)
          walk_at "sx"
          have hw3 : DtAt K w G' (L2.upd H' d (.dT kvs)) (inDv vl) := (rw1.go n (by simp)).upd hwd.symm
          have hwl : ∀ {h : Grd}, (∀ e ∈ h, e ∈ g) → h.length ≤ 6 → (wrongs h vl).length ≤ 90000 := fun {h} hh2 hl => by
            have := wrongs_len5 (dl := vl) (g := h) fun e he => hr5 e (hh2 e he)
            omega
          refine ⟨G', d, w, g, vl, rfl, u2.gh, u3, gok, hw3.rd, hwd, hall, hwl (fun _ h => h) hg6, fun i => hwl (h := g.take i) (fun _ h => List.mem_of_mem_take h) (by rw [List.length_take]; omega), fun p G5 H5 n5 hp5 hD5 hL5 => ?_⟩
          walk_at "sx"
          refine g_lenLs hL5 ?_
          walk_at "sx"
          have := q G5 H5 ((n1.trans u2).trans n5) (hw3.go n5 (by simp)) hD5
          rw [show explB vl g f = decide (((wrongs g vl).length : Int) ≤ f) by unfold explB; rw [hh]; rfl] at this
          exact this
    · refine ⟨G, .ref p, d, g, rfl, e, r, by omega, .inr ⟨p, xs, rfl, hp, ?_⟩⟩
      refine ⟨false, rfl, ?_⟩
      refine g_nbool (fun _ => ?_) (fun h => nomatch h)
      walk_at "sx"
      exact q
/-- what stands where an explanation should -/
def ExpV (K : PySem.W.Frag) (d : Addr) (g : Grd) (f : Int) (u : V) (b : Bool) (ol : Option Vals) (G H : Hp) : Prop :=
  (∃ w vl, u = .ref w ∧ DtAt K w G H (inDv vl) ∧ w ≠ d ∧ vl.length ≤ 1000 ∧ (vl.map (·.1)).Nodup ∧ b = explB vl g f ∧ ol = some vl) ∨ ∃ p xs, u = .ref p ∧ H p = some (.lst xs) ∧ b = false ∧ ol = none
theorem ExpV.go {K : PySem.W.Frag} {d : Addr} {g : Grd} {f : Int} {u : V} {b : Bool} {ol : Option Vals} {G H G' H' : Hp} (h : ExpV K d g f u b ol G H) (n : Nx [] G H G' H') : ExpV K d g f u b ol G' H' := by
  rcases h with ⟨w, vl, e, hw, r⟩ | ⟨p, xs, e, hp, r⟩
  · exact .inl ⟨w, vl, e, hw.go n (by simp), r⟩
  · exact .inr ⟨p, xs, e, n.fr p _ (by simp) hp, r⟩
def opB (g : Grd) (cc : Cell) (b1 b2 : Bool) (o1 o2 : Option Vals) : Bool := (gtM g cc).isSome && (b1 && b2) && decide ((o1.bind fun l => gtM l cc) ≠ (o2.bind fun l => gtM l cc))
def sp__is_open (K : PySem.W.Frag) : Sp := fun vs H Q _ => ∃ G d f y pt u1 u2 g b1 b2 o1 o2, vs = [.ref d, .int f, y, .ref pt] ∧ Y.Ex G H ∧ DtAt K d G H (grD g) ∧ GrOk g ∧ (∀ e ∈ g, e.2.length ≤ 5) ∧ g.length ≤ 6 ∧ SqT K G pt [u1, u2] ∧ ExpV K d g f u1 b1 o1 G H ∧ ExpV K d g f u2 b2 o2 G H ∧
  ((∃ c, Dp K G y c ∧ isCell c = false ∧ Q (.bl false) H) ∨ ∃ cc, Cl G y cc ∧ ∀ G' H', Nx [] G H G' H' → Q (.bl (opB g cc b1 b2 o1 o2)) H')
theorem ok__is_open (T : Tx fa fn bx K mg) : FnOk P w K mg base CX0 5 (He.ga K "_is_open") (fdOf K (He.ga K "_is_open")) ["ground", "faults", "cell", "pair"] (sp__is_open K) := by
  refine FunD.ok (F__is_open T) sc__is_open (fun vs H Q E h => ?_) (fun cdv A outer s H vs Q E hr h => ?_)
  · obtain ⟨_, _, _, _, _, _, _, _, _, _, _, _, rfl, _⟩ := h
    rfl
  · obtain ⟨G, d, f, y, pt, u1, u2, g, b1, b2, o1, o2, rfl, e, r, gok, hr5, hg6, hT, hE1, hE2, hv⟩ := h
    refine ⟨_, PSs.nox ((pss_cons (ps_if (PW.pt (pw_or (pt_not (pt_val (Y.pe_callC (ok_is_cell T) (cal_is_cell T) (hr.mono (by decide)) (by rfl) pass0 (pa_cons (pv 2) pa_nil)))) (pw_or1 (pt_cmp (pc_dnotin (hu_of hr) (pv 2) (pv 0))))))
      (pss_one (ps_ret pe_bl))
      pss_nil)
      (pss_cons (ps_if (pt_not (pt_val (pe_callB (Y.cr_allK (K := K) rfl rfl) (by rfl) (T.free 6) (by decide +kernel) (pa_cons (pe_lc (own := [("integers", 6)]) (tt := tYes) rfl sc__is_open.nd (Y.pi_tupK (K := K) rfl (pv 3)) (blkOk_by (own := [("integers", 6)]) (by kernel_rfl)) (fun _ _ _ _ _ => (pg_name (i := 6) sc__is_open.nd rfl (Or.inl rfl))) (fun _ _ _ _ _ => pts_nil) (fun _ _ _ _ _ => (Y.pe_callC (ok__is_explanation T) (cal__is_explanation T) (hr.mono (by decide)) (by rfl) pass0 (pa_cons (pv 0) (pa_cons (pv 1) (pa_cons (pv 6) pa_nil)))))) pa_nil))))
      (pss_one (ps_ret pe_bl))
      pss_nil)
      (pss_cons (ps_asg (pv 3) (Y.pg_tupK (K := K) (n := 2) rfl rfl (pgs_cons (pg_name (i := 4) sc__is_open.nd rfl (Or.inl rfl)) (pgs_cons (pg_name (i := 5) sc__is_open.nd rfl (Or.inl rfl)) pgs_nil))))
      (pss_one (ps_ret (pe_cmpR op_ne (pe_dget (hu_of hr) (pv 4) (pv 2) (fun _ _ => rfl)) (pe_dget (hu_of hr) (pv 5) (pv 2) (fun _ _ => rfl)) (nomark _)))))))), ?_⟩
    walk_at "sx"
    rcases hv with ⟨c, hy, hc, q⟩ | ⟨cc, hy, q⟩
    · refine ⟨G, y, c, rfl, e, hy, ?_⟩
      rw [hc]
      refine ⟨false, rfl, ?_⟩
      refine g_nbool (fun _ => ?_) (fun h => nomatch h)
      walk_at "sx"
      exact q
    · refine ⟨G, y, celD cc, rfl, e, hy.dp, ?_⟩
      refine ⟨true, rfl, ?_⟩
      refine g_nbool (fun h => nomatch h) (fun _ => ?_)
      walk_at "sx"
      refine g_dtNi e r.rd hy ?_
      walk_at "sx"
      rw [grD_gt, Option.isSome_map]
      cases hg : gtM g cc with
      | none =>
        rw [Option.isSome_none]
        walk_at "sx"
        have := q G H (Nx.refl e)
        rw [show opB g cc b1 b2 o1 o2 = false by unfold opB; rw [hg]; rfl] at this
        exact this
      | some rs =>
        rw [Option.isSome_some]
        walk_at "sx"
        refine g_walkRawT e hT ?_
        intro A hA
        refine g_lcR (M := []) (R' := fun _ v (b : Bool) => v = .bl b) (es := fun i => [b1, b2].take i) (fun _ _ _ _ _ h => h) (src_rawT hT) e hA (by simp) (by show 2 < sizeLine; decide) rfl (fun i v acc G' H' hi hx n hp QE QN k1 k2 => ?_) (fun G' H' n r2 => ?_)
        · have hE1' := hE1.go n
          have hE2' := hE2.go n
          have r' := r.go n (by simp)
          refine ⟨by first | rfl | exact wipe1, ?_⟩
          walk_at "sx"
          have one : ∀ {u : V} {b : Bool} {o : Option Vals}, ExpV K d g f u b o G' H' → [b1, b2].take (i + 1) = [b1, b2].take i ++ [b] → sp__is_explanation K [.ref d, .int f, u] H' QE E0 := by
            intro u b o hE he
            rcases hE with ⟨w, vl, rfl, hw, hwd, hvl, hnd, rfl, _⟩ | ⟨p, xs, rfl, hp, rfl, _⟩
            · exact ⟨G', .ref w, d, f, g, rfl, n.gh, r', gok, hr5, hg6, .inl ⟨w, vl, rfl, hw, hwd, hvl, hnd, fun G2 H2 n2 _ _ => k1 _ G2 H2 _ n2 rfl he⟩⟩
            · exact ⟨G', .ref p, d, f, g, rfl, n.gh, r', gok, hr5, hg6, .inr ⟨p, xs, rfl, hp, k1 _ G' H' _ (Nx.refl n.gh) rfl he⟩⟩
          have hi2 : i = 0 ∨ i = 1 := by
            have : i < 2 := hi
            omega
          rcases hi2 with rfl | rfl
          · cases hx
            exact one hE1' rfl
          · cases hx
            exact one hE2' rfl
        · obtain ⟨xs, hx, gx, px⟩ := bls_ls (K := K) r2
          walk_at "sx"
          refine g_allM hx px ?_
          rw [show ((([b1, b2] : List Bool).take [u1, u2].length).all id) = (b1 && b2) by cases b1 <;> cases b2 <;> rfl]
          have hq := q G' H' n
          have hop : opB g cc b1 b2 o1 o2 = ((b1 && b2) && decide ((o1.bind fun l => gtM l cc) ≠ (o2.bind fun l => gtM l cc))) := by unfold opB; rw [hg]; simp
          rw [hop] at hq
          cases hb : (b1 && b2) with
          | false =>
            refine ⟨false, rfl, ?_⟩
            refine g_nbool (fun _ => ?_) (fun h => nomatch h)
            walk_at "sx"
            rw [hb] at hq
            exact hq
          | true =>
            refine ⟨true, rfl, ?_⟩
            refine g_nbool (fun h => nomatch h) (fun _ => ?_)
            walk_at "sx"
            obtain ⟨hb1, hb2⟩ := Bool.and_eq_true_iff.mp hb
            subst hb1 hb2
            have two : ∀ {u : V} {o : Option Vals}, ExpV K d g f u true o G' H' → ∃ w vl y, u = .ref w ∧ DtAt K w G' H' (inDv vl) ∧ o = some vl ∧ gtM vl cc = some y := by
              intro u o hE
              rcases hE with ⟨w, vl, rfl, hw, hwd, hvl, hnd, he, rfl⟩ | ⟨p, xs, _, _, hf, _⟩
              · have hh : hasB vl g = true := (Bool.and_eq_true_iff.mp he.symm).1
                obtain ⟨y, hy2⟩ := Option.isSome_iff_exists.mp (has_all hh hnd cc (List.mem_map.mpr ⟨_, gtM_mem hg, rfl⟩))
                exact ⟨w, vl, y, rfl, hw, rfl, hy2⟩
              · cases hf
            obtain ⟨w1, l1, y1, rfl, hw1, rfl, hy1⟩ := two (hE1.go n)
            obtain ⟨w2, l2, y2, rfl, hw2, rfl, hy2⟩ := two (hE2.go n)
            refine g_un2R n.gh (n.gg.seqT hT) ?_
            walk_at "sx"
            refine g_dtGet (x := .int y1) n.gh hw1.rd (hy.go n.gg) (by rw [inDv_gt', hy1]; rfl) fun v3 dv3 => ?_
            cases dp_int dv3
            walk_at "sx"
            refine g_dtGet (x := .int y2) n.gh hw2.rd (hy.go n.gg) (by rw [inDv_gt', hy2]; rfl) fun v4 dv4 => ?_
            cases dp_int dv4
            walk_at "sx"
            have e1 : decide (((some l1).bind fun l => gtM l cc) ≠ ((some l2).bind fun l => gtM l cc)) = decide (y1 ≠ y2) := by
              show decide (gtM l1 cc ≠ gtM l2 cc) = _
              rw [hy1, hy2]
              exact decide_eq_decide.mpr ⟨fun h z => h (by rw [z]), fun h z => h (Option.some.inj z)⟩
            rw [e1] at hq
            show Q (V.bl (!decide (y1 = y2))) H'
            rw [show (!decide (y1 = y2)) = ((true && true) && decide (y1 ≠ y2)) by by_cases h : y1 = y2 <;> simp [h]]
            exact hq
/-- what the first item of a tuple is -/
def sp__is_paper (K : PySem.W.Frag) : Sp := fun vs H Q _ => ∃ G v k n, vs = [v, .str k, .int n] ∧ Y.Ex G H ∧ SeqAt.shaped (.str k) = true ∧
  ((∃ d, TupIs K G H v d ∧ tupleOf d n = false ∧ Q (.bl false) H) ∨ (∃ t xs s, v = .ref t ∧ SqT K G t xs ∧ (xs.length : Int) = n ∧ xs[0]? = some (.str s) ∧ SeqAt.shaped (.str s) = true ∧ Q (.bl (decide (s = k))) H) ∨ ∃ t xs a d, v = .ref t ∧ SqT K G t xs ∧ (xs.length : Int) = n ∧ xs[0]? = some a ∧ Dp K G a d ∧ (∀ s, d ≠ .str s) ∧ Q (.bl false) H)
theorem ok__is_paper (T : Tx fa fn bx K mg) : FnOk P w K mg base CX0 2 (He.ga K "_is_paper") (fdOf K (He.ga K "_is_paper")) ["value", "kind", "length"] (sp__is_paper K) := by
  refine FunD.ok (F__is_paper T) sc__is_paper (fun vs H Q E h => ?_) (fun cdv A outer s H vs Q E hr h => ?_)
  · obtain ⟨_, _, _, _, rfl, _⟩ := h
    rfl
  · obtain ⟨G, v, k, n, rfl, e, hk, hv⟩ := h
    refine ⟨_, PSs.nox ((pss_one (ps_ret (pe_and (Y.pe_callC (ok_is_tuple_of T) (cal_is_tuple_of T) (hr.mono (by decide)) (by rfl) pass0 (pa_cons (pv 0) (pa_cons (pv 2) pa_nil))) (pe_and (pe_callB (Y.call_isiK (K := K) rfl) (by rfl) (T.free 0) (by decide +kernel) (pa_cons (pe_ix (Y.ix_tupK (K := K) rfl) (pv 0) pe_int (fun _ _ => rfl)) (pa_cons (pe_bltn (v := .ty "str") (by rfl) (T.free 11) (by decide +kernel) rfl) pa_nil))) (pe_one (pe_cmpR (Y.op_eqDK (K := K) rfl hr.units) (pe_ix (Y.ix_tupK (K := K) rfl) (pv 0) pe_int (fun _ _ => rfl)) (pv 1) (nomark _)))))))), ?_⟩
    walk_at "sx"
    rcases hv with ⟨d, hd, h2, q⟩ | ⟨t, xs, s, rfl, hs, hn, h0, hsh, q⟩ | ⟨t, xs, a, d, rfl, hs, hn, h0, da, hno, q⟩
    · refine ⟨G, v, d, n, rfl, e, hd, ?_⟩
      rw [h2]
      refine ⟨_, rfl, ?_⟩
      refine g_bool (fun h => nomatch h) (fun _ => ?_)
      exact q
    · refine ⟨G, .ref t, .tuple (List.replicate xs.length .none), n, rfl, e, .inr (.inl ⟨t, _, _, rfl, hs, rfl, List.length_replicate ..⟩), ?_⟩
      rw [show tupleOf (.tuple (List.replicate xs.length .none)) n = true by show decide (((List.replicate xs.length PyData.none).length : Int) = n) = true; rw [List.length_replicate]; exact decide_eq_true hn]
      refine ⟨true, rfl, ?_⟩
      refine g_bool (fun _ => ?_) (fun h => nomatch h)
      walk_at "sx"
      refine g_ixTR (k := 0) e hs h0 rfl ?_
      walk_at "sx"
      refine g_isi (K := K) (b := true) (d := .str s) e (.str _) (by rfl) ?_
      refine ⟨true, rfl, ?_⟩
      refine g_bool (fun _ => ?_) (fun h => nomatch h)
      walk_at "sx"
      refine g_ixTR (k := 0) e hs h0 rfl ?_
      walk_at "sx"
      refine g_eqD (K := K) (d := .str s) (d' := .str k) e (.str _) (.str _) hsh hk ?_
      have ee : PyData.eqv (.str s) (.str k) = decide (s = k) := by
        show (s == k) = _
        by_cases h : s = k
        · rw [decide_eq_true h, h]; simp
        · rw [decide_eq_false h]; exact beq_eq_false_iff_ne.mpr h
      rw [ee]
      exact q
    · refine ⟨G, .ref t, .tuple (List.replicate xs.length .none), n, rfl, e, .inr (.inl ⟨t, _, _, rfl, hs, rfl, List.length_replicate ..⟩), ?_⟩
      rw [show tupleOf (.tuple (List.replicate xs.length .none)) n = true by show decide (((List.replicate xs.length PyData.none).length : Int) = n) = true; rw [List.length_replicate]; exact decide_eq_true hn]
      refine ⟨true, rfl, ?_⟩
      refine g_bool (fun _ => ?_) (fun h => nomatch h)
      walk_at "sx"
      refine g_ixTR (k := 0) e hs h0 rfl ?_
      walk_at "sx"
      have hb : kitB (tyN d) "str" = some false := by
        cases d with
        | str s => exact absurd rfl (hno s)
        | dict _ => exact (dp_nodict da).elim
        | _ => rfl
      refine g_isi (K := K) (b := false) e da hb ?_
      refine ⟨false, rfl, ?_⟩
      refine g_bool (fun h => nomatch h) (fun _ => ?_)
      exact q
def cellOfD (d : PyData) : Cell := match d with
  | .tuple [.int a, .int b] => (a, b)
  | _ => (0, 0)
theorem isCell_of {d : PyData} (h : isCell d = true) : d = celD (cellOfD d) := by
  match d with
  | .tuple [.int a, .int b] => rfl
  | .tuple [] => cases h
  | .tuple [_] => cases h
  | .tuple (_ :: _ :: _ :: _) => cases h
  | .none => cases h
  | .bool _ => cases h
  | .int _ => cases h
  | .str _ => cases h
  | .list _ => cases h
  | .dict _ => cases h
def intOf (d : PyData) : Int := match d with
  | .int i => i
  | _ => 0
noncomputable def surB (g : Grd) (f : Int) (c x : PyData) : Bool := isCell c && isWhole x && match gtM g (cellOfD c) with
  | some rs => decide (intOf x = bestF rs ∧ 0 ≤ f - (lowN g).sum ∧ f - (lowN g).sum < addF rs)
  | none => false
def sp__is_surely (K : PySem.W.Frag) : Sp := fun vs H Q _ => ∃ G d f y x g c dx, vs = [.ref d, .int f, y, x] ∧ Y.Ex G H ∧ TbAt K G H ∧ DtAt K d G H (grD g) ∧ GrOk g ∧ Dp K G x dx ∧ ((Dp K G y c ∧ isCell c = false ∧ Q (.bl false) H) ∨ ∃ cc, Cl G y cc ∧ ∀ G' H', Nx [lamP K] G H G' H' → TbAt K G' H' → DtAt K d G' H' (grD g) → Q (.bl (surB g f (celD cc) dx)) H')
theorem ok__is_surely (T : Tx fa fn bx K mg) (TB : LamX.TabB base mg (lamC K) (lamP K)) : FnOk P w K mg base CX0 6 (He.ga K "_is_surely") (fdOf K (He.ga K "_is_surely")) ["ground", "faults", "cell", "value"] (sp__is_surely K) := by
  refine FunD.ok (F__is_surely T) sc__is_surely (fun vs H Q E h => ?_) (fun cdv A outer s H vs Q E hr h => ?_)
  · obtain ⟨_, _, _, _, _, _, _, _, rfl, _⟩ := h
    rfl
  · obtain ⟨G, d, f, y, x, g, c, dx, rfl, e, t, r, k, hx, hv⟩ := h
    refine ⟨_, PSs.nox ((pss_cons (ps_if (PW.pt (pw_or (pt_not (pt_val (Y.pe_callC (ok_is_cell T) (cal_is_cell T) (hr.mono (by decide)) (by rfl) pass0 (pa_cons (pv 2) pa_nil)))) (pw_or (pt_cmp (pc_dnotin (hu_of hr) (pv 2) (pv 0))) (pw_or1 (pt_not (pt_val (Y.pe_callC (ok_is_whole T) (cal_is_whole T) (hr.mono (by decide)) (by rfl) pass0 (pa_cons (pv 3) pa_nil))))))))
      (pss_one (ps_ret pe_bl))
      pss_nil)
      (pss_one (ps_ret (pe_and (pe_cmpR op_eq (pv 3) (Y.pe_callC (ok_best T TB) (cal_best T) (hr.mono (by decide)) (by rfl) pass0 (pa_cons (pv 0) (pa_cons (pv 2) pa_nil))) (nomark _)) (pe_one (Y.pe_callC (ok_is_sure T TB) (cal_is_sure T) (hr.mono (by decide)) (by rfl) pass0 (pa_cons (pv 0) (pa_cons (pv 1) (pa_cons (pv 2) pa_nil)))))))))), ?_⟩
    walk_at "sx"
    rcases hv with ⟨hy, hc, q⟩ | ⟨cc, hy, q⟩
    · refine ⟨G, y, c, rfl, e, hy, ?_⟩
      rw [hc]
      refine ⟨false, rfl, ?_⟩
      refine g_nbool (fun _ => ?_) (fun h => nomatch h)
      walk_at "sx"
      exact q
    · refine ⟨G, y, celD cc, rfl, e, hy.dp, ?_⟩
      refine ⟨true, rfl, ?_⟩
      refine g_nbool (fun h => nomatch h) (fun _ => ?_)
      walk_at "sx"
      refine g_dtNi e r.rd hy ?_
      walk_at "sx"
      rw [grD_gt, Option.isSome_map]
      cases hg : gtM g cc with
      | none =>
        rw [Option.isSome_none]
        walk_at "sx"
        have := q G H (Nx.refl e) t r
        rw [show surB g f (celD cc) dx = false by
          unfold surB
          rw [show cellOfD (celD cc) = cc from rfl, hg]
          simp] at this
        exact this
      | some rs =>
        rw [Option.isSome_some]
        walk_at "sx"
        refine ⟨G, x, dx, rfl, e, hx, ?_⟩
        have hsur : surB g f (celD cc) dx = (isWhole dx && decide (intOf dx = bestF rs ∧ 0 ≤ f - (lowN g).sum ∧ f - (lowN g).sum < addF rs)) := by
          unfold surB
          rw [show cellOfD (celD cc) = cc from rfl, hg, show isCell (celD cc) = true from rfl]
          simp
        cases hw : isWhole dx with
        | false =>
          refine ⟨false, rfl, ?_⟩
          refine g_nbool (fun _ => ?_) (fun h => nomatch h)
          walk_at "sx"
          have := q G H (Nx.refl e) t r
          rw [hsur, hw] at this
          exact this
        | true =>
          refine ⟨true, rfl, ?_⟩
          refine g_nbool (fun h => nomatch h) (fun _ => ?_)
          walk_at "sx"
          obtain ⟨i, rfl⟩ : ∃ i, dx = .int i := by cases dx <;> first | exact ⟨_, rfl⟩ | cases hw
          cases dp_int hx
          have hm := gtM_mem hg
          have hro := k.row _ hm
          refine ⟨G, d, y, g, cc, rs, rfl, e, t, r.rd, hy, hg, hro.2, hro.1, fun b G1 H1 n1 t1 hb => ?_⟩
          have eb := bestF_eq hb
          subst eb
          walk_at "sx"
          have hd : d ∉ [lamP K] := fun z => t.neT r.rd (List.mem_singleton.mp z)
          have r1 := r.go n1 hd
          refine g_dec (fun h1 => ?_) (fun h1 => ?_) <;> walk_at "sx"
          · refine ⟨G1, d, f, y, g, cc, rs, rfl, n1.gh, t1, r1, k, hy.go n1.gg, hg, fun G2 H2 n2 t2 r2 => ?_⟩
            have := q G2 H2 (n1.trans n2) t2 r2
            rw [hsur] at this
            have e1 : (isWhole (.int i) && decide (intOf (.int i) = bestF rs ∧ 0 ≤ f - (lowN g).sum ∧ f - (lowN g).sum < addF rs)) = decide (0 ≤ f - (lowN g).sum ∧ f - (lowN g).sum < addF rs) := by
              rw [hw, Bool.true_and]
              exact decide_eq_decide.mpr ⟨fun h => h.2, fun h => ⟨h1, h⟩⟩
            rw [e1] at this
            exact this
          · have := q G1 H1 n1 t1 r1
            rw [hsur, hw, Bool.true_and, decide_eq_false (fun h => h1 h.1)] at this
            exact this
/-- no paper of this kind and length -/
def Rej (K : PySem.W.Frag) (G H : Hp) (v : V) (k : Str) (n : Int) : Prop := (∃ d, TupIs K G H v d ∧ tupleOf d n = false) ∨ (∃ t xs s, v = .ref t ∧ SqT K G t xs ∧ (xs.length : Int) = n ∧ xs[0]? = some (.str s) ∧ SeqAt.shaped (.str s) = true ∧ s ≠ k) ∨ ∃ t xs a d, v = .ref t ∧ SqT K G t xs ∧ (xs.length : Int) = n ∧ xs[0]? = some a ∧ Dp K G a d ∧ ∀ s, d ≠ .str s
theorem rej_len {K : PySem.W.Frag} {G H : Hp} {t : Addr} {xs : List V} {k : Str} {n : Int} (h : SqT K G t xs) (hn : (xs.length : Int) ≠ n) : Rej K G H (.ref t) k n :=
  .inl ⟨.tuple (List.replicate xs.length .none), .inr (.inl ⟨t, xs, _, rfl, h, rfl, List.length_replicate ..⟩), by show decide (((List.replicate xs.length PyData.none).length : Int) = n) = false; rw [List.length_replicate]; exact decide_eq_false hn⟩
theorem rej_call {K : PySem.W.Frag} {G H : Hp} {v : V} {k : Str} {n : Int} {Q : VK} {E : XK} (h : Rej K G H v k n) (e : Ex G H) (hk : SeqAt.shaped (.str k) = true) (q : Q (.bl false) H) : sp__is_paper K [v, .str k, .int n] H Q E := by
  rcases h with ⟨d, h1, h2⟩ | ⟨t, xs, s, rfl, h1, h2, h3, h4, h5⟩ | ⟨t, xs, a, d, rfl, h1, h2, h3, h4, h5⟩
  · exact ⟨G, v, k, n, rfl, e, hk, .inl ⟨d, h1, h2, q⟩⟩
  · refine ⟨G, .ref t, k, n, rfl, e, hk, .inr (.inl ⟨t, xs, s, rfl, h1, h2, h3, h4, ?_⟩)⟩
    rw [decide_eq_false h5]
    exact q
  · exact ⟨G, .ref t, k, n, rfl, e, hk, .inr (.inr ⟨t, xs, a, d, rfl, h1, h2, h3, h4, h5, q⟩)⟩
theorem acc_call {K : PySem.W.Frag} {G H : Hp} {t : Addr} {xs : List V} {k : Str} {n : Int} {Q : VK} {E : XK} (h : SqT K G t xs) (hn : (xs.length : Int) = n) (h0 : xs[0]? = some (.str k)) (e : Ex G H) (hk : SeqAt.shaped (.str k) = true) (q : Q (.bl true) H) : sp__is_paper K [.ref t, .str k, .int n] H Q E := by
  refine ⟨G, .ref t, k, n, rfl, e, hk, .inr (.inl ⟨t, xs, k, rfl, h, hn, h0, hk, ?_⟩)⟩
  rw [decide_eq_true rfl]
  exact q
def sp_judges_cell (K : PySem.W.Frag) : Sp := fun vs H Q _ => ∃ G d f v g, vs = [.ref d, .int f, v] ∧ Y.Ex G H ∧ TbAt K G H ∧ DtAt K d G H (grD g) ∧ GrOk g ∧ (∀ e ∈ g, e.2.length ≤ 5) ∧ g.length ≤ 6 ∧
  ((Rej K G H v "sure" 3 ∧ Rej K G H v "open" 4 ∧ Rej K G H v "none" 1 ∧ Q (.bl false) H) ∨
   (∃ t, v = .ref t ∧ SqT K G t [.str "none"] ∧ ∀ G' H', Nx [lamP K] G H G' H' → TbAt K G' H' → DtAt K d G' H' (grD g) → Q (.bl (decide (f < (lowN g).sum))) H') ∨
   (∃ t y x dx, v = .ref t ∧ SqT K G t [.str "sure", y, x] ∧ Dp K G x dx ∧ ((∃ cc, Cl G y cc ∧ ∀ G' H', Nx [lamP K] G H G' H' → TbAt K G' H' → DtAt K d G' H' (grD g) → Q (.bl (surB g f (celD cc) dx)) H') ∨ ∃ c, Dp K G y c ∧ isCell c = false ∧ Q (.bl false) H)) ∨
   (∃ t y u1 u2 cc b1 b2 o1 o2, v = .ref t ∧ SqT K G t [.str "open", y, u1, u2] ∧ Cl G y cc ∧ ExpV K d g f u1 b1 o1 G H ∧ ExpV K d g f u2 b2 o2 G H ∧ ∀ G' H', Nx [lamP K] G H G' H' → TbAt K G' H' → DtAt K d G' H' (grD g) → Q (.bl (opB g cc b1 b2 o1 o2)) H'))
theorem ok_judges_cell (T : Tx fa fn bx K mg) (TB : LamX.TabB base mg (lamC K) (lamP K)) : FnOk P w K mg base CX0 7 (He.ga K "judges_cell") (fdOf K (He.ga K "judges_cell")) ["ground", "faults", "value"] (sp_judges_cell K) := by
  refine FunD.ok (F_judges_cell T) sc_judges_cell (fun vs H Q E h => ?_) (fun cdv A outer s H vs Q E hr h => ?_)
  · obtain ⟨_, _, _, _, _, rfl, _⟩ := h
    rfl
  · obtain ⟨G, d, f, v, g, rfl, e, t, r, gok, hr5, hg6, hv⟩ := h
    refine ⟨_, PSs.nox ((pss_cons (ps_if (pt_val (Y.pe_callC (ok__is_paper T) (cal__is_paper T) (hr.mono (by decide)) (by rfl) pass0 (pa_cons (pv 2) (pa_cons pe_str (pa_cons pe_int pa_nil)))))
      (pss_one (ps_ret (Y.pe_callC (ok__is_surely T TB) (cal__is_surely T) (hr.mono (by decide)) (by rfl) pass0 (pa_cons (pv 0) (pa_cons (pv 1) (pa_cons (pe_ix (Y.ix_tupK (K := K) rfl) (pv 2) pe_int (fun _ _ => rfl)) (pa_cons (pe_ix (Y.ix_tupK (K := K) rfl) (pv 2) pe_int (fun _ _ => rfl)) pa_nil)))))))
      pss_nil)
      (pss_cons (ps_if (pt_val (Y.pe_callC (ok__is_paper T) (cal__is_paper T) (hr.mono (by decide)) (by rfl) pass0 (pa_cons (pv 2) (pa_cons pe_str (pa_cons pe_int pa_nil)))))
      (pss_one (ps_ret (Y.pe_callC (ok__is_open T) (cal__is_open T) (hr.mono (by decide)) (by rfl) pass0 (pa_cons (pv 0) (pa_cons (pv 1) (pa_cons (pe_ix (Y.ix_tupK (K := K) rfl) (pv 2) pe_int (fun _ _ => rfl)) (pa_cons (pe_slice (Y.sl_tupAK (K := K) rfl) (pv 2) (po_some pe_int) po_none) pa_nil)))))))
      pss_nil)
      (pss_one (ps_ret (pe_and (Y.pe_callC (ok__is_paper T) (cal__is_paper T) (hr.mono (by decide)) (by rfl) pass0 (pa_cons (pv 2) (pa_cons pe_str (pa_cons pe_int pa_nil)))) (pe_one (pe_cmpR op_gt (Y.pe_callC (ok_least_cost T) (cal_least_cost T) (hr.mono (by decide)) (by rfl) pass0 (pa_cons (pv 0) pa_nil)) (pv 1) (nomark _))))))))), ?_⟩
    have s1 : SeqAt.shaped (.str "sure") = true := by decide +kernel
    have s2 : SeqAt.shaped (.str "open") = true := by decide +kernel
    have s3 : SeqAt.shaped (.str "none") = true := by decide +kernel
    walk_at "sx"
    rcases hv with ⟨j1, j2, j3, q⟩ | ⟨t0, rfl, hT, q⟩ | ⟨t0, y, x, dx, rfl, hT, hx, hc⟩ | ⟨t0, y, u1, u2, cc, b1, b2, o1, o2, rfl, hT, hy, hE1, hE2, q⟩
    · refine rej_call j1 e s1 ?_
      refine ⟨false, rfl, ?_⟩
      refine g_bool (fun h => nomatch h) (fun _ => ?_)
      walk_at "sx"
      refine rej_call j2 e s2 ?_
      refine ⟨false, rfl, ?_⟩
      refine g_bool (fun h => nomatch h) (fun _ => ?_)
      walk_at "sx"
      refine rej_call j3 e s3 ?_
      refine ⟨false, rfl, ?_⟩
      refine g_bool (fun h => nomatch h) (fun _ => ?_)
      exact q
    · refine rej_call (rej_len hT (by simp)) e s1 ?_
      refine ⟨false, rfl, ?_⟩
      refine g_bool (fun h => nomatch h) (fun _ => ?_)
      walk_at "sx"
      refine rej_call (rej_len hT (by simp)) e s2 ?_
      refine ⟨false, rfl, ?_⟩
      refine g_bool (fun h => nomatch h) (fun _ => ?_)
      walk_at "sx"
      refine acc_call hT rfl rfl e s3 ?_
      refine ⟨true, rfl, ?_⟩
      refine g_bool (fun _ => ?_) (fun h => nomatch h)
      walk_at "sx"
      refine ⟨G, d, g, rfl, e, r, gok, fun G1 H1 n1 r1 => ?_⟩
      walk_at "sx"
      exact q G1 H1 n1.pure (t.go n1 (by simp)) r1
    · refine acc_call hT rfl rfl e s1 ?_
      refine ⟨true, rfl, ?_⟩
      refine g_bool (fun _ => ?_) (fun h => nomatch h)
      walk_at "sx"
      refine g_ixTR (k := 1) e hT rfl rfl ?_
      walk_at "sx"
      refine g_ixTR (k := 2) e hT rfl rfl ?_
      walk_at "sx"
      rcases hc with ⟨cc, hy, q⟩ | ⟨c, hy, hcc, q⟩
      · exact ⟨G, d, f, y, x, g, .none, dx, rfl, e, t, r, gok, hx, .inr ⟨cc, hy, q⟩⟩
      · exact ⟨G, d, f, y, x, g, c, dx, rfl, e, t, r, gok, hx, .inl ⟨hy, hcc, q⟩⟩
    · refine rej_call (rej_len hT (by simp)) e s1 ?_
      refine ⟨false, rfl, ?_⟩
      refine g_bool (fun h => nomatch h) (fun _ => ?_)
      walk_at "sx"
      refine acc_call hT rfl rfl e s2 ?_
      refine ⟨true, rfl, ?_⟩
      refine g_bool (fun _ => ?_) (fun h => nomatch h)
      walk_at "sx"
      refine g_ixTR (k := 1) e hT rfl rfl ?_
      walk_at "sx"
      refine g_slAR (ys := [u1, u2]) e hT (by rw [show (some 2 : Option Int) = some ((2 : Nat) : Int) from rfl, cut_lo]; rfl) fun pt G1 H1 n1 hT1 => ?_
      walk_at "sx"
      refine ⟨G1, d, f, y, pt, u1, u2, g, b1, b2, o1, o2, rfl, n1.gh, r.go n1 (by simp), gok, hr5, hg6, hT1, hE1.go n1, hE2.go n1, .inr ⟨cc, hy.go n1.gg, fun G2 H2 n2 => ?_⟩⟩
      have n12 := n1.trans n2
      exact q G2 H2 n12.pure (t.go n12 (by simp)) (r.go n12 (by simp))
/-! ### what is judged, and what it costs -/
theorem wrongOf_len {vl : Vals} {e : Cell × Rws} {y : Int} (h : gtM vl e.1 = some y) : (wrongOf vl e).length = costN e.2 y := by
  unfold wrongOf costN
  rw [List.length_map, h]
  congr 1
  refine List.filter_congr fun r _ => ?_
  exact decide_eq_decide.mpr ⟨fun k z => k (by rw [z]), fun k z => k (Option.some.inj z)⟩
theorem wrongs_sum {vl : Vals} : ∀ {g : Grd}, (∀ c ∈ g.map (·.1), (gtM vl c).isSome = true) → ((wrongs g vl).length : Int) = (paidN g vl).sum
  | [], _ => rfl
  | e :: g, h => by
    have ih := wrongs_sum (vl := vl) (g := g) fun c hc => h c (List.mem_cons_of_mem _ hc)
    obtain ⟨y, hy⟩ := Option.isSome_iff_exists.mp (h e.1 (by simp))
    unfold wrongs paidN at ih ⊢
    rw [List.flatMap_cons, List.length_append, List.map_cons, List.sum_cons, wrongOf_len hy, hy, ← ih]
    simp
theorem gtM_rev {κ α : Type} [DecidableEq κ] {m : List (κ × α)} {k : κ} (h : (m.map (·.1)).Nodup) : gtM m.reverse k = gtM m k := by
  have h2 : (m.reverse.map (·.1)).Nodup := by rw [List.map_reverse]; exact (List.reverse_perm _).nodup_iff.mpr h
  cases e : gtM m k with
  | some x => exact mem_gtM h2 (List.mem_reverse.mpr (gtM_mem e))
  | none =>
    have := gtM_none.mp e
    exact gtM_none.mpr fun z => this (by rw [List.map_reverse] at z; exact List.mem_reverse.mp z)
theorem has_keys {vl : Vals} {g : Grd} (h : vl.map (·.1) = g.map (·.1)) : hasB vl g = true := by
  unfold hasB
  have hl : vl.length = g.length := by
    have := congrArg List.length h
    simpa using this
  rw [decide_eq_true hl, Bool.true_and, List.all_eq_true]
  intro e he
  have : e.1 ∈ g.map (·.1) := by rw [← h]; exact List.mem_map.mpr ⟨e, he, rfl⟩
  cases e1 : gtM g e.1 with
  | some x => rfl
  | none => exact absurd this (gtM_none.mp e1)
theorem all_keys {vl : Vals} {g : Grd} (h : vl.map (·.1) = g.map (·.1)) : ∀ c ∈ g.map (·.1), (gtM vl c).isSome = true := fun c hc => by
  rw [← h] at hc
  cases e1 : gtM vl c with
  | some x => rfl
  | none => exact absurd hc (gtM_none.mp e1)
theorem expl_keys {vl : Vals} {g : Grd} {f : Int} (h : vl.map (·.1) = g.map (·.1)) : explB vl g f = decide ((paidN g vl).sum ≤ f) := by
  unfold explB
  rw [has_keys h, wrongs_sum (all_keys h)]
  rfl
theorem wrongs_rev {vl : Vals} {g : Grd} (h : (vl.map (·.1)).Nodup) : wrongs g vl.reverse = wrongs g vl := by
  unfold wrongs
  congr 1
  funext e
  unfold wrongOf
  rw [gtM_rev h]
theorem has_rev {vl : Vals} {g : Grd} : hasB vl.reverse g = hasB vl g := by
  unfold hasB
  rw [List.length_reverse, List.all_reverse]
theorem expl_rev {vl : Vals} {g : Grd} {f : Int} (h : (vl.map (·.1)).Nodup) : explB vl.reverse g f = explB vl g f := by
  unfold explB
  rw [has_rev, wrongs_rev h]
theorem plain_keys {g : Grd} : (plainF g).map (·.1) = g.map (·.1) := by unfold plainF; rw [List.map_map]; rfl
theorem plain_gt {g : Grd} (hn : (g.map (·.1)).Nodup) {c : Cell} {rs : Rws} (hm : (c, rs) ∈ g) : gtM (plainF g) c = some (bestF rs) := by
  refine mem_gtM (by rw [plain_keys]; exact hn) (List.mem_map.mpr ⟨_, hm, rfl⟩)
theorem plain_paid {g : Grd} (hn : (g.map (·.1)).Nodup) (hr : ∀ e ∈ g, e.2 ≠ []) : (paidN g (plainF g)).sum = (lowN g).sum := by
  unfold paidN
  rw [lowN_eq]
  congr 1
  refine List.map_congr_left fun e he => ?_
  rw [plain_gt hn (c := e.1) (rs := e.2) he, low_best (hr e he)]
  rfl
/-- the second ground: the other value at one cell -/
theorem second_paid {vl : Vals} : ∀ {g : Grd} {c : Cell} {rs : Rws}, (g.map (·.1)).Nodup → (∀ e ∈ g, e.2 ≠ []) → (c, rs) ∈ g → (∀ e ∈ g, gtM vl e.1 = some (if e.1 = c then otherF e.2 else bestF e.2)) → (paidN g vl).sum = (lowN g).sum + addF rs
  | [], _, _, _, _, h, _ => by cases h
  | e :: g, c, rs, hn, hr, hm, hv => by
    rw [List.map_cons, List.nodup_cons] at hn
    have hr2 : ∀ e ∈ g, e.2 ≠ [] := fun e' he' => hr e' (List.mem_cons_of_mem _ he')
    have hv2 : ∀ e ∈ g, gtM vl e.1 = some (if e.1 = c then otherF e.2 else bestF e.2) := fun e' he' => hv e' (List.mem_cons_of_mem _ he')
    have h0 := hv e (by simp)
    unfold paidN
    rw [lowN_eq, List.map_cons, List.sum_cons, List.map_cons, List.sum_cons, h0, ← lowN_eq]
    rcases List.mem_cons.mp hm with rfl | hm
    · rw [if_pos rfl]
      have h1 : (g.map fun e => (costN e.2 ((gtM vl e.1).getD 0) : Int)) = lowN g := by
        rw [lowN_eq]
        refine List.map_congr_left fun e' he' => ?_
        rw [hv2 e' he', if_neg (fun z => hn.1 (List.mem_map.mpr ⟨e', he', z⟩)), low_best (hr2 e' he')]
        rfl
      rw [h1]
      have := cost_other (hr (c, rs) (by simp))
      simp only [Option.getD_some] at *
      omega
    · have ih := second_paid hn.2 hr2 hm hv2
      unfold paidN at ih
      rw [ih, if_neg (fun z : e.1 = c => hn.1 (List.mem_map.mpr ⟨_, hm, z.symm⟩))]
      have := low_best (hr e (by simp))
      simp only [Option.getD_some] at *
      omega
theorem second_gt {g : Grd} (hn : (g.map (·.1)).Nodup) {c : Cell} {rs : Rws} (hm : (c, rs) ∈ g) : ∀ e ∈ g, gtM (ptM (plainF g) c (otherF rs)) e.1 = some (if e.1 = c then otherF e.2 else bestF e.2) := fun e he => by
  rw [gtM_ptM]
  by_cases h : c = e.1
  · subst h
    rw [if_pos rfl, if_pos rfl]
    have h1 := mem_gtM hn hm
    have h2 := mem_gtM hn (k := e.1) (a := e.2) he
    rw [h1] at h2
    rw [Option.some.inj h2]
  · rw [if_neg h, if_neg (fun z => h z.symm)]
    exact plain_gt hn he
theorem second_keys {g : Grd} {c : Cell} {x : Int} (hc : c ∈ g.map (·.1)) : (ptM (plainF g) c x).map (·.1) = g.map (·.1) := by
  rw [keys_ptM, plain_keys, if_pos hc]
theorem pe_notTK {X : Cx} {K : PySem.W.Frag} {a : Expr} {ta : TE} {pos : Pos} (h : X.K = K) (ha : PE X a ta) : PE X (.UnaryOp .Not a pos) (tNotT K ta) := h ▸ pe_notT ha
theorem g_notT36 {K : PySem.W.Frag} {ta : TE} {σ : L2.St} {H : Hp} {Q : VK} (q : ta σ H fun x H1 => TruW K (fun k H2 => Q (.bl (!k)) H2) x H1) : tNotT K ta σ H Q := q
theorem eqv_one {ns : List Int} {x : Int} : PyData.eqv (.list (ns.map .int)) (.list [.int x]) = decide (ns = [x]) := by
  match ns with
  | [] => simp [PyData.eqv, PyData.eqvAll]
  | [y] =>
    by_cases h : y = x
    · subst h; simp [PyData.eqv, PyData.eqvAll]
    · simp [PyData.eqv, PyData.eqvAll, h]
  | y :: z :: r => simp [PyData.eqv, PyData.eqvAll]
theorem nodup_one {x : Int} : ∀ {sn : List Int}, sn.Nodup → (∀ y ∈ sn, y = x) → sn ≠ [] → sn = [x]
  | [], _, _, h => absurd rfl h
  | [y], _, h, _ => by rw [h y (by simp)]
  | y :: z :: r, hn, h, _ => by
    have h1 := h y (by simp)
    have h2 := h z (by simp)
    rw [List.nodup_cons] at hn
    exact absurd (by rw [h1, h2]; simp) hn.1
theorem vals_ne {F : List Vals} {c : Cell} (h : F ≠ []) : valsAt F c ≠ [] := fun z => h (by
  have := congrArg List.length z
  unfold valsAt at this
  rw [List.length_map] at this
  exact List.eq_nil_of_length_eq_zero this)
theorem seen_sure {g : Grd} {f : Int} {F : List Vals} {c : Cell} {rs : Rws} {sn : List Int} {x : Int} (aF : AllF g f F) (hm : (c, rs) ∈ g) (hn : sn.Nodup) (hs : ∀ x, x ∈ sn ↔ x ∈ valsAt F c) : sn = [x] ↔ x = bestF rs ∧ 0 ≤ f - (lowN g).sum ∧ f - (lowN g).sum < addF rs := by
  constructor
  · intro h
    have hx : x ∈ valsAt F c := (hs x).mp (by rw [h]; simp)
    have hall : ∀ y ∈ valsAt F c, y = x := fun y hy => by
      have := (hs y).mpr hy
      rw [h] at this
      exact List.mem_singleton.mp this
    have h1 := aF.sure hm hx
    refine ⟨h1.2 hall, ?_, h1.1.mp hall⟩
    apply Classical.byContradiction
    intro hc
    have := aF.none.mpr (by omega)
    rw [this] at hx
    cases hx
  · rintro ⟨rfl, h0, h1⟩
    have hF : F ≠ [] := fun z => by have := aF.none.mp z; omega
    obtain ⟨v, hv⟩ := List.exists_mem_of_ne_nil _ (vals_ne (c := c) hF)
    have h2 := aF.sure hm hv
    have hall := h2.1.mpr h1
    have hb := h2.2 hall
    refine nodup_one hn (fun y hy => (hall y ((hs y).mp hy)).trans hb) (fun z => ?_)
    have := (hs v).mpr hv
    rw [z] at this
    cases this
theorem seen_sur {g : Grd} {f : Int} {F : List Vals} {c : Cell} {rs : Rws} {sn : List Int} {x : Int} (aF : AllF g f F) (hm : (c, rs) ∈ g) (hn : sn.Nodup) (hs : ∀ x, x ∈ sn ↔ x ∈ valsAt F c) : surB g f (celD c) (.int x) = decide (sn = [x]) := by
  unfold surB
  rw [show isCell (celD c) = true from rfl, show isWhole (.int x) = true from rfl, show cellOfD (celD c) = c from rfl, mem_gtM aF.nd hm]
  show (true && true && decide (x = bestF rs ∧ _)) = _
  rw [Bool.and_self, Bool.true_and]
  exact decide_eq_decide.mpr (seen_sure aF hm hn hs).symm
theorem seen_nil {g : Grd} {f : Int} {F : List Vals} {c : Cell} {sn : List Int} (aF : AllF g f F) (hs : ∀ x, x ∈ sn ↔ x ∈ valsAt F c) : sn = [] ↔ f - (lowN g).sum < 0 := by
  rw [← aF.none]
  constructor
  · intro h
    apply Classical.byContradiction
    intro hc
    obtain ⟨v, hv⟩ := List.exists_mem_of_ne_nil _ (vals_ne (c := c) hc)
    have := (hs v).mpr hv
    rw [h] at this
    cases this
  · intro h
    cases sn with
    | nil => rfl
    | cons v r =>
      have := (hs v).mp (by simp)
      rw [h] at this
      cases this
theorem seen_many {g : Grd} {f : Int} {F : List Vals} {c : Cell} {rs : Rws} {sn : List Int} (aF : AllF g f F) (hm : (c, rs) ∈ g) (hn : sn.Nodup) (hs : ∀ x, x ∈ sn ↔ x ∈ valsAt F c) (h0 : 0 ≤ f - (lowN g).sum) (h1 : ¬ f - (lowN g).sum < addF rs) : 2 ≤ sn.length := by
  match sn, hn, hs with
  | [], hn, hs => have := (seen_nil aF hs).mp rfl; omega
  | [x], hn, hs => exact absurd ((seen_sure aF hm hn hs).mp rfl).2.2 h1
  | _ :: _ :: _, _, _ => simp
def kindS (n : Nat) : Str := if n = 0 then "none" else if n = 1 then "sure" else "open"
theorem kind_at (n : Nat) : ([.str "none", .str "sure", .str "open"] : List V)[min n 2]? = some (.str (kindS n)) := by
  unfold kindS
  match n with
  | 0 => rfl
  | 1 => rfl
  | n + 2 =>
    rw [show min (n + 2) 2 = 2 by omega, if_neg (by omega), if_neg (by omega)]
    rfl
theorem shaped_ints {ns : List Int} (h : ns.length ≤ 100000) : SeqAt.shaped (.list (ns.map .int)) = true := by
  refine shaped_fit ?_ ?_
  · rw [fit, List.length_map, decide_eq_true h, Bool.true_and]
    refine fitAll_iff.mpr fun d hd => ?_
    obtain ⟨i, _, rfl⟩ := List.mem_map.mp hd
    rfl
  · have : ∀ ns : List Int, PyData.depthAll (ns.map .int) ≤ 1 := fun ns => by
      induction ns with
      | nil => simp [PyData.depthAll]
      | cons n ns ih => simp only [List.map_cons, PyData.depthAll, PyData.depth]; omega
    have := this ns
    simp only [PyData.depth]
    omega
theorem open_true {g : Grd} {f : Int} {c : Cell} {rs : Rws} (hn : (g.map (·.1)).Nodup) (hr : ∀ e ∈ g, e.2 ≠ []) (hm : (c, rs) ∈ g) (h0 : 0 ≤ f - (lowN g).sum) (h1 : ¬ f - (lowN g).sum < addF rs) :
    opB g c (explB (plainF g) g f) (explB (ptM (plainF g) c (otherF rs)) g f) (some (plainF g)) (some (ptM (plainF g) c (otherF rs))) = true := by
  have hc : c ∈ g.map (·.1) := List.mem_map.mpr ⟨_, hm, rfl⟩
  rw [expl_keys plain_keys, expl_keys (second_keys hc), plain_paid hn hr, second_paid hn hr hm (second_gt hn hm), decide_eq_true (by omega), decide_eq_true (by omega)]
  unfold opB
  rw [mem_gtM hn hm]
  have e1 := plain_gt hn hm
  have e2 := second_gt hn hm _ hm
  rw [if_pos rfl] at e2
  show (true && (true && true) && decide ((gtM (plainF g) c) ≠ (gtM (ptM (plainF g) c (otherF rs)) c))) = true
  rw [e1, e2]
  exact decide_eq_true fun z => other_ne (hr _ hm) (Option.some.inj z).symm
/-- the paper of a cell -/
def PapV (K : PySem.W.Frag) (d : Addr) (g : Grd) (f : Int) (c : Cell) (rs : Rws) (y : V) (m : Nat) (G H : Hp) (t : Addr) : Prop :=
  (m = 0 ∧ f < (lowN g).sum ∧ SqT K G t [.str "none"]) ∨
  (m = 1 ∧ SqT K G t [.str "sure", y, .int (bestF rs)]) ∨
  (2 ≤ m ∧ ∃ p q, p ≠ d ∧ q ≠ d ∧ SqT K G t [.str "open", y, .ref p, .ref q] ∧ DtAt K p G H (inDv (plainF g)) ∧ DtAt K q G H (inDv (ptM (plainF g) c (otherF rs))))
theorem papV_go {K : PySem.W.Frag} {d : Addr} {g : Grd} {f : Int} {c : Cell} {rs : Rws} {y : V} {m : Nat} {G H G' H' : Hp} {t : Addr} (h : PapV K d g f c rs y m G H t) (n : Nx [] G H G' H') : PapV K d g f c rs y m G' H' t := by
  rcases h with ⟨h1, h2, h3⟩ | ⟨h1, h2⟩ | ⟨h1, p, q, h2, h3, h4, h5, h6⟩
  · exact .inl ⟨h1, h2, n.gg.seqT h3⟩
  · exact .inr (.inl ⟨h1, n.gg.seqT h2⟩)
  · exact .inr (.inr ⟨h1, p, q, h2, h3, n.gg.seqT h4, h5.go n (by simp), h6.go n (by simp)⟩)
/-- what stands while the law goes on -/
structure W36 (K : PySem.W.Frag) (a d cl fp : Addr) (g : Grd) (n : Nat) (f : Int) (F : List Vals) (G H : Hp) : Prop where
  ex : Y.Ex G H
  tb : TbAt K G H
  hD : DtAt K d G H (grD g)
  hp : PoolAt K a G H
  hC : ClsAt cl G H (g.map (·.1))
  hF : LsR (DvR K) fp G H F
  hg : GrAt g n
  gok : GrOk g
  hn : n ≤ 4
  hn1 : 1 ≤ n
  aF : AllF g f F
  Fl : F.length ≤ 46656
  f0 : 0 ≤ f
  f4 : f < 5
  da : d ≠ a
  ca : cl ≠ a
  fna : fp ≠ a
  dc : d ≠ cl
section
variable {K : PySem.W.Frag} {a d cl fp : Addr} {g : Grd} {n : Nat} {f : Int} {F : List Vals} {G H G' H' : Hp} {M : List Addr}
theorem tb_pool (t : TbAt K G H) (p : PoolAt K a G H) : a ≠ lamP K := fun z => by
  obtain ⟨_, _, _, _, _, h, _⟩ := p
  obtain ⟨_, tab, h1, _⟩ := t
  rw [← z, h] at h1
  cases h1
theorem tb_raw {p : Addr} {xs : List V} (t : TbAt K G H) (h : H p = some (.lst xs)) : p ≠ lamP K := fun z => by
  obtain ⟨_, tab, h1, _⟩ := t
  rw [← z, h] at h1
  cases h1
theorem W36.goM (W : W36 K a d cl fp g n f F G H) (m : Nx M G H G' H') (t : TbAt K G' H') (p : PoolAt K a G' H') (hM : ∀ b ∈ M, b = a ∨ b = lamP K) : W36 K a d cl fp g n f F G' H' := by
  have h : ∀ x, x ≠ a → x ≠ lamP K → x ∉ M := fun x h1 h2 h3 => (hM x h3).elim h1 h2
  exact ⟨m.gh, t, W.hD.go m (h d W.da (W.tb.neT W.hD.rd)), p, LsR.go cl_mono W.hC m (h cl W.ca (W.tb.neL W.hC)), LsR.go dv_mono W.hF m (h fp W.fna (W.tb.neL W.hF)), W.hg, W.gok, W.hn, W.hn1, W.aF, W.Fl, W.f0, W.f4, W.da, W.ca, W.fna, W.dc⟩
theorem W36.go (W : W36 K a d cl fp g n f F G H) (m : Nx [] G H G' H') : W36 K a d cl fp g n f F G' H' := W.goM m (W.tb.go m (by simp)) (W.hp.go m (by simp)) (by simp)
theorem W36.goP (W : W36 K a d cl fp g n f F G H) (m : Nx [lamP K] G H G' H') (t : TbAt K G' H') : W36 K a d cl fp g n f F G' H' := W.goM m t (W.hp.go m (fun z => tb_pool W.tb W.hp (List.mem_singleton.mp z))) (fun b hb => .inr (List.mem_singleton.mp hb))
theorem W36.goA (W : W36 K a d cl fp g n f F G H) (m : Nx [a] G H G' H') (p : PoolAt K a G' H') : W36 K a d cl fp g n f F G' H' := W.goM m (W.tb.go m (fun z => tb_pool W.tb W.hp (List.mem_singleton.mp z).symm)) p (fun b hb => .inl (List.mem_singleton.mp hb))
theorem W36.r5 (W : W36 K a d cl fp g n f F G H) : ∀ e ∈ g, e.2.length ≤ 5 := fun e he => (W.hg.rows e he).2.1
theorem W36.gl (W : W36 K a d cl fp g n f F G H) : g.length = n := by
  have := congrArg List.length W.hg.keys
  simpa using this
theorem ExpV.goP {u : V} {b : Bool} {ol : Option Vals} (h : ExpV K d g f u b ol G H) (t : TbAt K G H) (m : Nx [lamP K] G H G' H') : ExpV K d g f u b ol G' H' := by
  rcases h with ⟨w, vl, e, hw, r⟩ | ⟨p, xs, e, hp, r⟩
  · exact .inl ⟨w, vl, e, hw.go m (fun z => t.neT hw.rd (List.mem_singleton.mp z)), r⟩
  · exact .inr ⟨p, xs, e, m.fr p _ (fun z => tb_raw t hp (List.mem_singleton.mp z)) hp, r⟩
theorem Rej.goP {v : V} {k : Str} {i : Int} (h : Rej K G H v k i) (t : TbAt K G H) (m : Nx [lamP K] G H G' H') : Rej K G' H' v k i := by
  rcases h with ⟨x, h1, h2⟩ | ⟨u, xs, s, h1, h2, h3⟩ | ⟨u, xs, b, x, h1, h2, h3, h4, h5, h6⟩
  · refine .inl ⟨x, ?_, h2⟩
    rcases h1 with h1 | ⟨u, xs, ds, h1, h3, h4⟩ | ⟨p, xs, ds, h1, h3, h4⟩
    · exact .inl (dp_mono m.gg h1)
    · exact .inr (.inl ⟨u, xs, ds, h1, m.gg.seqT h3, h4⟩)
    · exact .inr (.inr ⟨p, xs, ds, h1, m.fr p _ (fun z => tb_raw t h3 (List.mem_singleton.mp z)) h3, h4⟩)
  · exact .inr (.inl ⟨u, xs, s, h1, m.gg.seqT h2, h3⟩)
  · exact .inr (.inr ⟨u, xs, b, x, h1, m.gg.seqT h2, h3, h4, dp_mono m.gg h5, h6⟩)
/-- values that the judge answers False of -/
def BadC (K : PySem.W.Frag) (d : Addr) (g : Grd) (f : Int) (G H : Hp) (v : V) : Prop :=
  (Rej K G H v "sure" 3 ∧ Rej K G H v "open" 4 ∧ Rej K G H v "none" 1) ∨
  (∃ t y x dx, v = .ref t ∧ SqT K G t [.str "sure", y, x] ∧ Dp K G x dx ∧ ((∃ cc, Cl G y cc ∧ surB g f (celD cc) dx = false) ∨ ∃ c, Dp K G y c ∧ isCell c = false)) ∨
  (∃ t y u1 u2 cc b1 b2 o1 o2, v = .ref t ∧ SqT K G t [.str "open", y, u1, u2] ∧ Cl G y cc ∧ ExpV K d g f u1 b1 o1 G H ∧ ExpV K d g f u2 b2 o2 G H ∧ opB g cc b1 b2 o1 o2 = false)
theorem BadC.goP {v : V} (h : BadC K d g f G H v) (t : TbAt K G H) (m : Nx [lamP K] G H G' H') : BadC K d g f G' H' v := by
  rcases h with ⟨h1, h2, h3⟩ | ⟨u, y, x, dx, h1, h2, h3, h4⟩ | ⟨u, y, u1, u2, cc, b1, b2, o1, o2, h1, h2, h3, h4, h5, h6⟩
  · exact .inl ⟨h1.goP t m, h2.goP t m, h3.goP t m⟩
  · refine .inr (.inl ⟨u, y, x, dx, h1, m.gg.seqT h2, dp_mono m.gg h3, ?_⟩)
    rcases h4 with ⟨cc, h4, h5⟩ | ⟨c, h4, h5⟩
    · exact .inl ⟨cc, h4.go m.gg, h5⟩
    · exact .inr ⟨c, dp_mono m.gg h4, h5⟩
  · exact .inr (.inr ⟨u, y, u1, u2, cc, b1, b2, o1, o2, h1, m.gg.seqT h2, h3.go m.gg, h4.goP t m, h5.goP t m, h6⟩)
theorem BadC.go {v : V} (h : BadC K d g f G H v) (t : TbAt K G H) (m : Nx [] G H G' H') : BadC K d g f G' H' v := h.goP t m.pure
theorem bad_len {t : Addr} {xs : List V} (h : SqT K G t xs) (h1 : xs.length ≠ 3) (h2 : xs.length ≠ 4) (h3 : xs.length ≠ 1) : BadC K d g f G H (.ref t) :=
  .inl ⟨rej_len h (by omega), rej_len h (by omega), rej_len h (by omega)⟩
theorem bad_dat {v : V} {x : PyData} (h : Dp K G v x) (h1 : tupleOf x 3 = false) (h2 : tupleOf x 4 = false) (h3 : tupleOf x 1 = false) : BadC K d g f G H v :=
  .inl ⟨.inl ⟨x, .inl h, h1⟩, .inl ⟨x, .inl h, h2⟩, .inl ⟨x, .inl h, h3⟩⟩
end
theorem g_tyDt {K : PySem.W.Frag} {d : Addr} {G H : Hp} {md : Dt} {P : Prop} (r : DtAt K d G H md) (q : P) : tyV K "dict" (.ref d) H ∧ P := let ⟨kvs, h, _⟩ := r; ⟨.inr (.inr (.inl ⟨rfl, .inr ⟨kvs, h⟩⟩)), q⟩
theorem gt99 {g : Grd} {n : Nat} (h : GrAt g n) : gtM g ((9, 9) : Cell) = none := gtM_none.mpr fun z => by
  rw [h.keys] at z
  obtain ⟨k, _, e⟩ := List.mem_map.mp z
  have := congrArg Prod.fst e
  simp only [cellOf] at this
  omega
theorem sur99 {g : Grd} {n : Nat} (h : GrAt g n) {f : Int} {x : PyData} : surB g f (celD (9, 9)) x = false := by
  unfold surB
  rw [show cellOfD (celD (9, 9)) = (9, 9) from rfl, gt99 h, Bool.and_false]
theorem surNo {g : Grd} {f : Int} {c x : PyData} (h : isWhole x = false) : surB g f c x = false := by
  unfold surB
  rw [h, Bool.and_false, Bool.false_and]
theorem rej_str {K : PySem.W.Frag} {G H : Hp} {t : Addr} {xs : List V} {k s : Str} {n : Int} (h : SqT K G t xs) (hn : (xs.length : Int) = n) (h0 : xs[0]? = some (.str s)) (h1 : SeqAt.shaped (.str s) = true) (h2 : s ≠ k) : Rej K G H (.ref t) k n := .inr (.inl ⟨t, xs, s, rfl, h, hn, h0, h1, h2⟩)
def sp_law (K : PySem.W.Frag) : Sp := fun vs H Q _ => ∃ (G : Hp) (a : Addr) (ns : List Int), vs = [.ref a] ∧ Y.Ex G H ∧ TbAt K G H ∧ SqL K G a (ns.map V.int) ∧ ∀ H', Q (.bl true) H'
theorem rest3_law (T : Tx fa fn bx K mg) (TB : LamX.TabB base mg (lamC K) (lamP K)) {cdv : Value} {A : Around} {outer : List Env} {s : Shared} {H : Hp} {E : XK} (hr : Room 7 (A.deeper (envOfC "law" (defScope s_law) s.heap.objs.size (He.ga K "law") cdv))) : ∃ t, PSs (cxOf CX0 P w K mg base ["script", "pool", "ground", "cells", "faults", "found", "cell", "plain", "less", "values", "value", "seen", "paper", "kind", "k", "pair", "due"] "law" (defScope s_law) (He.ga K "law") cdv A outer s H E).nox ((defBody s_law).drop 11) t ∧ ∀ (D : Ends), ∀ (l a d cl fp pa le b1 : Addr) (y6 y10 y11 y12 y13 y14 y15 y16 : Option V) (g : Grd) (n : Nat) (f : Int) (F : List Vals) (vp : Vals) (c0 : Cell) (rs0 : Rws) (g0 : Grd) (L0 : List V) (G5 H5 : Hp), W36 K a d cl fp g n f F G5 H5 → g = (c0, rs0) :: g0 → vp.map (·.1) = g.map (·.1) → pa ≠ d → le ≠ d → DtAt K pa G5 H5 (inDv vp) → DtAt K le G5 H5 (inDv (vp.drop 1)) → H5 b1 = some (.lst L0) → L0.length = 9 → (∀ v ∈ L0, BadC K d g 99 G5 H5 v) → (∀ H', D.rt (.bl true) H') →
  t D [some (.ref l), some (.ref a), some (.ref d), some (.ref cl), some (.int f), some (.ref fp), y6, some (.ref pa), some (.ref le), some (.ref b1), y10, y11, y12, y13, y14, y15, y16] H5 := by
    refine ⟨_, ((pss_cons (ps_set (i := 9) sc_law.nd rfl (Or.inl rfl) (pe_op op_cat (pv 9) (pe_lst (pa_cons (pe_tup (pa_cons pe_str (pa_cons (pe_ix (Y.ix_listK (K := K) rfl) (pv 3) pe_int (fun _ _ => rfl)) (pa_cons pe_non pa_nil)))) (pa_cons (pe_tup (pa_cons pe_str (pa_cons (pe_ix (Y.ix_listK (K := K) rfl) (pv 3) pe_int (fun _ _ => rfl)) (pa_cons pe_bl pa_nil)))) (pa_cons (pe_tup (pa_cons pe_str (pa_cons (pe_ix (Y.ix_listK (K := K) rfl) (pv 3) pe_int (fun _ _ => rfl)) (pa_cons (pv 7) pa_nil)))) (pa_cons (pe_tup (pa_cons pe_str (pa_cons (pe_tup (pa_cons pe_int (pa_cons pe_int pa_nil))) (pa_cons (pv 7) (pa_cons (pv 7) pa_nil))))) pa_nil)))))))
      (pss_cons (ps_set (i := 9) sc_law.nd rfl (Or.inl rfl) (pe_op op_cat (pv 9) (pe_lst (pa_cons (pe_tup (pa_cons pe_str (pa_cons (pe_ix (Y.ix_listK (K := K) rfl) (pv 3) pe_int (fun _ _ => rfl)) (pa_cons (pv 8) (pa_cons (pv 7) pa_nil))))) (pa_cons (pe_tup (pa_cons pe_str (pa_cons (pe_ix (Y.ix_listK (K := K) rfl) (pv 3) pe_int (fun _ _ => rfl)) (pa_cons (pv 7) (pa_cons (pe_lst (pa_cons (pv 7) pa_nil)) pa_nil))))) (pa_cons (pe_tup (pa_cons pe_int (pa_cons (pe_ix (Y.ix_listK (K := K) rfl) (pv 3) pe_int (fun _ _ => rfl)) (pa_cons pe_int pa_nil)))) (pa_cons (pe_tup (pa_cons pe_str (pa_cons (pe_ix (Y.ix_listK (K := K) rfl) (pv 3) pe_int (fun _ _ => rfl)) (pa_cons pe_int pa_nil)))) pa_nil)))))))
      (pss_cons (ps_for PassesOwn.never rfl (Y.pi_listK (K := K) rfl (pv 9)) (pg_name (i := 10) sc_law.nd rfl (Or.inl rfl))
      (pss_one (ps_if (pt_cmpR op_notBl (Y.pe_callC (ok_judges_cell T TB) (cal_judges_cell T) (hr.mono (by decide)) (by rfl) pass0 (pa_cons (pv 2) (pa_cons pe_int (pa_cons (pv 10) pa_nil)))) pe_bl (nomark _))
      (pss_one (ps_ret pe_bl))
      pss_nil)))
      (pss_one (ps_ret pe_bl)))))), ?_⟩
    intro D l a d cl fp pa le b1 y6 y10 y11 y12 y13 y14 y15 y16 g n f F vp c0 rs0 g0 L0 G5 H5 W hg0 hvp hpd hled hPa hLe hb1 hL0 hBad q
    walk_at "sx"
    have hk0 : (g.map (·.1))[0]? = some c0 := by rw [hg0]; rfl
    have gok := W.gok
    have hg6 : g.length ≤ 6 := by have := W.gl; have := W.hn; omega
    have hvl : vp.length = g.length := by
      have := congrArg List.length hvp
      simpa using this
    have hgl1 : 1 ≤ g.length := by rw [hg0]; simp
    have hvn : (vp.map (·.1)).Nodup := by rw [hvp]; exact gok.nd
    have so : SeqAt.shaped (.str "open") = true := by decide +kernel
    have ss : SeqAt.shaped (.str "sures") = true := by decide +kernel
    refine g_ixLsR W.hC (k := 0) hk0 rfl fun v1 cv1 => ?_
    walk_at "sx"
    refine g_tupRaw (K := K) W.ex (by show 3 ≤ sizeLine; decide) fun t1 G6 H6 n6 _ hT1 => ?_
    have W6 := W.go n6
    walk_at "sx"
    refine g_ixLsR W6.hC (k := 0) hk0 rfl fun v2 cv2 => ?_
    walk_at "sx"
    refine g_tupRaw (K := K) W6.ex (by show 3 ≤ sizeLine; decide) fun t2 G7 H7 n7 _ hT2 => ?_
    have W7 := W6.go n7
    walk_at "sx"
    refine g_ixLsR W7.hC (k := 0) hk0 rfl fun v3 cv3 => ?_
    walk_at "sx"
    refine g_tupRaw (K := K) W7.ex (by show 3 ≤ sizeLine; decide) fun t3 G8 H8 n8 _ hT3 => ?_
    have W8 := W7.go n8
    walk_at "sx"
    refine g_cl W8.ex fun u4 G9 H9 n9 _ c4 => ?_
    have W9 := W8.go n9
    walk_at "sx"
    refine g_tupRaw (K := K) W9.ex (by show 4 ≤ sizeLine; decide) fun t4 G10 H10 n10 _ hT4 => ?_
    have W10 := W9.go n10
    walk_at "sx"
    refine g_lstM W10.ex (by show 4 ≤ sizeLine; decide) fun b2 H11 n11 _ hb2 _ => ?_
    have W11 := W10.go n11
    walk_at "sx"
    have x10 := n10.trans n11
    have x9 := n9.trans x10
    have x8 := n8.trans x9
    have x7 := n7.trans x8
    have x6 := n6.trans x7
    refine g_cat (x6.fr b1 _ (by simp) hb1) hb2 (by rw [hL0]; show 13 ≤ sizeLine; decide) W11.ex fun c1 H12 n12 _ hc1 _ => ?_
    have W12 := W11.go n12
    walk_at "sx"
    have hPa12 := (hPa.go x6 (by simp)).go n12 (by simp)
    have hLe12 := (hLe.go x6 (by simp)).go n12 (by simp)
    have E1 : ExpV K d g 99 (.ref pa) (explB vp g 99) (some vp) G10 H12 := .inl ⟨pa, vp, rfl, hPa12, hpd, by omega, hvn, rfl, rfl⟩
    have B2 : ∀ v ∈ (L0 ++ [.ref t1, .ref t2, .ref t3, .ref t4] : List V), BadC K d g 99 G10 H12 v := fun v hv => by
      rcases List.mem_append.mp hv with hv | hv
      · exact ((hBad v hv).go W.tb x6).go W11.tb n12
      simp only [List.mem_cons, List.not_mem_nil, or_false] at hv
      rcases hv with rfl | rfl | rfl | rfl
      · exact .inr (.inl ⟨t1, v1, .non, .none, rfl, x7.gg.seqT hT1, .non, .inl ⟨c0, cv1.go x6.gg, surNo rfl⟩⟩)
      · exact .inr (.inl ⟨t2, v2, .bl true, .bool true, rfl, x8.gg.seqT hT2, .bl _, .inl ⟨c0, cv2.go x7.gg, surNo rfl⟩⟩)
      · exact .inl ⟨rej_str (x9.gg.seqT hT3) rfl rfl so (by decide +kernel), rej_len (x9.gg.seqT hT3) (by simp), rej_len (x9.gg.seqT hT3) (by simp)⟩
      · refine .inr (.inr ⟨t4, .ref u4, .ref pa, .ref pa, (9, 9), _, _, _, _, rfl, hT4, c4.go n10.gg, E1, E1, ?_⟩)
        unfold opB
        rw [gt99 W.hg]
        rfl
    refine g_ixLsR W12.hC (k := 0) hk0 rfl fun v5 cv5 => ?_
    walk_at "sx"
    refine g_tupRaw (K := K) W12.ex (by show 4 ≤ sizeLine; decide) fun t5 G13 H13 n13 _ hT5 => ?_
    have W13 := W12.go n13
    walk_at "sx"
    refine g_ixLsR W13.hC (k := 0) hk0 rfl fun v6 cv6 => ?_
    walk_at "sx"
    refine g_lstM W13.ex (by show 1 ≤ sizeLine; decide) fun l6 H14 n14 _ hl6 _ => ?_
    have W14 := W13.go n14
    walk_at "sx"
    refine g_tupRaw (K := K) W14.ex (by show 4 ≤ sizeLine; decide) fun t6 G15 H15 n15' _ hT6 => ?_
    have W15 := W14.go n15'
    walk_at "sx"
    refine g_ixLsR W15.hC (k := 0) hk0 rfl fun v7 cv7 => ?_
    walk_at "sx"
    refine g_tupRaw (K := K) W15.ex (by show 3 ≤ sizeLine; decide) fun t7 G16 H16 n16 _ hT7 => ?_
    have W16 := W15.go n16
    walk_at "sx"
    refine g_ixLsR W16.hC (k := 0) hk0 rfl fun v8 cv8 => ?_
    walk_at "sx"
    refine g_tupRaw (K := K) W16.ex (by show 3 ≤ sizeLine; decide) fun t8 G17 H17 n17 _ hT8 => ?_
    have W17 := W16.go n17
    walk_at "sx"
    refine g_lstM W17.ex (by show 4 ≤ sizeLine; decide) fun b3 H18 n18 _ hb3 _ => ?_
    have W18 := W17.go n18
    walk_at "sx"
    have x17 := n17.trans n18
    have x16 := n16.trans x17
    have x15 := n15'.trans x16
    have x14 := n14.trans x15
    have x13 := n13.trans x14
    refine g_cat (x13.fr c1 _ (by simp) hc1) hb3 (by rw [List.length_append, hL0]; show 17 ≤ sizeLine; decide) W18.ex fun c2 H19 n19 _ hc2 _ => ?_
    have W19 := W18.go n19
    walk_at "sx"
    have hPa19 := (hPa12.go x13 (by simp)).go n19 (by simp)
    have hLe19 := (hLe12.go x13 (by simp)).go n19 (by simp)
    have E2 : ExpV K d g 99 (.ref pa) (explB vp g 99) (some vp) G17 H19 := .inl ⟨pa, vp, rfl, hPa19, hpd, by omega, hvn, rfl, rfl⟩
    have E3 : ExpV K d g 99 (.ref le) (explB (vp.drop 1) g 99) (some (vp.drop 1)) G17 H19 := .inl ⟨le, vp.drop 1, rfl, hLe19, hled, by rw [List.length_drop]; omega, by rw [List.map_drop]; exact hvn.sublist (List.drop_sublist _ _), rfl, rfl⟩
    have E4 : ExpV K d g 99 (.ref l6) false none G17 H19 := .inr ⟨l6, _, rfl, n19.fr l6 _ (by simp) (x15.fr l6 _ (by simp) hl6), rfl, rfl⟩
    have B3 : ∀ v ∈ ((L0 ++ [.ref t1, .ref t2, .ref t3, .ref t4]) ++ [.ref t5, .ref t6, .ref t7, .ref t8] : List V), BadC K d g 99 G17 H19 v := fun v hv => by
      rcases List.mem_append.mp hv with hv | hv
      · exact ((B2 v hv).go W12.tb x13).go W18.tb n19
      simp only [List.mem_cons, List.not_mem_nil, or_false] at hv
      rcases hv with rfl | rfl | rfl | rfl
      · refine .inr (.inr ⟨t5, v5, .ref le, .ref pa, c0, _, _, _, _, rfl, x14.gg.seqT hT5, cv5.go x13.gg, E3, E2, ?_⟩)
        have : explB (vp.drop 1) g 99 = false := by
          unfold explB hasB
          rw [decide_eq_false (by rw [List.length_drop]; omega), Bool.false_and, Bool.false_and]
        unfold opB
        rw [this, Bool.false_and, Bool.and_false, Bool.false_and]
      · refine .inr (.inr ⟨t6, v6, .ref pa, .ref l6, c0, _, _, _, _, rfl, x16.gg.seqT hT6, cv6.go x14.gg, E2, E4, ?_⟩)
        unfold opB
        rw [Bool.and_false, Bool.and_false, Bool.false_and]
      · exact .inl ⟨.inr (.inr ⟨t7, _, .int 5, .int 5, rfl, x17.gg.seqT hT7, rfl, rfl, .int _, fun s z => nomatch z⟩), rej_len (x17.gg.seqT hT7) (by simp), rej_len (x17.gg.seqT hT7) (by simp)⟩
      · exact .inl ⟨rej_str hT8 rfl rfl ss (by decide +kernel), rej_len hT8 (by simp), rej_len hT8 (by simp)⟩
    generalize ((L0 ++ [.ref t1, .ref t2, .ref t3, .ref t4]) ++ [.ref t5, .ref t6, .ref t7, .ref t8] : List V) = L3 at B3 hc2
    clear B2 hBad E1 E2 E3 E4
    have hc2P : c2 ≠ lamP K := tb_raw W19.tb hc2
    refine g_walkV hc2 ?_
    refine g_forV hc2 (M := [lamP K]) (fun z => hc2P (List.mem_singleton.mp z)) W19.ex (fun i σ G' H' => ∃ y10, σ = [some (.ref l), some (.ref a), some (.ref d), some (.ref cl), some (.int f), some (.ref fp), y6, some (.ref pa), some (.ref le), some (.ref c2), y10, y11, y12, y13, y14, y15, y16] ∧ W36 K a d cl fp g n f F G' H') ⟨_, rfl, W19⟩ ?_ ?_
    · rintro i v σ' G20 H20 hi n20 ⟨y10', rfl, W20⟩
      have hb := (B3 v (List.mem_of_getElem? hi)).goP W19.tb n20
      walk_at "sx"
      refine ⟨G20, d, 99, v, g, rfl, W20.ex, W20.tb, W20.hD, gok, W.r5, hg6, ?_⟩
      rcases hb with ⟨h1, h2, h3⟩ | ⟨u, y, x, dx, rfl, h2, h3, h4⟩ | ⟨u, y, u1, u2, cc, b1', b2', o1, o2, rfl, h2, h3, h4, h5, h6⟩
      · refine .inl ⟨h1, h2, h3, ?_⟩
        walk_at "sx"
        refine g_ndec (fun z => absurd rfl z) (fun _ => ?_)
        walk_at "sx"
        exact ⟨G20, n20, _, rfl, W20⟩
      · refine .inr (.inr (.inl ⟨u, y, x, dx, rfl, h2, h3, ?_⟩))
        rcases h4 with ⟨cc, h4, h5⟩ | ⟨c, h4, h5⟩
        · refine .inl ⟨cc, h4, fun G' H' n' t' hD' => ?_⟩
          rw [h5]
          walk_at "sx"
          refine g_ndec (fun z => absurd rfl z) (fun _ => ?_)
          walk_at "sx"
          exact ⟨G', n20.trans n', _, rfl, W20.goP n' t'⟩
        · refine .inr ⟨c, h4, h5, ?_⟩
          walk_at "sx"
          refine g_ndec (fun z => absurd rfl z) (fun _ => ?_)
          walk_at "sx"
          exact ⟨G20, n20, _, rfl, W20⟩
      · refine .inr (.inr (.inr ⟨u, y, u1, u2, cc, b1', b2', o1, o2, rfl, h2, h3, h4, h5, fun G' H' n' t' hD' => ?_⟩))
        rw [h6]
        walk_at "sx"
        refine g_ndec (fun z => absurd rfl z) (fun _ => ?_)
        walk_at "sx"
        exact ⟨G', n20.trans n', _, rfl, W20.goP n' t'⟩
    · rintro σ' G20 H20 n20 ⟨y10', rfl, W20⟩
      walk_at "sx"
      exact q H20
theorem rest2_law (T : Tx fa fn bx K mg) (TB : LamX.TabB base mg (lamC K) (lamP K)) {cdv : Value} {A : Around} {outer : List Env} {s : Shared} {H : Hp} {E : XK} (hr : Room 7 (A.deeper (envOfC "law" (defScope s_law) s.heap.objs.size (He.ga K "law") cdv))) : ∃ t, PSs (cxOf CX0 P w K mg base ["script", "pool", "ground", "cells", "faults", "found", "cell", "plain", "less", "values", "value", "seen", "paper", "kind", "k", "pair", "due"] "law" (defScope s_law) (He.ga K "law") cdv A outer s H E).nox ((defBody s_law).drop 7) t ∧ ∀ (D : Ends), ∀ (l a d cl fp : Addr) (y6 y9 y10 y11 y12 y13 y14 y15 y16 : Option V) (g : Grd) (n : Nat) (f : Int) (F : List Vals) (G5 H5 : Hp), W36 K a d cl fp g n f F G5 H5 → (∀ H', D.rt (.bl true) H') →
  t D [some (.ref l), some (.ref a), some (.ref d), some (.ref cl), some (.int f), some (.ref fp), y6, none, none, y9, y10, y11, y12, y13, y14, y15, y16] H5 := by
    obtain ⟨tR, pR, hR3⟩ := rest3_law (P := P) (w := w) (base := base) (E := E) (cdv := cdv) (A := A) (outer := outer) (s := s) (H := H) T TB hr
    refine ⟨_, ((pss_cons (ps_set (i := 7) sc_law.nd rfl (Or.inl rfl) (Y.pe_callC (ok__law_drawn T) (cal__law_drawn T) (hr.mono (by decide)) (by rfl) pass0 (pa_cons (pv 1) (pa_cons (pv 2) pa_nil))))
      (pss_cons (ps_set (i := 8) sc_law.nd rfl (Or.inl rfl) (pe_callTy (Y.call_dictTR hr) (by rfl) (T.free 5) (by decide +kernel) (pa_cons (pv 7) pa_nil)))
      (pss_cons (ps_expr (Y.pe_bmK (K := K) rfl PySem.F.plainAttrs_dict PySem.F.slot_dict_pop PySem.F.type_dict_pop (Y.mt_popT1 (hu_of hr)) (pv 8) (pa_cons (pe_ix (Y.ix_listK (K := K) rfl) (pv 3) pe_int (fun _ _ => rfl)) pa_nil)))
      (pss_cons (ps_set (i := 9) sc_law.nd rfl (Or.inl rfl) (pe_lst (pa_cons pe_non (pa_cons pe_int (pa_cons (pe_tup pa_nil) (pa_cons pe_str (pa_cons (pe_tup (pa_cons pe_str (pa_cons pe_int pa_nil))) (pa_cons (pe_lst (pa_cons pe_str pa_nil)) (pa_cons (pe_tup (pa_cons pe_str (pa_cons (pe_ix (Y.ix_listK (K := K) rfl) (pv 3) pe_int (fun _ _ => rfl)) pa_nil))) (pa_cons (pe_tup (pa_cons pe_str (pa_cons (pe_tup (pa_cons pe_int (pa_cons pe_int pa_nil))) (pa_cons pe_int pa_nil)))) (pa_cons (pe_tup (pa_cons pe_str (pa_cons (pe_callTy (Y.call_listK (K := K) rfl) (by rfl) (T.free 13) (by decide +kernel) (pa_cons (pe_ix (Y.ix_listK (K := K) rfl) (pv 3) pe_int (fun _ _ => rfl)) pa_nil)) (pa_cons pe_int pa_nil)))) pa_nil)))))))))))
      pR))))), ?_⟩
    intro D l a d cl fp y6 y9 y10 y11 y12 y13 y14 y15 y16 g n f F G5 H5 W q
    walk_at "sx"
    have hn6 : n ≤ 6 := by have := W.hn; omega
    refine ⟨G5, a, d, g, n, rfl, W.ex, W.hp, W.hD.rd, W.hg, hn6, W.da.symm, fun pa vp G6 H6 n6 hp6 hpa hvp hPa => ?_⟩
    have W6 := W.goA n6 hp6
    have hpd : pa ≠ d := fun z => W.hD.live (z ▸ hpa)
    walk_at "sx"
    refine g_dtCopy W6.ex hPa.rd (hnd_of (n := n) (k := n) hn6 (by rw [inDv_keys, hvp, W.hg.keys, List.take_of_length_le (by simp)])) fun le H7 n7 hle hLe => ?_
    have W7 := W6.go n7
    have hled : le ≠ d := fun z => W6.hD.live (z ▸ hle)
    have hPa0 := hPa
    have hPa := hPa.go n7 (by simp)
    have hple : pa ≠ le := fun z => hPa0.live (z ▸ hle)
    walk_at "sx"
    obtain ⟨c0, rs0, g0, hg0⟩ : ∃ c0 rs0 g0, g = (c0, rs0) :: g0 := by
      cases g with
      | nil => have h1 := W.gl; have h2 := W.hn1; rw [← h1] at h2; simp at h2
      | cons e g0 => exact ⟨e.1, e.2, g0, rfl⟩
    have hk0 : (g.map (·.1))[0]? = some c0 := by rw [hg0]; rfl
    obtain ⟨x0, vr, hvp0⟩ : ∃ x0 vr, vp = (c0, x0) :: vr := by
      rw [hg0] at hvp
      cases vp with
      | nil => cases hvp
      | cons e vr => exact ⟨e.2, vr, by injection hvp with h1 h2; have : e.1 = c0 := h1; rw [← this]⟩
    have hvn : (vp.map (·.1)).Nodup := by rw [hvp]; exact W.gok.nd
    have hdrop : (inDv vp).filter (fun p => decide (p.1 ≠ c0)) = inDv (vp.drop 1) := by
      rw [hvp0] at hvn ⊢
      show List.filter _ ((c0, PyData.int x0) :: inDv vr) = inDv vr
      rw [List.filter_cons_of_neg (by simp), List.filter_eq_self]
      intro e he
      rw [decide_eq_true_eq]
      rw [List.map_cons, List.nodup_cons] at hvn
      intro z
      refine hvn.1 ?_
      show c0 ∈ vr.map (·.1)
      rw [← inDv_keys, ← z]
      exact List.mem_map.mpr ⟨e, he, rfl⟩
    refine g_tyDt hLe ?_
    walk_at "sx"
    refine g_ixLsR W7.hC (k := 0) hk0 rfl fun v0 cv0 => ?_
    walk_at "sx"
    refine g_popT1 (x := .int x0) W7.ex hLe cv0 (by rw [hvp0]; exact gtM_cons.trans (if_pos rfl)) fun v1 H8 n8 dv1 hLe8 => ?_
    rw [hdrop] at hLe8
    have n68 : Nx [] G6 H6 G6 H8 := (n7.pure.trans n8).drop hle
    have W8 := W6.go n68
    have hPa8 := hPa0.go n68 (by simp)
    walk_at "sx"
    refine g_tupD (K := K) W8.ex .nil (Nat.zero_le _) fun t1 G9 H9 n9 d1 => ?_
    have W9 := W8.go n9
    walk_at "sx"
    refine g_tupRaw (K := K) W9.ex (by show 2 ≤ sizeLine; decide) fun t2 G10 H10 n10 _ hT2 => ?_
    have W10 := W9.go n10
    walk_at "sx"
    refine g_lstM W10.ex (by show 1 ≤ sizeLine; decide) fun l3 H11 n11 _ h3 _ => ?_
    have W11 := W10.go n11
    walk_at "sx"
    refine g_ixLsR W11.hC (k := 0) hk0 rfl fun v4 cv4 => ?_
    walk_at "sx"
    refine g_tupRaw (K := K) W11.ex (by show 2 ≤ sizeLine; decide) fun t4 G12 H12 n12 _ hT4 => ?_
    have W12 := W11.go n12
    walk_at "sx"
    refine g_cl W12.ex fun u5 G13 H13 n13 _ c5 => ?_
    have W13 := W12.go n13
    walk_at "sx"
    refine g_tupRaw (K := K) W13.ex (by show 3 ≤ sizeLine; decide) fun t5 G14 H14 n14 _ hT5 => ?_
    have W14 := W13.go n14
    walk_at "sx"
    refine g_ixLsR W14.hC (k := 0) hk0 rfl fun v6 cv6 => ?_
    walk_at "sx"
    refine g_listOf (K := K) W14.ex (.inr cv6.dp) fun l6 G15 H15 n15' d6 => ?_
    have W15 := W14.go n15'
    walk_at "sx"
    refine g_tupRaw (K := K) W15.ex (by show 3 ≤ sizeLine; decide) fun t6 G16 H16 n16 _ hT6 => ?_
    have W16 := W15.go n16
    walk_at "sx"
    refine g_lstM W16.ex (by show 9 ≤ sizeLine; decide) fun b1 H17 n17 _ hb1 _ => ?_
    have W17 := W16.go n17
    walk_at "sx"
    have x16 := n16.trans n17
    have x15 := n15'.trans x16
    have x14 := n14.trans x15
    have x13 := n13.trans x14
    have x12 := n12.trans x13
    have x11 := n11.trans x12
    have x10 := n10.trans x11
    have x9 := n9.trans x10
    have B1 : ∀ v ∈ ([.non, .int 5, .ref t1, .str "none", .ref t2, .ref l3, .ref t4, .ref t5, .ref t6] : List V), BadC K d g 99 G16 H17 v := fun v hv => by
      simp only [List.mem_cons, List.not_mem_nil, or_false] at hv
      rcases hv with rfl | rfl | rfl | rfl | rfl | rfl | rfl | rfl | rfl
      · exact bad_dat .non rfl rfl rfl
      · exact bad_dat (.int 5) rfl rfl rfl
      · exact bad_dat (dp_mono x10.gg d1) rfl rfl rfl
      · exact bad_dat (.str _) rfl rfl rfl
      · exact bad_len (x11.gg.seqT hT2) (by simp) (by simp) (by simp)
      · have z : TupIs K G16 H17 (.ref l3) (.list []) := .inr (.inr ⟨l3, _, [], rfl, x12.fr l3 _ (by simp) h3, rfl⟩)
        exact .inl ⟨.inl ⟨_, z, rfl⟩, .inl ⟨_, z, rfl⟩, .inl ⟨_, z, rfl⟩⟩
      · exact bad_len (x13.gg.seqT hT4) (by simp) (by simp) (by simp)
      · exact .inr (.inl ⟨t5, .ref u5, .int 1, .int 1, rfl, x15.gg.seqT hT5, .int _, .inl ⟨(9, 9), c5.go x14.gg, sur99 W.hg⟩⟩)
      · exact .inr (.inl ⟨t6, .ref l6, .int 1, .int 1, rfl, n17.gg.seqT hT6, .int _, .inr ⟨_, dp_mono x16.gg d6, rfl⟩⟩)
    exact hR3 _ l a d cl fp pa le b1 y6 y10 y11 y12 y13 y14 y15 y16 g n f F vp c0 rs0 g0 _ G16 H17 W17 hg0 hvp hpd hled (hPa8.go x9 (by simp)) (hLe8.go x9 (by simp)) hb1 rfl B1 q
theorem rest_law (T : Tx fa fn bx K mg) (TB : LamX.TabB base mg (lamC K) (lamP K)) {cdv : Value} {A : Around} {outer : List Env} {s : Shared} {H : Hp} {E : XK} (hr : Room 7 (A.deeper (envOfC "law" (defScope s_law) s.heap.objs.size (He.ga K "law") cdv))) : ∃ t, PSs (cxOf CX0 P w K mg base ["script", "pool", "ground", "cells", "faults", "found", "cell", "plain", "less", "values", "value", "seen", "paper", "kind", "k", "pair", "due"] "law" (defScope s_law) (He.ga K "law") cdv A outer s H E).nox ((defBody s_law).drop 6) t ∧ ∀ (D : Ends), ∀ (l a d cl fp : Addr) (g : Grd) (n : Nat) (f : Int) (F : List Vals) (G5 H5 : Hp), W36 K a d cl fp g n f F G5 H5 → (∀ H', D.rt (.bl true) H') →
  t D [some (.ref l), some (.ref a), some (.ref d), some (.ref cl), some (.int f), some (.ref fp), none, none, none, none, none, none, none, none, none, none, none] H5 := by
    obtain ⟨tR, pR, hR2⟩ := rest2_law (P := P) (w := w) (base := base) (E := E) (cdv := cdv) (A := A) (outer := outer) (s := s) (H := H) T TB hr
    refine ⟨_, ((pss_cons (ps_for PassesOwn.never rfl (Y.pi_listK (K := K) rfl (pv 3)) (pg_name (i := 6) sc_law.nd rfl (Or.inl rfl))
      (pss_cons (ps_set (i := 11) sc_law.nd rfl (Or.inl rfl) (pe_lst pa_nil))
      (pss_cons (ps_for PassesOwn.never rfl (Y.pi_listK (K := K) rfl (pv 5)) (pg_name (i := 9) sc_law.nd rfl (Or.inl rfl))
      (pss_one (ps_if (pt_cmpR (Y.op_notInK (K := K) rfl) (pe_dget (hu_of hr) (pv 9) (pv 6) (fun _ _ => rfl)) (pv 11) (by rfl))
      (pss_one (ps_expr (Y.pe_bmK (K := K) rfl PySem.F.plainAttrs_list PySem.F.slot_list_append PySem.F.type_list_append mt_append (pv 11) (pa_cons (pe_dget (hu_of hr) (pv 9) (pv 6) (fun _ _ => rfl)) pa_nil))))
      pss_nil)))
      (Evl.pss_cut (ps_set (i := 12) sc_law.nd rfl (Or.inl rfl) (Y.pe_callSC (ok_cell_paper T TB) (cal_cell_paper T) (hr.mono (by decide)) (by rfl) takes0 (pa_cons (pv 2) (pa_cons (pv 4) (pa_cons (pv 6) pa_nil)))))
      (pss_cons (ps_set (i := 13) sc_law.nd rfl (Or.inl rfl) (pe_ix (Y.ix_listK (K := K) rfl) (pe_lst (pa_cons pe_str (pa_cons pe_str (pa_cons pe_str pa_nil)))) (pe_callB (Y.call_min rfl) (by rfl) (T.free 7) (by decide +kernel) (pa_cons (pe_callB (Y.call_lenK (K := K) rfl) (by rfl) (T.free 3) (by decide +kernel) (pa_cons (pv 11) pa_nil)) (pa_cons pe_int pa_nil))) (fun _ _ => rfl)))
      (Evl.pss_cut (ps_if (PW.pt (pw_or (pt_cmpR op_ne (pe_ix (Y.ix_tupK (K := K) rfl) (pv 12) pe_int (fun _ _ => rfl)) (pv 13) (nomark _)) (pw_or1 (pt_cmpR op_notBl (Y.pe_callC (ok_judges_cell T TB) (cal_judges_cell T) (hr.mono (by decide)) (by rfl) pass0 (pa_cons (pv 2) (pa_cons (pv 4) (pa_cons (pv 12) pa_nil)))) pe_bl (nomark _)))))
      (pss_one (ps_ret pe_bl))
      pss_nil)
      (pss_cons (ps_for PassesOwn.never rfl (Y.pi_listK (K := K) rfl (pe_op op_cat (Y.pe_callC (ok__law_candidates T) (cal__law_candidates T) (hr.mono (by decide)) (by rfl) pass0 (pa_cons (pv 2) (pa_cons (pv 6) pa_nil))) (pe_lst (pa_cons pe_int (pa_cons (pe_un un_neg pe_int) pa_nil))))) (pg_name (i := 10) sc_law.nd rfl (Or.inl rfl))
      (pss_one (ps_if (pt_cmpR op_ne (Y.pe_callC (ok_judges_cell T TB) (cal_judges_cell T) (hr.mono (by decide)) (by rfl) pass0 (pa_cons (pv 2) (pa_cons (pv 4) (pa_cons (pe_tup (pa_cons pe_str (pa_cons (pv 6) (pa_cons (pv 10) pa_nil)))) pa_nil)))) (pe_cmpR (Y.op_eqDK (K := K) rfl hr.units) (pv 11) (pe_lst (pa_cons (pv 10) pa_nil)) (nomark _)) (nomark _))
      (pss_one (ps_ret pe_bl))
      pss_nil)))
      (pss_one (ps_for PassesOwn.never rfl (pi_range1 (by rfl) (T.free 14) (pa_cons pe_int pa_nil)) (pg_name (i := 14) sc_law.nd rfl (Or.inl rfl))
      (pss_cons (ps_set (i := 15) sc_law.nd rfl (Or.inl rfl) (pe_lst (pa_cons (Y.pe_callC (ok__law_drawn T) (cal__law_drawn T) (hr.mono (by decide)) (by rfl) pass0 (pa_cons (pv 1) (pa_cons (pv 2) pa_nil))) (pa_cons (Y.pe_callC (ok__law_drawn T) (cal__law_drawn T) (hr.mono (by decide)) (by rfl) pass0 (pa_cons (pv 1) (pa_cons (pv 2) pa_nil))) pa_nil))))
      (Evl.pss_cut (ps_set (i := 16) sc_law.nd rfl (Or.inl rfl) (pe_and (Y.pe_callC (ok__law_explains T) (cal__law_explains T) (hr.mono (by decide)) (by rfl) pass0 (pa_cons (pv 2) (pa_cons (pv 4) (pa_cons (pe_ix (Y.ix_listK (K := K) rfl) (pv 15) pe_int (fun _ _ => rfl)) pa_nil)))) (pe_one (Y.pe_callC (ok__law_explains T) (cal__law_explains T) (hr.mono (by decide)) (by rfl) pass0 (pa_cons (pv 2) (pa_cons (pv 4) (pa_cons (pe_ix (Y.ix_listK (K := K) rfl) (pv 15) pe_int (fun _ _ => rfl)) pa_nil)))))))
      (Evl.pss_cut (ps_set (i := 16) sc_law.nd rfl (Or.inl rfl) (pe_and (pv 16) (pe_one (pe_cmpR op_ne (pe_dget (hu_of hr) (pe_ix (Y.ix_listK (K := K) rfl) (pv 15) pe_int (fun _ _ => rfl)) (pv 6) (fun _ _ => rfl)) (pe_dget (hu_of hr) (pe_ix (Y.ix_listK (K := K) rfl) (pv 15) pe_int (fun _ _ => rfl)) (pv 6) (fun _ _ => rfl)) (nomark _)))))
      (pss_one (ps_if (pt_cmpR op_ne (Y.pe_callC (ok_judges_cell T TB) (cal_judges_cell T) (hr.mono (by decide)) (by rfl) pass0 (pa_cons (pv 2) (pa_cons (pv 4) (pa_cons (pe_tup (pa_cons pe_str (pa_cons (pv 6) (pa_cons (Y.pe_callC (ok__law_turned T) (cal__law_turned T) (hr.mono (by decide)) (by rfl) pass0 (pa_cons (pe_ix (Y.ix_listK (K := K) rfl) (pv 15) pe_int (fun _ _ => rfl)) pa_nil)) (pa_cons (pe_ix (Y.ix_listK (K := K) rfl) (pv 15) pe_int (fun _ _ => rfl)) pa_nil))))) pa_nil)))) (pv 16) (nomark _))
      (pss_one (ps_ret pe_bl))
      pss_nil))))))))))))))
      pR)), ?_⟩
    intro D l a d cl fp g n f F G5 H5 W q
    walk_at "sx"
    refine g_walkR0 W.hC fun vsC hvC pC => ?_
    have haP := tb_pool W.tb W.hp
    have hclP : cl ≠ lamP K := W.tb.neL W.hC
    have hdP : d ≠ lamP K := W.tb.neT W.hD.rd
    have hlen : (g.map (·.1)).length = g.length := List.length_map ..
    refine g_forQ (M := [a, lamP K]) (src_lsR cl_mono hvC pC (by simp [W.ca, hclP])) W.ex (fun i σ G' H' => ∃ y6 y9 y10 y11 y12 y13 y14 y15 y16, σ = [some (.ref l), some (.ref a), some (.ref d), some (.ref cl), some (.int f), some (.ref fp), y6, none, none, y9, y10, y11, y12, y13, y14, y15, y16] ∧ W36 K a d cl fp g n f F G' H') ⟨_, _, _, _, _, _, _, _, _, rfl, W⟩ ?_ ?_
    rotate_left
    · rintro σ' G6 H6 n6 ⟨y6, y9, y10, y11, y12, y13, y14, y15, y16, rfl, W6⟩
      exact hR2 _ l a d cl fp y6 y9 y10 y11 y12 y13 y14 y15 y16 g n f F G6 H6 W6 q
    rintro i v σ' G6 H6 G7 H7 hi n6 ⟨y6, y9, y10, y11, y12, y13, y14, y15, y16, rfl, W6⟩ n7 ⟨c, hc, cv⟩
    have gok := W.gok
    obtain ⟨rs, hgi, hgt, hne, hl1000⟩ := gok.at hc
    have hm : (c, rs) ∈ g := List.mem_of_getElem? hgi
    have aF := W.aF
    have W7 := W6.go n7
    walk_at "sx"
    refine g_lstLs (K := K) (L := []) W7.ex .nil (by decide) fun sp H8 n8 hsp hS => ?_
    have W8 := W7.go n8
    walk_at "sx"
    refine g_walkR0 W8.hF fun vsF hvF pF => ?_
    have hsf : sp ≠ fp := fun z => W7.hF.live (z ▸ hsp)
    refine g_forQ (M := [sp]) (src_lsR dv_mono hvF pF (by simpa using hsf.symm)) W8.ex (fun j σ G' H' => ∃ y9, ∃ sn : List Int, σ = [some (.ref l), some (.ref a), some (.ref d), some (.ref cl), some (.int f), some (.ref fp), some v, none, none, y9, y10, some (.ref sp), y12, y13, y14, y15, y16] ∧ sn.Nodup ∧ sn.length ≤ j ∧ (∀ x, x ∈ sn ↔ x ∈ (valsAt F c).take j) ∧ LstAt K sp G' H' (sn.map .int)) ⟨_, [], rfl, List.nodup_nil, Nat.le_refl _, fun x => by simp, hS⟩ ?_ ?_
    · rintro j v2 σ2 G9 H9 G10 H10 hj n9 ⟨y9, sn, rfl, hsn, hsl, hsm, hS9⟩ n10 ⟨lv, hlv, dv2⟩
      obtain ⟨x, hx⟩ := aF.at hm (List.mem_of_getElem? hlv)
      obtain ⟨dd, rfl, hdd⟩ := dv2
      have hS10 := hS9.go n10 (by simp)
      have cv10 : Cl G10 v c := ((cv.go n8.gg).go n9.gg).go n10.gg
      have hst : ∀ z, z ∈ (valsAt F c).take (j + 1) ↔ z ∈ (valsAt F c).take j ∨ z = x := fun z => by
        rw [List.take_add_one, List.mem_append]
        have : (valsAt F c)[j]? = some x := by
          unfold valsAt
          rw [List.getElem?_map, hlv]
          show some ((gtM lv c).getD 0) = _
          rw [hx]
          rfl
        rw [this]
        simp
      walk_at "sx"
      refine g_dtGet (x := .int x) n10.gh (hdd.rd n10.gh) cv10 (by rw [inDv_gt3, hx]; rfl) fun v3 dv3 => ?_
      cases dp_int dv3
      walk_at "sx"
      refine g_inIT n10.gh hS10.lsv ?_
      walk_at "sx"
      by_cases hin : x ∈ sn
      · rw [decide_eq_true hin]
        walk_at "sx"
        refine ⟨G10, n9.trans n10.pure, _, sn, rfl, hsn, by omega, fun z => ?_, hS10⟩
        rw [hst, ← hsm]
        constructor
        · exact .inl
        · rintro (h | rfl)
          · exact h
          · exact hin
      · rw [decide_eq_false hin]
        walk_at "sx"
        refine g_tyLs hS10 ?_
        walk_at "sx"
        refine g_dtGet (x := .int x) n10.gh (hdd.rd n10.gh) cv10 (by rw [inDv_gt3, hx]; rfl) fun v3 dv3 => ?_
        cases dp_int dv3
        walk_at "sx"
        refine g_appLs (d := .int x) n10.gh hS10 (.int _) (by rw [List.length_map]; have := W.Fl; omega) fun H11 n11 hS11 => ?_
        walk_at "sx"
        refine ⟨G10, (n9.trans n10.pure).trans n11, _, sn ++ [x], rfl, List.nodup_append.mpr ⟨hsn, by simp, fun p hp r hr z => hin (by rw [List.mem_singleton.mp hr] at z; exact z ▸ hp)⟩, by rw [List.length_append]; simp; omega, fun z => ?_, by rw [List.map_append]; exact hS11⟩
        rw [hst, ← hsm, List.mem_append, List.mem_singleton]
    rintro σ2 G9 H9 n9 ⟨y9, sn, rfl, hsn, hsl, hsm, hS9⟩
    have hvl : (valsAt F c).length = F.length := List.length_map ..
    rw [← hvl, List.take_length] at hsm
    have n89 : Nx [] G7 H7 G9 H9 := (n8.pure.trans n9).drop hsp
    have W9 := W7.go n89
    have cv9 := cv.go n89.gg
    have hS9' := hS9
    have hspP : sp ≠ lamP K := fun z => W7.tb.live (z ▸ hsp)
    have hspa : sp ≠ a := fun z => W7.hp.live (z ▸ hsp)
    have hnd := gok.nd
    have hrow : ∀ e ∈ g, e.2 ≠ [] := fun e he => (W.hg.rows e he).1
    have hg6 : g.length ≤ 6 := by have := W.gl; have := W.hn; omega
    have hpk : ((inDv (plainF g)).map (·.1)) = g.map (·.1) := by rw [inDv_keys, plain_keys]
    walk_at "sx"
    refine ⟨fun σ' H' => ∃ G', Nx [lamP K] G9 H9 G' H' ∧ ∃ t, σ' = [some (.ref l), some (.ref a), some (.ref d), some (.ref cl), some (.int f), some (.ref fp), some v, none, none, y9, y10, some (.ref sp), some (.ref t), y13, y14, y15, y16] ∧ TbAt K G' H' ∧ PapV K d g f c rs v sn.length G' H' t, ?_, ?_⟩
    · walk_at "sx"
      refine ⟨G9, d, f, v, g, c, rs, rfl, W9.ex, W9.tb, W9.hD, gok, cv9, hgt, fun h1 t G' H' n' t' hD' hT => ?_, fun h0 h1 t G' H' n' t' hD' hT => ?_, fun h0 h1 t p r G' H' n' t' hD' hp hr hpr hT hP hR => ?_⟩
      · walk_at "sx"
        exact ⟨G', n', t, rfl, t', .inl ⟨by rw [(seen_nil aF hsm).mpr (by omega)]; rfl, h1, hT⟩⟩
      · walk_at "sx"
        exact ⟨G', n', t, rfl, t', .inr (.inl ⟨by rw [(seen_sure aF hm hsn hsm).mpr ⟨rfl, h0, h1⟩]; rfl, hT⟩)⟩
      · walk_at "sx"
        exact ⟨G', n', t, rfl, t', .inr (.inr ⟨seen_many aF hm hsn hsm h0 h1, p, r, fun z => W9.hD.live (z ▸ hp), fun z => W9.hD.live (z ▸ hr), hT, hP, hR⟩)⟩
    rintro σ' H10 ⟨G10, n10, t, rfl, t10, hPap⟩
    have W10 := W9.goP n10 t10
    have hS10 := hS9.go n10 (by simpa using hspP)
    have cv10 := cv9.go n10.gg
    walk_at "sx"
    refine g_lstM W10.ex (by show 3 ≤ sizeLine; decide) fun ll H11 n11 hll hlst gll => ?_
    have W11 := W10.go n11
    have hS11 := hS10.go n11 (by simp)
    walk_at "sx"
    refine g_lenLs hS11 ?_
    walk_at "sx"
    refine ⟨_, _, rfl, ?_⟩
    rw [List.length_map]
    refine g_ixM hlst (k := min sn.length 2) (kind_at _) (by split <;> omega) ?_
    walk_at "sx"
    have cv11 := cv10.go n11.gg
    have hPap11 := papV_go hPap n11
    refine ⟨fun σ' H' => ∃ G', Nx [lamP K] G10 H11 G' H' ∧ σ' = [some (.ref l), some (.ref a), some (.ref d), some (.ref cl), some (.int f), some (.ref fp), some v, none, none, y9, y10, some (.ref sp), some (.ref t), some (.str (kindS sn.length)), y14, y15, y16] ∧ TbAt K G' H', ?_, ?_⟩
    · walk_at "sx"
      rcases hPap11 with ⟨h1, h2, hT⟩ | ⟨h1, hT⟩ | ⟨h1, p, r, hpd, hrd, hT, hP, hR⟩
      · refine g_ixTR (k := 0) W11.ex hT rfl rfl ?_
        rw [show kindS sn.length = "none" by rw [h1]; rfl]
        walk_at "sx"
        refine g_ndec (fun z => absurd rfl z) (fun _ => ?_)
        walk_at "sx"
        refine ⟨G10, d, f, .ref t, g, rfl, W11.ex, W11.tb, W11.hD, gok, W.r5, hg6, .inr (.inl ⟨t, rfl, hT, fun G' H' n' t' hD' => ?_⟩)⟩
        rw [decide_eq_true h2]
        walk_at "sx"
        exact ⟨G', n', rfl, t'⟩
      · refine g_ixTR (k := 0) W11.ex hT rfl rfl ?_
        rw [show kindS sn.length = "sure" by rw [h1]; rfl]
        walk_at "sx"
        refine g_ndec (fun z => absurd rfl z) (fun _ => ?_)
        walk_at "sx"
        refine ⟨G10, d, f, .ref t, g, rfl, W11.ex, W11.tb, W11.hD, gok, W.r5, hg6, .inr (.inr (.inl ⟨t, v, .int (bestF rs), .int (bestF rs), rfl, hT, .int _, .inl ⟨c, cv11, fun G' H' n' t' hD' => ?_⟩⟩))⟩
        obtain ⟨x1, ex1⟩ : ∃ x, sn = [x] := by
          match sn, h1 with
          | [x], _ => exact ⟨x, rfl⟩
        have hx1 := (seen_sure aF hm hsn hsm).mp ex1
        rw [seen_sur aF hm hsn hsm, ex1, hx1.1, decide_eq_true rfl]
        walk_at "sx"
        exact ⟨G', n', rfl, t'⟩
      · refine g_ixTR (k := 0) W11.ex hT rfl rfl ?_
        rw [show kindS sn.length = "open" by unfold kindS; rw [if_neg (by omega), if_neg (by omega)]]
        walk_at "sx"
        refine g_ndec (fun z => absurd rfl z) (fun _ => ?_)
        walk_at "sx"
        have hlow : 0 ≤ f - (lowN g).sum := by
          apply Classical.byContradiction
          intro hc2
          have := (seen_nil (c := c) aF hsm).mpr (by omega)
          rw [this] at h1
          simp at h1
        have hadd : ¬ f - (lowN g).sum < addF rs := fun z => by
          have := (seen_sure aF hm hsn hsm).mpr ⟨rfl, hlow, z⟩
          rw [this] at h1
          simp at h1
        refine ⟨G10, d, f, .ref t, g, rfl, W11.ex, W11.tb, W11.hD, gok, W.r5, hg6, .inr (.inr (.inr ⟨t, v, .ref p, .ref r, c, _, _, _, _, rfl, hT, cv11, .inl ⟨p, plainF g, rfl, hP, hpd, ?_, ?_, rfl, rfl⟩, .inl ⟨r, ptM (plainF g) c (otherF rs), rfl, hR, hrd, ?_, ?_, rfl, rfl⟩, fun G' H' n' t' hD' => ?_⟩))⟩
        · have := congrArg List.length (plain_keys (g := g))
          rw [List.length_map, hlen] at this
          omega
        · rw [plain_keys]; exact hnd
        · have := congrArg List.length (second_keys (g := g) (c := c) (x := otherF rs) (List.mem_map.mpr ⟨_, hm, rfl⟩))
          rw [List.length_map, hlen] at this
          omega
        · rw [second_keys (List.mem_map.mpr ⟨_, hm, rfl⟩)]; exact hnd
        · rw [open_true hnd hrow hm hlow hadd]
          walk_at "sx"
          exact ⟨G', n', rfl, t'⟩
    rintro σ' H12 ⟨G12, n12, rfl, t12⟩
    have W12 := W11.goP n12 t12
    have hS12 := hS11.go n12 (by simpa using hspP)
    have cv12 := cv11.go n12.gg
    clear hPap hPap11 hlst
    walk_at "sx"
    refine ⟨G12, d, v, g, c, rs, rfl, W12.ex, W12.hD.rd, cv12, hgt, by have := (W.hg.rows _ hm).2.1; exact this, fun cp ts u G13 H13 n13 hcp hts htn hun htl hCs => ?_⟩
    have W13 := W12.go n13
    walk_at "sx"
    refine g_lstLs (K := K) (L := [.int 50, .int (-7)]) W13.ex (.cons (.int _) (.cons (.int _) .nil)) (by show 2 ≤ 100000; decide) fun l5 H14 n14 hl5 hL5 => ?_
    have W14 := W13.go n14
    walk_at "sx"
    refine g_catM W14.ex (hCs.go n14 (by simp)) hL5 (by simp; omega) fun r6 H15 n15' hr6 hL6 => ?_
    have W15 := W14.go n15'
    obtain ⟨cs, hcs⟩ : ∃ cs : List Int, (ts ++ [u]).map PyData.int ++ [.int 50, .int (-7)] = cs.map .int := ⟨ts ++ [u] ++ [50, -7], by simp⟩
    rw [hcs] at hL6
    have n1215 := n13.trans (n14.trans n15')
    have hS15 := hS12.go n1215 (by simp)
    have cv15 := cv12.go n1215.gg
    have hr6P : r6 ≠ lamP K := fun z => W14.tb.live (z ▸ hr6)
    walk_at "sx"
    refine g_walkLs hL6 fun S => ?_
    refine g_forS (K := K) (M := [lamP K]) (S [lamP K] (fun z => hr6P (List.mem_singleton.mp z))) W15.ex (fun k σ G' H' => ∃ y10, σ = [some (.ref l), some (.ref a), some (.ref d), some (.ref cl), some (.int f), some (.ref fp), some v, none, none, y9, y10, some (.ref sp), some (.ref t), some (.str (kindS sn.length)), y14, y15, y16] ∧ W36 K a d cl fp g n f F G' H') ⟨_, rfl, W15⟩ ?_ ?_
    · rintro k z x3 σ3 G16 H16 G17 H17 hk n16 ⟨y10, rfl, W16⟩ n17 dx
      rw [List.getElem?_map] at hk
      obtain ⟨x, hx0, rfl⟩ := Option.map_eq_some_iff.mp hk
      cases dp_int dx
      have W17 := W16.go n17
      have n1517 : Nx [lamP K] G13 H15 G17 H17 := n16.trans n17.pure
      have hS17 := hS15.go n1517 (by simpa using hspP)
      have cv17 := cv15.go n1517.gg
      walk_at "sx"
      refine g_tupRaw (K := K) W17.ex (by show 3 ≤ sizeLine; decide) fun t3 G18 H18 n18 ht3 hT3 => ?_
      have W18 := W17.go n18
      walk_at "sx"
      refine ⟨G18, d, f, .ref t3, g, rfl, W18.ex, W18.tb, W18.hD, gok, W.r5, hg6, .inr (.inr (.inl ⟨t3, v, .int x, .int x, rfl, hT3, .int _, .inl ⟨c, cv17.go n18.gg, fun G19 H19 n19 t19 hD19 => ?_⟩⟩))⟩
      have W19 := W18.goP n19 t19
      have hS19 := (hS17.go n18 (by simp)).go n19 (fun z => hspP (List.mem_singleton.mp z))
      walk_at "sx"
      refine g_lstLs (K := K) (L := [.int x]) W19.ex (.cons (.int _) .nil) (by show 1 ≤ 100000; decide) fun l20 H20 n20 hl20 hL20 => ?_
      have W20 := W19.go n20
      walk_at "sx"
      refine ⟨_, _, (hS19.go n20 (by simp)).dp W20.ex, hL20.dp W20.ex, shaped_ints (by have := W.Fl; omega), shaped_ints (ns := [x]) (by simp), ?_⟩
      rw [eqv_one, seen_sur aF hm hsn hsm]
      walk_at "sx"
      refine ⟨rfl, ?_⟩
      walk_at "sx"
      refine g_ndec (fun z => absurd rfl z) (fun _ => ?_)
      walk_at "sx"
      exact ⟨G19, (n1517.trans (n18.pure.trans n19)).trans n20.pure, _, rfl, W20⟩
    rintro σ3 G16 H16 n16 ⟨y10', rfl, W16⟩
    have cv16 := cv15.go n16.gg
    have n716 : Nx [lamP K] G7 H7 G16 H16 := ((((n89.pure.trans n10).trans n11.pure).trans n12).trans n1215.pure).trans n16
    clear hS9 hS10 hS11 hS12 hS15 hS9' S hL6
    walk_at "sx"
    refine g_walkR (by decide) (by decide) ?_
    refine g_forS (K := K) (M := [a, lamP K]) (src_rng 0 _) W16.ex (fun k σ G' H' => ∃ y14 y15 y16, σ = [some (.ref l), some (.ref a), some (.ref d), some (.ref cl), some (.int f), some (.ref fp), some v, none, none, y9, y10', some (.ref sp), some (.ref t), some (.str (kindS sn.length)), y14, y15, y16] ∧ W36 K a d cl fp g n f F G' H') ⟨_, _, _, rfl, W16⟩ ?_ ?_
    rotate_left
    · rintro σ4 G17 H17 n17 ⟨y14', y15', y16', rfl, W17⟩
      walk_at "sx"
      exact ⟨G17, ((n6.trans n7.pure).trans (n716.mono fun b z => by simp at z; simp [z])).trans n17, _, _, _, _, _, _, _, _, _, rfl, W17⟩
    rintro k z x3 σ4 G17 H17 G18 H18 hk n17 ⟨y14', y15', y16', rfl, W17⟩ n18 dx
    obtain ⟨hkn, rfl⟩ := rng_get hk
    cases dp_int dx
    have W18 := W17.go n18
    have n1618 : Nx [a, lamP K] G16 H16 G18 H18 := n17.trans n18.pure
    have cv18 := cv16.go n1618.gg
    have hn6 : n ≤ 6 := by have := W.hn; omega
    walk_at "sx"
    refine ⟨G18, a, d, g, n, rfl, W18.ex, W18.hp, W18.hD.rd, W.hg, hn6, W.da.symm, fun p1 v1 G19 H19 n19 hp19 hp1 hv1 hP1 => ?_⟩
    have W19 := W18.goA n19 hp19
    have hp1a : p1 ≠ a := fun z => W18.hp.live (z ▸ hp1)
    have hp1d : p1 ≠ d := fun z => W18.hD.live (z ▸ hp1)
    walk_at "sx"
    refine ⟨G19, a, d, g, n, rfl, W19.ex, W19.hp, W19.hD.rd, W.hg, hn6, W.da.symm, fun p2 v2 G20 H20 n20 hp20 hp2 hv2 hP2 => ?_⟩
    have W20 := W19.goA n20 hp20
    have hp2d : p2 ≠ d := fun z => W19.hD.live (z ▸ hp2)
    have hP1 := hP1.go n20 (by simpa using hp1a)
    walk_at "sx"
    refine g_lstM W20.ex (by show 2 ≤ sizeLine; decide) fun pl H21 n21 hpl hlst gpl => ?_
    have W21 := W20.go n21
    have hP1 := hP1.go n21 (by simp)
    have hP2 := hP2.go n21 (by simp)
    have cv21 := cv18.go (n19.gg.trans (n20.gg.trans n21.gg))
    have n1821 : Nx [a] G18 H18 G20 H21 := (n19.trans n20).trans n21.pure
    walk_at "sx"
    have hnk1 : (v1.map (·.1)).Nodup := by rw [hv1]; exact hnd
    have hnk2 : (v2.map (·.1)).Nodup := by rw [hv2]; exact hnd
    have hl1 : v1.length = g.length := by
      have := congrArg List.length hv1
      simpa using this
    obtain ⟨x1, hx1⟩ := Option.isSome_iff_exists.mp (all_keys hv1 c (List.mem_map.mpr ⟨_, hm, rfl⟩))
    obtain ⟨x2, hx2⟩ := Option.isSome_iff_exists.mp (all_keys hv2 c (List.mem_map.mpr ⟨_, hm, rfl⟩))
    refine ⟨fun σ' H' => ∃ G', Nx [] G20 H21 G' H' ∧ σ' = [some (.ref l), some (.ref a), some (.ref d), some (.ref cl), some (.int f), some (.ref fp), some v, none, none, y9, y10', some (.ref sp), some (.ref t), some (.str (kindS sn.length)), some (.int (k : Int)), some (.ref pl), some (.bl (explB v1 g f && explB v2 g f))], ?_, ?_⟩
    · walk_at "sx"
      refine g_ixM hlst (k := 0) rfl rfl ?_
      walk_at "sx"
      refine ⟨G20, d, f, p1, g, v1, rfl, W21.ex, W21.hD.rd, gok, hP1.rd, all_keys hv1, fun G22 H22 n22 => ?_⟩
      rw [← expl_keys hv1]
      refine ⟨_, rfl, ?_⟩
      refine g_bool (fun h1 => ?_) (fun h1 => ?_)
      · rw [h1]
        walk_at "sx"
        refine g_ixM (n22.fr pl _ (by simp) hlst) (k := 1) rfl rfl ?_
        walk_at "sx"
        refine ⟨G22, d, f, p2, g, v2, rfl, n22.gh, (W21.hD.go n22 (by simp)).rd, gok, (hP2.go n22 (by simp)).rd, all_keys hv2, fun G23 H23 n23 => ?_⟩
        rw [← expl_keys hv2]
        walk_at "sx"
        exact ⟨G23, n22.trans n23, by rw [Bool.true_and]; rfl⟩
      · rw [h1]
        walk_at "sx"
        exact ⟨G22, n22, by rw [Bool.false_and]; rfl⟩
    rintro σ5 H22 ⟨G22, n22, rfl⟩
    have W22 := W21.go n22
    have hP1 := hP1.go n22 (by simp)
    have hP2 := hP2.go n22 (by simp)
    have hlst := n22.fr pl _ (by simp) hlst
    have cv22 := cv21.go n22.gg
    refine ⟨fun σ' H' => ∃ G', Nx [] G22 H22 G' H' ∧ σ' = [some (.ref l), some (.ref a), some (.ref d), some (.ref cl), some (.int f), some (.ref fp), some v, none, none, y9, y10', some (.ref sp), some (.ref t), some (.str (kindS sn.length)), some (.int (k : Int)), some (.ref pl), some (.bl (explB v1 g f && explB v2 g f && decide (x1 ≠ x2)))], ?_, ?_⟩
    · walk_at "sx"
      refine g_bool (fun h1 => ?_) (fun h1 => ?_)
      · rw [h1]
        walk_at "sx"
        refine g_ixM hlst (k := 0) rfl rfl ?_
        walk_at "sx"
        refine g_dtGet (x := .int x1) W22.ex hP1.rd cv22 (by rw [inDv_gt3, hx1]; rfl) fun v3 dv3 => ?_
        cases dp_int dv3
        walk_at "sx"
        refine g_ixM hlst (k := 1) rfl rfl ?_
        walk_at "sx"
        refine g_dtGet (x := .int x2) W22.ex hP2.rd cv22 (by rw [inDv_gt3, hx2]; rfl) fun v4 dv4 => ?_
        cases dp_int dv4
        walk_at "sx"
        refine ⟨G22, Nx.refl W22.ex, ?_⟩
        rw [Bool.true_and]
        simp
      · rw [h1]
        walk_at "sx"
        exact ⟨G22, Nx.refl W22.ex, by rw [Bool.false_and]; rfl⟩
    rintro σ6 H23 ⟨G23, n23, rfl⟩
    have W23 := W22.go n23
    have hP1 := hP1.go n23 (by simp)
    have hP2 := hP2.go n23 (by simp)
    have hlst := n23.fr pl _ (by simp) hlst
    have cv23 := cv22.go n23.gg
    walk_at "sx"
    refine g_ixM hlst (k := 0) rfl rfl ?_
    walk_at "sx"
    refine ⟨G23, p1, v1, rfl, W23.ex, hP1.rd, hnk1, by omega, fun p3 G24 H24 n24 hp3 hP3 => ?_⟩
    have W24 := W23.go n24
    have hP2 := hP2.go n24 (by simp)
    have hlst := n24.fr pl _ (by simp) hlst
    have cv24 := cv23.go n24.gg
    have hp3d : p3 ≠ d := fun z => W23.hD.live (z ▸ hp3)
    walk_at "sx"
    refine g_ixM hlst (k := 1) rfl rfl ?_
    walk_at "sx"
    refine g_tupRaw (K := K) W24.ex (by show 4 ≤ sizeLine; decide) fun t5 G25 H25 n25 ht5 hT5 => ?_
    have W25 := W24.go n25
    have hP2 := hP2.go n25 (by simp)
    have hP3 := hP3.go n25 (by simp)
    walk_at "sx"
    refine ⟨G25, d, f, .ref t5, g, rfl, W25.ex, W25.tb, W25.hD, gok, W.r5, hg6, .inr (.inr (.inr ⟨t5, v, .ref p3, .ref p2, c, _, _, _, _, rfl, hT5, cv24.go n25.gg, .inl ⟨p3, v1.reverse, rfl, hP3, hp3d, by rw [List.length_reverse]; omega, by rw [List.map_reverse]; exact (List.reverse_perm _).nodup_iff.mpr hnk1, rfl, rfl⟩, .inl ⟨p2, v2, rfl, hP2, hp2d, by have := congrArg List.length hv2; rw [List.length_map, hlen] at this; omega, hnk2, rfl, rfl⟩, fun G26 H26 n26 t26 hD26 => ?_⟩))⟩
    have W26 := W25.goP n26 t26
    have eop : opB g c (explB v1.reverse g f) (explB v2 g f) (some v1.reverse) (some v2) = (explB v1 g f && explB v2 g f && decide (x1 ≠ x2)) := by
      unfold opB
      rw [mem_gtM hnd hm, expl_rev hnk1]
      show (true && (explB v1 g f && explB v2 g f) && decide (gtM v1.reverse c ≠ gtM v2 c)) = _
      rw [gtM_rev hnk1, hx1, hx2, Bool.true_and]
      congr 1
      exact decide_eq_decide.mpr ⟨fun h z => h (by rw [z]), fun h z => h (Option.some.inj z)⟩
    rw [eop]
    walk_at "sx"
    refine ⟨rfl, ?_⟩
    walk_at "sx"
    refine g_ndec (fun z => absurd rfl z) (fun _ => ?_)
    walk_at "sx"
    have nn : Nx [a, lamP K] G18 H18 G26 H26 := ((n1821.mono fun b z => by rw [List.mem_singleton.mp z]; simp).trans (n22.trans (n23.trans (n24.trans n25))).pure).trans (n26.mono fun b z => List.mem_cons_of_mem _ z)
    exact ⟨G26, n1618.trans nn, _, _, _, rfl, W26⟩
theorem ok_law (T : Tx fa fn bx K mg) (TB : LamX.TabB base mg (lamC K) (lamP K)) : FnOk P w K mg base CX0 8 (He.ga K "law") (fdOf K (He.ga K "law")) ["script"] (sp_law K) := by
  refine FunD.ok (F_law T) sc_law (fun vs H Q E h => ?_) (fun cdv A outer s H vs Q E hr h => ?_)
  · obtain ⟨_, _, _, rfl, _⟩ := h
    rfl
  · obtain ⟨G, l, ns, rfl, e, t, hl, q⟩ := h
    obtain ⟨tR, pR, hR⟩ := rest_law (P := P) (w := w) (base := base) (E := E) (cdv := cdv) (A := A) (outer := outer) (s := s) (H := H) T TB hr
    refine ⟨_, PSs.nox ((pss_cons (ps_set (i := 1) sc_law.nd rfl (Or.inl rfl) (Y.pe_callC (ok__law_pool T) (cal__law_pool T) (hr.mono (by decide)) (by rfl) pass0 (pa_cons (pv 0) pa_nil)))
      (pss_cons (ps_set (i := 2) sc_law.nd rfl (Or.inl rfl) (Y.pe_callC (ok__law_ground T) (cal__law_ground T) (hr.mono (by decide)) (by rfl) pass0 (pa_cons (pv 1) (pa_cons pe_int (pa_cons pe_int pa_nil)))))
      (pss_cons (ps_set (i := 3) sc_law.nd rfl (Or.inl rfl) (pe_callTy (Y.call_listT rfl) (by rfl) (T.free 13) (by decide +kernel) (pa_cons (pv 2) pa_nil)))
      (pss_cons (ps_set (i := 4) sc_law.nd rfl (Or.inl rfl) (Y.pe_callC (ok__law_take T) (cal__law_take T) (hr.mono (by decide)) (by rfl) pass0 (pa_cons (pv 1) (pa_cons pe_int pa_nil))))
      (pss_cons (ps_set (i := 5) sc_law.nd rfl (Or.inl rfl) (Y.pe_callC (ok__law_all T) (cal__law_all T) (hr.mono (by decide)) (by rfl) pass0 (pa_cons (pv 2) (pa_cons (pv 4) pa_nil))))
      (pss_cons (ps_if (pt_cmpR op_ne (Y.pe_callC (ok_judges_cell T TB) (cal_judges_cell T) (hr.mono (by decide)) (by rfl) pass0 (pa_cons (pv 2) (pa_cons (pv 4) (pa_cons (pe_tup (pa_cons pe_str pa_nil)) pa_nil)))) (pe_notTK (K := K) rfl (pv 5)) (nomark _))
      (pss_one (ps_ret pe_bl))
      pss_nil)
      pR))))))), ?_⟩
    walk_at "sx"
    refine ⟨G, l, ns, rfl, e, hl, fun a G1 H1 n1 ha hp1 => ?_⟩
    walk_at "sx"
    refine ⟨G1, a, 4, 4, rfl, n1.gh, hp1, by decide, by decide, by decide, by decide, fun d g n G2 H2 n2 hp2 hd hD hg hn1 hn2 => ?_⟩
    walk_at "sx"
    have hgk := hg.keys
    have hgn : g.length = n := by
      have := congrArg List.length hgk
      simpa using this
    have hnd : (g.map (·.1)).Nodup := by rw [hgk]; exact cells_nd
    have gok : GrOk g := ⟨hnd, by omega, fun e he => ⟨(hg.rows e he).1, by have := (hg.rows e he).2.1; omega⟩⟩
    have n12 : Nx [] G H G2 H2 := (n1.pure.trans n2).drop ha
    have t2 : TbAt K G2 H2 := t.go n12 (by simp)
    have hda : d ≠ a := fun z => hp1.live (z ▸ hd)
    refine g_dtList n2.gh hD.rd fun cl G3 H3 n3 hcl hC => ?_
    walk_at "sx"
    rw [grD_keys] at hC
    have hp3 := hp2.go n3 (by simp)
    have hD3 := hD.go n3 (by simp)
    have t3 : TbAt K G3 H3 := t2.go n3 (by simp)
    have hca : cl ≠ a := fun z => hp2.live (z ▸ hcl)
    have hdc : d ≠ cl := fun z => hD.live (z ▸ hcl)
    refine ⟨G3, a, 5, rfl, n3.gh, hp3, by decide, by decide, fun f H4 f0 f5 n4 hp4 => ?_⟩
    walk_at "sx"
    have haP := tb_pool t3 hp3
    have t4 : TbAt K G3 H4 := t3.go n4 (fun z => haP (List.mem_singleton.mp z).symm)
    have hD4 := hD3.go n4 (by simpa using hda)
    have hC4 := LsR.go cl_mono hC n4 (by simpa using hca)
    refine ⟨G3, d, f, g, n, rfl, n4.gh, hD4.rd, hg, by omega, f0, fun fp F G5 H5 n5 hfp hF hmem hFl => ?_⟩
    have aF : AllF g f F := ⟨hnd, fun e he => (hg.rows e he).1, hmem⟩
    walk_at "sx"
    have W5 : W36 K a d cl fp g n f F G5 H5 := ⟨n5.gh, t4.go n5 (by simp), hD4.go n5 (by simp), hp4.go n5 (by simp), LsR.go cl_mono hC4 n5 (by simp), hF, hg, gok, by omega, hn1, aF, hFl, f0, f5, hda, hca, fun z => hp4.live (z ▸ hfp), hdc⟩
    refine g_tupRaw (K := K) W5.ex (by show 1 ≤ sizeLine; decide) fun tt G6 H6 n6 htt hT => ?_
    have W6 := W5.go n6
    walk_at "sx"
    refine ⟨G6, d, f, .ref tt, g, rfl, W6.ex, W6.tb, W6.hD, gok, W6.r5, by omega, .inr (.inl ⟨tt, rfl, hT, fun G7 H7 n7 t7 hD7 => ?_⟩)⟩
    have W7 := W6.goP n7 t7
    refine g_notT36 ?_
    walk_at "sx"
    obtain ⟨vsF, hvF, gF, pF⟩ := id W7.hF
    refine ⟨!vsF.isEmpty, .inl ⟨vsF, .of hvF, rfl⟩, ?_⟩
    walk_at "sx"
    refine ⟨rfl, ?_⟩
    walk_at "sx"
    have hve : (!(!vsF.isEmpty)) = decide (f < (lowN g).sum) := by
      have hl := pr_len pF
      cases vsF with
      | nil =>
        have : F = [] := List.eq_nil_of_length_eq_zero hl.symm
        have := aF.none.mp this
        rw [decide_eq_true (by omega)]
        rfl
      | cons x xs =>
        have : F ≠ [] := fun z => by rw [z] at hl; cases hl
        rw [decide_eq_false fun z => this (aF.none.mpr (by omega))]
        rfl
    rw [hve]
    refine g_ndec (fun z => absurd rfl z) (fun _ => ?_)
    walk_at "sx"
    exact hR _ l a d cl fp g n f F G7 H7 W7 q
end
end A
set_option maxHeartbeats 0
namespace A
open PySem PySem.Spec PyProof.Rows L2 Y
theorem tx {K : PySem.W.Frag} {w : World} {h : Heap} {mg : Str → Option Value} (X : K.In h) (G : h.Ns mainGlobals mg) (c : He.SaysX fa fn [] [("_most_told", none)] bx w h K) : Tx fa fn bx K mg := ⟨congrArg Prod.fst c.t, c.more, h, X, G⟩
theorem bindsLaw {K : PySem.W.Frag} {mg : Str → Option Value} (T : Tx fa fn bx K mg) (s : Shared) (v : Value) : BindsTo s (fdOf K (He.ga K "law")) ⟨[v], []⟩ [("script", v)] :=
  FunD.bindsA (ps := ["script"]) (F_law T) (fun _ _ _ _ _ _ us hl => match us, hl with | [_], _ => rfl) s [v] rfl
end A
open PySem PySem.W PySem.Calls PyProof.Rows
theorem PySem.Challenge.cw_laidviews_k36_papers_of_cells_holds : PySem.Challenge.rw_laidviews_k36_papers_of_cells.Holds := by
  w_on; o_law
  refine HandSHeadRun.head_any (r := A.R) (q := view A.R.prog [39]) (H := A.hk) (ob := A.ob) (M := 6000) (loose := A.loose) (d := HandSHeadRun.topDef A.R.prog 39) (kwd := []) A.ob_eq
    (by kernel_rfl) (fun s => by kernel_rfl) A.run (by kernel_rfl) (by kernel_rfl) (by kernel_rfl) (by rfl) (by first | assumption | decide +kernel) (by decide +kernel) ⟨rfl, rfl, rfl, rfl, rfl, by decide +kernel⟩ ?hw ?hc
  case hw => w_witness2
  case hc =>
    refine LamX.walk_ofTsE (l := PySem.Challenge.rw_laidviews_k36_papers_of_cells) (n := 63) (k := 8) (x := "script") (CX := fun _ => L2.CX0) rfl (by decide) (by kernel_rfl) ⟨rfl, by decide, by decide⟩ ?F (fun _ _ _ _ _ z => z)
    intro w mg f h Z G hmg0
    obtain ⟨K, KX, c⟩ := Z
    have T := A.tx KX G c
    have hmg : mg ("law" : PySem.Str) = some (.ref f) := by
      have e : (HandSHeadRun.topDef A.R.prog 39).name = ("law" : PySem.Str) := by kernel_rfl
      rw [← e]
      exact hmg0
    have e := hmg.symm.trans (A.cal_law T).g
    cases e
    have hm : (("_most_told", none) : He.Defn) ∈ [(("_most_told", none) : He.Defn)] := List.mem_singleton.mpr rfl
    exact ⟨K, KX, _, [He.cT K ("_most_told", none)], A.sp_law K, fun p hp => by rw [List.mem_singleton.mp hp]; exact c.empty _ hm, fun p hp => by rw [List.mem_singleton.mp hp]; exact c.out _ hm, fun p hp => by rw [List.mem_singleton.mp hp]; exact PySem.W.codeHd_of_K KX (c.hd _ hm), A.bindsLaw T,
      fun H a ns hl _ hT hS => let z := Y.start_tab (q := A.lamQ) (hT _ (List.mem_singleton.mpr rfl)) hS; ⟨Y.hide H (A.lamP K), a, ns, rfl, z.1, z.2.1, z.2.2,  fun _ => rfl⟩, fun base _ _ hTB => A.ok_law T (hTB _ (List.mem_singleton.mpr rfl))⟩

