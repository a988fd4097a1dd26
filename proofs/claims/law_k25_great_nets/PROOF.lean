import PyProof.Rows.All
import Wide.All
import OpenK.AllK
import Wide.FinOn
import PySem.Challenge.RW_laidviews_k25_great_nets
import HandS.ForMost
import HandS.Exc
import HandS.TryOnly
import HandS.TryMany
import HandS.ExcInit
import HandS.ExcInitHot
import HandS.ExcField
import HandS.ExcIs
import HandS.RaiseFrom
import HandS.SuiteRaise
import HandS.Style
import HandS.IsInst
import HandS.TupMul
import HandS.TupAny
import HandS.Flow
import HandS.FStr
import HandS.More
import HandS.Deep
import HandS.WordsExc
import HandS.Defaults
import HandS.Head0
import HandS.Head1
import HandS.Head2
import HandS.HeadEnd
import HandS.HeadHook1
import HandS.HeadHook2
import HandS.HeadHook3
import HandS.HeadHook4
import HandS.HeadWalk
import KE.GoesEnum
import KE.GoesMore
import HandS.SortInts
import HandS.Zip
import KE.GoesComp
import KE.GoesRaise
import HandS.Evl
import HandS.Conv
import HandS.Dict
import HandS.Iter
import HandS.ListItems
import HandS.Sort
import KE.KDictList
import HandS.WordsDict
import PyProof.StrLawsAffix
import PyProof.StrLawsTight
import PyProof.Rows.StrItems
import KE.IntText
import HandS.RaiseMore
import HandS.Star
import HandS.StrMore
import HandS.DictComp
import PyProof.DictUpdate
import HandS.SortKw
import HandS.Slots
import HandS.Rev
import KE.KMinBuiltin
import HandS.DictEq
import HandS.DeepEq
import HandS.OwnEq
import HandS.RevTup
import PyProof.ListNew
import PyProof.CollectWalk
import HandS.Strs
import HandS.SetFor
set_option Elab.async false
set_option linter.all false
set_option maxRecDepth 100000
set_option maxHeartbeats 4000000
namespace Y
open PySem PySem.Spec PyProof.Rows L2

/-! ### what is known, and the heap -/
abbrev Ex (G H : Hp) : Prop := ∀ a o, G a = some o → H a = some o
theorem Ex.refl (H : Hp) : Ex H H := fun _ _ h => h
theorem Ex.trans {A B C : Hp} (a : Ex A B) (b : Ex B C) : Ex A C := fun x o h => b x o (a x o h)
theorem Ex.new {H : Hp} {p : Addr} {o : HO} (h : H p = none) : Ex H (upd H p o) := fun a u e => by
  rw [upd_ne (ne_of_none e h)]; exact e
theorem Ex.both {G H : Hp} {p : Addr} {o : HO} (e : Ex G H) : Ex (upd G p o) (upd H p o) := fun a u h => by
  by_cases q : a = p
  · subst q; rw [upd_same] at h ⊢; exact h
  · rw [upd_ne q] at h ⊢; exact e a u h
theorem Ex.out {G H : Hp} {p : Addr} {o : HO} (e : Ex G H) (h : G p = none) : Ex G (upd H p o) := fun a u q => by
  rw [upd_ne (ne_of_none q h)]; exact e a u q
theorem Ex.put {G H : Hp} {p : Addr} {o : HO} (e : Ex G H) (h : H p = some o) : Ex (upd G p o) H := fun a u q => by
  by_cases z : a = p
  · subst z; rw [upd_same] at q; rw [h]; exact q
  · rw [upd_ne z] at q; exact e a u q
theorem Ex.free {G H : Hp} (e : Ex G H) {p : Addr} (h : H p = none) : G p = none := by
  cases q : G p with
  | none => rfl
  | some o => rw [e p o q] at h; cases h
theorem Ex.seqL {K : PySem.W.Frag} {G H : Hp} (e : Ex G H) {a : Addr} {xs : List V} (h : SqL K G a xs) : SqL K H a xs := by
  rcases h with (h | ⟨o, h⟩) | h
  · exact .inl (.inl (e _ _ h))
  · exact .inl (.inr ⟨o, e _ _ h⟩)
  · exact .inr h
theorem Ex.seqT {K : PySem.W.Frag} {G H : Hp} (e : Ex G H) {a : Addr} {xs : List V} (h : SqT K G a xs) : SqT K H a xs := by
  rcases h with (h | ⟨o, h⟩) | h
  · exact .inl (.inl (e _ _ h))
  · exact .inl (.inr ⟨o, e _ _ h⟩)
  · exact .inr h

/-- a step: known part and heap, before and after; M: the cells that may change -/
structure Nx (M : List Addr) (G H G' H' : Hp) : Prop where
  gg : Ex G G'
  gh : Ex G' H'
  old : ∀ b, G b = none → H b ≠ none → G' b = none
  live : ∀ b, H b ≠ none → H' b ≠ none
  fr : ∀ b o, b ∉ M → H b = some o → H' b = some o
section
variable {M M' : List Addr} {G H G' H' G1 H1 G2 H2 : Hp} {p : Addr} {o : HO}
theorem Nx.refl (e : Ex G H) : Nx M G H G H := ⟨Ex.refl _, e, fun _ h _ => h, fun _ h => h, fun _ _ _ h => h⟩
theorem Nx.trans (a : Nx M G H G1 H1) (b : Nx M G1 H1 G2 H2) : Nx M G H G2 H2 :=
  ⟨a.gg.trans b.gg, b.gh, fun c h1 h2 => b.old c (a.old c h1 h2) (a.live c h2), fun c h => b.live c (a.live c h), fun c o hc h => b.fr c o hc (a.fr c o hc h)⟩
theorem Nx.mono (a : Nx M G H G' H') (h : ∀ x, x ∈ M → x ∈ M') : Nx M' G H G' H' := ⟨a.gg, a.gh, a.old, a.live, fun c o hc q => a.fr c o (fun z => hc (h c z)) q⟩
theorem Nx.pure (a : Nx [] G H G' H') : Nx M G H G' H' := a.mono fun _ z => absurd z (by simp)
theorem live_new (h : H p = none) : ∀ b, H b ≠ none → (upd H p o) b ≠ none := fun b q => by
  have z : b ≠ p := fun z => q (by rw [z]; exact h)
  rw [upd_ne z]; exact q
/-- a new object that is known from then on -/
theorem Nx.new (e : Ex G H) (h : H p = none) : Nx [] G H (upd G p o) (upd H p o) :=
  ⟨Ex.new (e.free h), e.both, fun b q1 q2 => by rw [upd_ne (fun z => q2 (by rw [z]; exact h))]; exact q1, live_new h, fun c u _ q => by rw [upd_ne (ne_of_none q h)]; exact q⟩
/-- a new object that may change -/
theorem Nx.own (e : Ex G H) (h : H p = none) : Nx [] G H G (upd H p o) :=
  ⟨Ex.refl _, e.out (e.free h), fun _ q _ => q, live_new h, fun c u _ q => by rw [upd_ne (ne_of_none q h)]; exact q⟩
/-- a change -/
theorem Nx.set (e : Ex G H) (h : G p = none) (hp : p ∈ M) : Nx M G H G (upd H p o) :=
  ⟨Ex.refl _, e.out h, fun _ q _ => q, fun b q => by
    by_cases z : b = p
    · subst z; rw [upd_same]; exact fun w => nomatch w
    · rw [upd_ne z]; exact q, fun c u hc q => by rw [upd_ne (fun z => hc (by rw [z]; exact hp))]; exact q⟩
/-- a cell that was new need not be told -/
theorem Nx.drop (a : Nx (p :: M) G H G' H') (h : H p = none) : Nx M G H G' H' := ⟨a.gg, a.gh, a.old, a.live, fun c u hc q => a.fr c u (fun z => by
  rcases List.mem_cons.mp z with z | z
  · rw [z, h] at q; cases q
  · exact hc z) q⟩
/-- what stands is known from now on -/
theorem Nx.know (a : Nx M G H G' H') (h : H p = none) (q : H' p = some o) (g : G' p = none) : Nx M G H (upd G' p o) H' :=
  ⟨a.gg.trans (Ex.new g), a.gh.put q, fun b h1 h2 => by rw [upd_ne (fun z => h2 (by rw [z]; exact h))]; exact a.old b h1 h2, a.live, a.fr⟩
theorem Nx.fresh (a : Nx M G H G' H') (h : H' p = none) : H p = none := by
  cases q : H p with
  | none => rfl
  | some o => exact absurd h (a.live p (by rw [q]; exact fun z => nomatch z))
end

/-! ### data -/
section
variable {K : PySem.W.Frag} {G G' H : Hp} {v : V} {vs ws : List V} {d : PyData} {ds es : List PyData}
mutual
theorem dp_mono (e : Ex G G') : ∀ {v : V} {d : PyData}, Dp K G v d → Dp K G' v d
  | _, _, .non => .non
  | _, _, .bl b => .bl b
  | _, _, .int i => .int i
  | _, _, .str x => .str x
  | _, _, .lst h a => .lst (e.seqL h) (dpAll_mono e a)
  | _, _, .tup h a => .tup (e.seqT h) (dpAll_mono e a)
theorem dpAll_mono (e : Ex G G') : ∀ {vs : List V} {ds : List PyData}, DpAll K G vs ds → DpAll K G' vs ds
  | _, _, .nil => .nil
  | _, _, .cons h t => .cons (dp_mono e h) (dpAll_mono e t)
end
theorem dpAll_len : ∀ {vs : List V} {ds : List PyData}, DpAll K G vs ds → vs.length = ds.length
  | _, _, .nil => rfl
  | _, _, .cons _ t => congrArg (· + 1) (dpAll_len t)
theorem dpAll_get : ∀ {vs : List V} {ds : List PyData} {i : Nat} {d : PyData}, DpAll K G vs ds → ds[i]? = some d → ∃ v, vs[i]? = some v ∧ Dp K G v d
  | _, _, 0, _, .cons h _, e => ⟨_, rfl, by cases (Option.some.inj e); exact h⟩
  | _, _, i + 1, _, .cons _ t, e => dpAll_get (i := i) t e
  | _, _, i, _, .nil, e => by simp at e
theorem dpAll_got : ∀ {vs : List V} {ds : List PyData} {i : Nat} {v : V}, DpAll K G vs ds → vs[i]? = some v → ∃ d, ds[i]? = some d ∧ Dp K G v d
  | _, _, 0, _, .cons h _, e => ⟨_, rfl, by cases (Option.some.inj e); exact h⟩
  | _, _, i + 1, _, .cons _ t, e => dpAll_got (i := i) t e
  | _, _, i, _, .nil, e => by simp at e
theorem dpAll_app : ∀ {vs ws : List V} {ds es : List PyData}, DpAll K G vs ds → DpAll K G ws es → DpAll K G (vs ++ ws) (ds ++ es)
  | _, _, _, _, .nil, h => h
  | _, _, _, _, .cons a t, h => .cons a (dpAll_app t h)
theorem dpAll_snoc (h : DpAll K G vs ds) (hv : Dp K G v d) : DpAll K G (vs ++ [v]) (ds ++ [d]) := dpAll_app h (.cons hv .nil)
theorem dpAll_take : ∀ {vs : List V} {ds : List PyData} (n : Nat), DpAll K G vs ds → DpAll K G (vs.take n) (ds.take n)
  | _, _, 0, _ => .nil
  | _, _, _ + 1, .nil => .nil
  | _, _, n + 1, .cons a t => .cons a (dpAll_take n t)
theorem dpAll_drop : ∀ {vs : List V} {ds : List PyData} (n : Nat), DpAll K G vs ds → DpAll K G (vs.drop n) (ds.drop n)
  | _, _, 0, h => h
  | _, _, _ + 1, .nil => .nil
  | _, _, n + 1, .cons _ t => dpAll_drop n t
theorem dp_int {i : Int} (h : Dp K G v (.int i)) : v = .int i := by cases h; rfl
theorem dp_bl {b : Bool} (h : Dp K G v (.bool b)) : v = .bl b := by cases h; rfl
theorem dp_str {x : Str} (h : Dp K G v (.str x)) : v = .str x := by cases h; rfl
theorem dp_non (h : Dp K G v .none) : v = .non := by cases h; rfl
theorem dp_tup (h : Dp K G v (.tuple ds)) : ∃ a vs, v = .ref a ∧ SqT K G a vs ∧ DpAll K G vs ds := by cases h; exact ⟨_, _, rfl, ‹_›, ‹_›⟩
theorem dp_lst (h : Dp K G v (.list ds)) : ∃ a vs, v = .ref a ∧ SqL K G a vs ∧ DpAll K G vs ds := by cases h; exact ⟨_, _, rfl, ‹_›, ‹_›⟩
theorem dp_nodict {kvs : List (PyData × PyData)} (h : Dp K G v (.dict kvs)) : False := by cases h
theorem dpAll_ints : ∀ ns : List Int, DpAll K G (ns.map V.int) (ns.map PyData.int)
  | [] => .nil
  | n :: r => .cons (.int n) (dpAll_ints r)
theorem dpAll_ints_inv : ∀ {ns : List Int} {vs : List V}, DpAll K G vs (ns.map PyData.int) → vs = ns.map V.int
  | [], _, h => by cases h; rfl
  | n :: r, _, h => by
    cases h with
    | cons a t =>
      cases a
      rw [dpAll_ints_inv t]; rfl
theorem dpAll_bools_inv : ∀ {ns : List Bool} {vs : List V}, DpAll K G vs (ns.map PyData.bool) → vs = ns.map V.bl
  | [], _, h => by cases h; rfl
  | n :: r, _, h => by
    cases h with
    | cons a t =>
      cases a
      rw [dpAll_bools_inv t]; rfl
/-- the type's name -/
def tyN : PyData → String
  | .none => "NoneType"
  | .bool _ => "bool"
  | .int _ => "int"
  | .str _ => "str"
  | .list _ => "list"
  | .tuple _ => "tuple"
  | .dict _ => "dict"
/-- isinstance with a built-in type -/
def isA (d : PyData) (n : String) : Bool := (kitB (tyN d) n).getD false
theorem ty_dp (h : Dp K H v d) : TyX K H v (.type (tyN d)) := by
  cases h with
  | non => exact .base .non
  | bl b => exact .base (.bl b)
  | int i => exact .base (.int i)
  | str x => exact .base (.str x)
  | lst hs _ =>
    rcases hs with (hs | ⟨o, hs⟩) | ⟨o, its, n, hs, hc, _⟩
    · exact .base (.lst hs)
    · exact .base (.frz hs)
    · exact .kList hs hc
  | tup hs _ =>
    rcases hs with (hs | ⟨o, hs⟩) | ⟨o, its, n, hs, hc, _⟩
    · exact .base (.tup hs)
    · exact .fTuple hs
    · exact .kTuple hs hc
end
end Y

namespace Y
open PySem PySem.Spec PyProof.Rows L2
section
variable {K : PySem.W.Frag} {σ : L2.St} {G H H' : Hp} {Q : VK} {D : Ends} {v x y : V} {d e : PyData} {ds es : List PyData} {ta tb te tc : TE} {ts tu tw : TS} {tt uu : TT} {ar : TA} {QA : List V → Hp → Prop} {QT : Bool → Hp → Prop} {i j : Int} {n : Nat}
/-! names, constants, statements -/
theorem g_var {k : Nat} (h : σ[k]? = some (some v)) (q : Q v H) : tVar k σ H Q := ⟨v, h, q⟩
theorem g_c (q : Q v H) : tC v σ H Q := q
theorem g_seq (q : ts { D with nx := tu D } σ H) : tSeq ts tu D σ H := q
theorem g_asg {g : TG} (q : te σ H fun x H1 => g x σ H1 D.nx) : tAsg te g D σ H := q
theorem g_name {k : Nat} {R : L2.St → Hp → Prop} (q : R (σ.set k (some v)) H) : gName k v σ H R := q
theorem g_ret (q : te σ H D.rt) : tRet te D σ H := q
theorem g_retN (q : D.rt .non H) : tRetN D σ H := q
theorem g_drop (q : te σ H fun _ H1 => D.nx σ H1) : tDrop te D σ H := q
theorem g_next (q : D.nx σ H) : tNext D σ H := q
theorem g_ifS (q : tt σ H fun b H1 => if b = true then ts D σ H1 else tu D σ H1) : tIfS tt ts tu D σ H := q
theorem g_ifE (q : tt σ H fun b H1 => if b = true then ta σ H1 Q else tb σ H1 Q) : tIf tt ta tb σ H Q := q
theorem g_nil (q : QA [] H) : tNil σ H QA := q
theorem g_cons (q : ta σ H fun x H1 => ar σ H1 fun xs H2 => QA (x :: xs) H2) : tCons ta ar σ H QA := q
theorem g_op {r : R2} (q : ta σ H fun x H1 => tb σ H1 fun y H2 => r x y H2 Q) : tOp r ta tb σ H Q := q
theorem g_un {r : V → Hp → VK → Prop} (q : ta σ H fun x H1 => r x H1 Q) : tUn r ta σ H Q := q
theorem g_cb {r : List V → Hp → VK → Prop} (q : ar σ H fun vs H1 => r vs H1 Q) : tCB r ar σ H Q := q
theorem g_call {sp : Sp} {dvs : List V} {E : XK} (q : ar σ H fun vs H1 => sp (vs ++ dvs) H1 Q E) : tCall sp dvs E ar σ H Q := q
/-! tests -/
theorem g_test (q : te σ H fun x H' => ∃ k, x = .bl k ∧ QT k H') : tTest te σ H QT := q
theorem g_tB (q : te σ H fun x H' => ∃ k, x = .bl k ∧ QT k H') : tB te σ H QT := q
theorem g_isbl {b : Bool} {P : Bool → Prop} (q : P b) : ∃ k, V.bl b = .bl k ∧ P k := ⟨b, rfl, q⟩
theorem g_and (q : tt σ H fun c H1 => if c = true then uu σ H1 QT else QT false H1) : tAnd tt uu σ H QT := q
theorem g_or (q : tt σ H fun c H1 => if c = true then QT true H1 else uu σ H1 QT) : tOr tt uu σ H QT := q
theorem g_not (q : tt σ H fun c H1 => QT (!c) H1) : tNot tt σ H QT := q
theorem g_andV (q : ta σ H fun x H1 => ∃ c, x = .bl c ∧ if c = true then tb σ H1 Q else Q (.bl false) H1) : tAndV ta tb σ H Q := q
theorem g_orV (q : ta σ H fun x H1 => ∃ c, x = .bl c ∧ if c = true then Q (.bl true) H1 else tb σ H1 Q) : tOrV ta tb σ H Q := q
theorem g_notV (q : ta σ H fun x H1 => ∃ c, x = .bl c ∧ Q (.bl (!c)) H1) : tNotV ta σ H Q := q
theorem g_chain {r r' : R2} (q : ta σ H fun x H1 => tb σ H1 fun y H2 => r x y H2 fun z H3 => ∃ k, z = .bl k ∧ (if k = true then tc σ H3 fun w' H4 => r' y w' H4 Q else Q (.bl false) H3)) : tChain r r' ta tb tc σ H Q := q
theorem g_isN (q : ta σ H fun x H1 => Q (.bl (decide (x = .non))) H1) : tIsN ta σ H Q := q
theorem g_notN (q : ta σ H fun x H1 => Q (.bl (!decide (x = .non))) H1) : tNotN ta σ H Q := q
theorem g_I0 {g : Int → Int → V} (q : Q (g i j) H) : rI0 g (.int i) (.int j) H Q := ⟨i, j, rfl, rfl, q⟩
theorem g_I {C : Int → Int → Prop} {g : Int → Int → V} (c : C i j) (q : Q (g i j) H) : rI C g (.int i) (.int j) H Q := ⟨i, j, rfl, rfl, c, q⟩
theorem g_U {g : Int → V} (q : Q (g i) H) : rU g (.int i) H Q := ⟨i, rfl, q⟩
theorem g_eq (h : scal x y = true) (q : Q (.bl (decide (x = y))) H) : rEq x y H Q := ⟨h, q⟩
theorem g_ne (h : scal x y = true) (q : Q (.bl (!decide (x = y))) H) : rNe x y H Q := ⟨h, q⟩
theorem g_eqII (q : Q (.bl (decide (i = j))) H) : rEq (.int i) (.int j) H Q := ⟨rfl, by
  have z : decide (V.int i = V.int j) = decide (i = j) := by simp
  rw [z]; exact q⟩
theorem g_eqSS {a b : Str} (q : Q (.bl (decide (a = b))) H) : rEq (.str a) (.str b) H Q := ⟨rfl, by
  have z : decide (V.str a = V.str b) = decide (a = b) := by simp
  rw [z]; exact q⟩
theorem g_neII (q : Q (.bl (!decide (i = j))) H) : rNe (.int i) (.int j) H Q := ⟨rfl, by
  have z : decide (V.int i = V.int j) = decide (i = j) := by simp
  rw [z]; exact q⟩
theorem g_neSS {a b : Str} (q : Q (.bl (!decide (a = b))) H) : rNe (.str a) (.str b) H Q := ⟨rfl, by
  have z : decide (V.str a = V.str b) = decide (a = b) := by simp
  rw [z]; exact q⟩
/-! over data -/
theorem g_isi {nm : String} {b : Bool} (e : Ex G H) (h : Dp K G x d) (hb : kitB (tyN d) nm = some b) (q : Q (.bl b) H) : rIsi K [x, .ty nm] H Q :=
  ⟨x, .ty nm, _, _, b, rfl, .ty nm, ty_dp (dp_mono e h), kit_ty hb, q⟩
theorem g_eqD (e : Ex G H) (hx : Dp K G x d) (hy : Dp K G y d') (s1 : SeqAt.shaped d = true) (s2 : SeqAt.shaped d' = true) (q : Q (.bl (PyData.eqv d d')) H) : rEqD K x y H Q :=
  ⟨d, d', dp_mono e hx, dp_mono e hy, s1, s2, q⟩
theorem g_neD (e : Ex G H) (hx : Dp K G x d) (hy : Dp K G y d') (s1 : SeqAt.shaped d = true) (s2 : SeqAt.shaped d' = true) (q : Q (.bl (!PyData.eqv d d')) H) : rNeD K x y H Q :=
  ⟨d, d', dp_mono e hx, dp_mono e hy, s1, s2, q⟩
theorem g_ixT {k : Nat} (e : Ex G H) (h : Dp K G x (.tuple ds)) (hi : ds[k]? = some d) (hj : i = (k : Int)) (q : ∀ v, Dp K G v d → Q v H) : rIxT K x (.int i) H Q := by
  obtain ⟨a, vs, rfl, hs, hd⟩ := dp_tup h
  obtain ⟨v, hv, hD⟩ := dpAll_get hd hi
  subst hj
  exact ⟨a, vs, _, v, rfl, rfl, e.seqT hs, atI_nat hv, q v hD⟩
theorem g_ixL {k : Nat} (e : Ex G H) (h : Dp K G x (.list ds)) (hi : ds[k]? = some d) (hj : i = (k : Int)) (q : ∀ v, Dp K G v d → Q v H) : rIxL K x (.int i) H Q := by
  obtain ⟨a, vs, rfl, hs, hd⟩ := dp_lst h
  obtain ⟨v, hv, hD⟩ := dpAll_get hd hi
  subst hj
  exact ⟨a, vs, _, v, rfl, rfl, e.seqL hs, atI_nat hv, q v hD⟩
end
end Y
namespace Y
open PySem PySem.Spec PyProof.Rows L2
theorem g_dec {p A B : Prop} {d : Decidable p} {i : Decidable (decide p = true)} (h1 : p → A) (h2 : ¬ p → B) : @ite Prop (decide p = true) i A B := by
  by_cases h : p
  · rw [if_pos (decide_eq_true h)]; exact h1 h
  · rw [if_neg (by simp [h])]; exact h2 h
theorem g_ndec {p A B : Prop} {d : Decidable p} {i : Decidable ((!decide p) = true)} (h1 : ¬ p → A) (h2 : p → B) : @ite Prop ((!decide p) = true) i A B := by
  by_cases h : p
  · rw [if_neg (by simp [h])]; exact h2 h
  · rw [if_pos (by simp [h])]; exact h1 h
theorem g_iT {A B : Prop} {i : Decidable (true = true)} (h : A) : @ite Prop (true = true) i A B := by rw [if_pos rfl]; exact h
theorem g_iF {A B : Prop} {i : Decidable (false = true)} (h : B) : @ite Prop (false = true) i A B := by rw [if_neg (by simp)]; exact h
theorem g_inT {A B : Prop} {i : Decidable ((!true) = true)} (h : B) : @ite Prop ((!true) = true) i A B := by rw [if_neg (by simp)]; exact h
theorem g_inF {A B : Prop} {i : Decidable ((!false) = true)} (h : A) : @ite Prop ((!false) = true) i A B := by rw [if_pos (by simp)]; exact h
theorem g_bool {b : Bool} {A B : Prop} {i : Decidable (b = true)} (h1 : b = true → A) (h2 : b = false → B) : @ite Prop (b = true) i A B := by
  cases b with
  | true => rw [if_pos rfl]; exact h1 rfl
  | false => rw [if_neg (by simp)]; exact h2 rfl
theorem q_bl {Q : VK} {H : Hp} {a b : Bool} (q : Q (.bl a) H) (e : a = b) : Q (.bl b) H := e ▸ q
theorem q_int {Q : VK} {H : Hp} {a b : Int} (q : Q (.int a) H) (e : a = b) : Q (.int b) H := e ▸ q
theorem q_str {Q : VK} {H : Hp} {a b : Str} (q : Q (.str a) H) (e : a = b) : Q (.str b) H := e ▸ q
end Y

namespace Y
open PySem PySem.Spec PyProof.Rows L2
/-! ### what the head tells, by names -/
def fdOf (K : PySem.W.Frag) (a : Addr) : FuncData := match K.lookup a with
  | some ⟨_, _, .func fd, _⟩ => fd
  | _ => PySem.W.fnOf "" "" (defArgs (.Pass ⟨0, 0, 0, 0⟩)) [] (defScope (.Pass ⟨0, 0, 0, 0⟩)) .none .none .none .none none .none .none
structure Tx (fa : List He.Fa) (fn : List He.DefD) (bx : PySem.W.Frag → Bool) (K : PySem.W.Frag) (mg : Str → Option Value) : Prop where
  says : He.SaysD fa fn K
  more : bx K = true
  ex : ∃ h : Heap, K.In h ∧ h.Ns mainGlobals mg
section
variable {fa : List He.Fa} {fl : List He.DefD} {bx : PySem.W.Frag → Bool} {K : PySem.W.Frag} {mg : Str → Option Value}
theorem Tx.fn (T : Tx fa fl bx K mg) (i : Nat) {d : He.DefD} (h : fl[i]? = some d) : FunD K d.name d.qual d.params d.body d.scope (d.dvs K) (d.kws K) (He.fAd K d.at_) (fdOf K (He.fAd K d.at_)) := by
  obtain ⟨fd, F⟩ := T.says.def_ i h
  have e : fdOf K (He.fAd K d.at_) = fd := by
    obtain ⟨oc, od, dV, kV, doc, pm, an, cdv, ct, osl, rfl, lk, _⟩ := F.ex
    unfold fdOf
    rw [lk]
  rw [e]
  exact F
theorem Tx.glo (T : Tx fa fl bx K mg) (i : Nat) {x : Str} (h : fa[i]? = some (.glo x) := by rfl) : mg x = some (.ref (He.ga K x)) := let ⟨_, X, G⟩ := T.ex; He.glo_ok X G (T.says.fact i h)
theorem Tx.free (T : Tx fa fl bx K mg) (i : Nat) {x : Str} (h : fa[i]? = some (.free x) := by rfl) : mg x = none := let ⟨_, X, G⟩ := T.ex; He.free_ok X G (T.says.fact i h)
theorem Tx.int (T : Tx fa fl bx K mg) (i : Nat) {x : Str} {n : Int} (h : fa[i]? = some (.int x n) := by rfl) : ∃ t, mg x = some (.int n t) := let ⟨_, X, G⟩ := T.ex; He.int_ok X G (T.says.fact i h)
theorem Tx.str (T : Tx fa fl bx K mg) (i : Nat) {x z : Str} (h : fa[i]? = some (.str x z) := by rfl) : ∃ t, mg x = some (.str z t) := let ⟨_, X, G⟩ := T.ex; He.str_ok X G (T.says.fact i h)
theorem Tx.cls (T : Tx fa fl bx K mg) (i : Nat) {x : Str} (h : fa[i]? = some (.cls x) := by rfl) : Cls K (He.ga K x) := He.cls_ok (T.says.fact i h)
theorem Tx.noat (T : Tx fa fl bx K mg) (i : Nat) {x f : Str} (h : fa[i]? = some (.noat x f) := by rfl) : NoAttr K (He.ga K x) f := He.noat_ok (T.says.fact i h)
theorem Tx.meth (T : Tx fa fl bx K mg) (i : Nat) {x m : Str} (h : fa[i]? = some (.meth x m) := by rfl) : Meth K (He.ga K x) m (He.ma K (He.ga K x) m) := He.meth_ok (T.says.fact i h)
theorem Tx.mkr (T : Tx fa fl bx K mg) (i : Nat) {x : Str} (h : fa[i]? = some (.mkr x) := by rfl) : Mk K (He.ga K x) (He.ma K (He.ga K x) "__init__") := He.mkr_ok (T.says.fact i h)
theorem Tx.exm (T : Tx fa fl bx K mg) (i : Nat) {x y : Str} {b : Bool} (h : fa[i]? = some (.exm x y b) := by rfl) : PySem.W.exmOne K (.ref (He.ga K x)) (.ref (He.ga K y)) = some b := He.exm_ok (T.says.fact i h)
theorem Tx.keep (T : Tx fa fl bx K mg) (i : Nat) {x : Str} (h : fa[i]? = some (.keep x) := by rfl) : PySem.W.keepIn K (.ref (He.ga K x)) = true := He.keep_ok (T.says.fact i h)
end
/-- what a call by name wants -/
structure Cal (K : PySem.W.Frag) (mg : Str → Option Value) (x : Str) (ps : List Str) : Prop where
  g : mg x = some (.ref (He.ga K x))
  k : PySem.W.keepIn K (.ref (He.ga K x)) = true
  b : Binds K (fdOf K (He.ga K x)) ps []
structure CalM (K : PySem.W.Frag) (a : Addr) (ps : List Str) : Prop where
  k : PySem.W.keepIn K (.ref a) = true
  b : Binds K (fdOf K a) ps []
/-- a call of a def without defaults -/
def tCall1 (sp : Sp) (E : XK) (t : TA) : TE := fun σ H Q => t σ H fun vs H1 => sp vs H1 Q E
section
variable {X : Cx} {CX : CXT} {k : Nat} {C : Addr} {ps : List Str} {sp : Sp} {E : XK} {x m : Str} {p pos apos : Pos} {e o : Expr} {es : List Expr} {ta : TE} {t : TA}
theorem pe_callC (F : FnOk X.prog X.w X.K X.mg X.base CX k (He.ga X.K x) (fdOf X.K (He.ga X.K x)) ps sp) (c : Cal X.K X.mg x ps) (hr : Room k X.A) (hg : Gl X x) (hx : Passes CX X E)
    (ha : PA X (e :: es) t) (hdb : (x == ("__debug__" : Str)) = false := by decide) (he : starEach (e :: es) X.env = (false, eval e X.env) :: starEach es X.env := by rfl) (hpl : (backTo pos (starEach es X.env)).any (·.1) = false := by rfl) :
    PE X (.Call (.Name x p) (e :: es) [] pos) (tCall1 sp E t) := by
  have h := pe_call (p := p) (pos := pos) (dvs := []) F hr hg c.g c.k c.b .nil hx ha hdb he hpl
  have e1 : tCall sp [] E t = tCall1 sp E t := by
    unfold tCall tCall1
    simp only [List.append_nil]
  rw [← e1]
  exact h
theorem pe_call0C (F : FnOk X.prog X.w X.K X.mg X.base CX k (He.ga X.K x) (fdOf X.K (He.ga X.K x)) ps sp) (c : Cal X.K X.mg x ps) (hr : Room k X.A) (hg : Gl X x) (hx : Passes CX X E)
    (hdb : (x == ("__debug__" : Str)) = false := by decide) : PE X (.Call (.Name x p) [] [] pos) (tCall1 sp E tNil) := pe_call0 (dvs := []) F hr hg c.g c.k c.b .nil hx hdb
/-- o.m(..) -/
def tMeth1 (C : Addr) (m : Str) (sp : Sp) (E : XK) (ta : TE) (t : TA) : TE := fun σ H Q => ta σ H fun x H1 => ∃ a dx fs, x = .ref a ∧ H1 a = some (.ins C dx fs) ∧ fs.lookup m = none ∧ t σ H1 fun vs H2 => sp (.ref a :: vs) H2 Q E
theorem pe_gint {i : Int} {pos : Pos} (h : ∃ t, X.mg x = some (.int i t)) (hg : Gl X x := by rfl) (hd : (x == ("__debug__" : Str)) = false := by decide) : PE X (.Name x pos) (tC (.int i)) := let ⟨t, h⟩ := h; pe_glob hg h ⟨t, rfl⟩ hd
theorem pe_gstr {i : Str} {pos : Pos} (h : ∃ t, X.mg x = some (.str i t)) (hg : Gl X x := by rfl) (hd : (x == ("__debug__" : Str)) = false := by decide) : PE X (.Name x pos) (tC (.str i)) := let ⟨t, h⟩ := h; pe_glob hg h ⟨t, rfl⟩ hd
end
section
variable {σ : L2.St} {H : Hp} {Q : VK}
theorem g_call1 {sp : Sp} {E : XK} {ar : TA} (q : ar σ H fun vs H1 => sp vs H1 Q E) : tCall1 sp E ar σ H Q := q
end
end Y

namespace Y
open PySem PySem.Spec PyProof.Rows L2
/-! ### readings by name -/
def rLen (K : PySem.W.Frag) : List V → Hp → VK → Prop := fun xs H Q => ∃ p ys, xs = [.ref p] ∧ (SqL K H p ys ∨ SqT K H p ys) ∧ Q (.int ys.length) H
def rLenS : List V → Hp → VK → Prop := fun xs H Q => ∃ z, xs = [.str z] ∧ z.length ≤ sizeLine ∧ Q (.int z.length) H
def rAbs : List V → Hp → VK → Prop := fun xs H Q => ∃ i, xs = [.int i] ∧ Q (.int (if i < 0 then -i else i)) H
def rInt1 : List V → Hp → VK → Prop := fun xs H Q => (∃ i, xs = [.int i] ∧ Q (.int i) H) ∨ ∃ k, xs = [.bl k] ∧ Q (.int (if k then 1 else 0)) H
def rStrI : List V → Hp → VK → Prop := fun xs H Q => ∃ i, xs = [.int i] ∧ i.natAbs.log2 < 1920 ∧ Q (.str (toString i)) H
def rListOf (K : PySem.W.Frag) : List V → Hp → VK → Prop := fun xs H Q => ∃ p ys, xs = [.ref p] ∧ (SqL K H p ys ∨ SqT K H p ys) ∧ ∀ l, H l = none → Q (.ref l) (upd H l (.lst ys))
def rTupOf (K : PySem.W.Frag) : List V → Hp → VK → Prop := fun xs H Q => ∃ p ys, xs = [.ref p] ∧ ((SqL K H p ys ∧ ∀ l, H l = none → Q (.ref l) (upd H l (.tup ys))) ∨ (SqT K H p ys ∧ Q (.ref p) H))
def rAddS : R2 := fun x y H Q => ∃ i j, x = .str i ∧ y = .str j ∧ i.length + j.length ≤ sizeLine ∧ Q (.str (i ++ j)) H
def rMin2 : List V → Hp → VK → Prop := fun xs H Q => ∃ i j, xs = [.int i, .int j] ∧ Q (.int (if j < i then j else i)) H
def rMax2 : List V → Hp → VK → Prop := fun xs H Q => ∃ i j, xs = [.int i, .int j] ∧ Q (.int (if j > i then j else i)) H
def rInSign : R2 := fun x y H Q => ∃ (c : Nat) (z : Str), x = .str ⟨#[c]⟩ ∧ y = .str z ∧ Q (.bl (decide (c ∈ z.cps.toList))) H
def rLenD : List V → Hp → VK → Prop := fun xs H Q => ∃ a kvs, xs = [V.ref a] ∧ H a = some (.dK kvs) ∧ Q (.int kvs.length) H
def MkT (xs : List V) (H1 : Hp) (Q : VK) : Prop := xs.length ≤ sizeLine ∧ ∀ p, H1 p = none → Q (.ref p) (upd H1 p (.tup xs))
def MkL (xs : List V) (H1 : Hp) (Q : VK) : Prop := xs.length ≤ sizeLine ∧ ∀ p, H1 p = none → Q (.ref p) (upd H1 p (.lst xs))
section
variable {X : Cx}
theorem call_len : CallR X (.builtin "len") (rLen X.K) := call_len_seq
theorem call_lenS : CallR X (.builtin "len") rLenS := call_len_str
theorem call_lenDk : CallR X (.builtin "len") rLenD := call_lenD
theorem call_abs : CallR X (.builtin "abs") rAbs := L2.call_abs
theorem call_int1 : CallR X (.type "int") rInt1 := L2.call_int1
theorem call_strI : CallR X (.type "str") rStrI := L2.call_str_int
theorem call_list : CallR X (.type "list") (rListOf X.K) := call_list_of
theorem call_tuple : CallR X (.type "tuple") (rTupOf X.K) := call_tuple_of
theorem op_addS : OpR X (binaryOp .Add) rAddS := op_add_str
theorem op_inSign : OpR X (compareOp .In) rInSign := op_in_sign
theorem call_min (hc : X.calm = true) : CallR X (.builtin "min") rMin2 := call_min2 hc
theorem call_max (hc : X.calm = true) : CallR X (.builtin "max") rMax2 := call_max2 hc
end
section
variable {K : PySem.W.Frag} {σ : L2.St} {G H H' : Hp} {Q : VK} {D : Ends} {v x y : V} {d e' : PyData} {ds es : List PyData} {ta tb te tc : TE} {ts tu tw : TS} {tt uu : TT} {ar : TA} {QA : List V → Hp → Prop} {i j : Int} {n : Nat}
theorem g_lenT (e : Ex G H) (h : Dp K G x (.tuple ds)) (q : Q (.int (ds.length : Int)) H) : rLen K [x] H Q := by
  obtain ⟨a, vs, rfl, hs, hd⟩ := dp_tup h
  exact ⟨a, vs, rfl, .inr (e.seqT hs), by rw [dpAll_len hd]; exact q⟩
theorem g_lenL (e : Ex G H) (h : Dp K G x (.list ds)) (q : Q (.int (ds.length : Int)) H) : rLen K [x] H Q := by
  obtain ⟨a, vs, rfl, hs, hd⟩ := dp_lst h
  exact ⟨a, vs, rfl, .inl (e.seqL hs), by rw [dpAll_len hd]; exact q⟩
theorem g_lenM {p : Addr} {xs : List V} (h : H p = some (.lst xs)) (q : Q (.int (xs.length : Int)) H) : rLen K [.ref p] H Q := ⟨p, xs, rfl, .inl (.of h), q⟩
theorem g_lenS {s : Str} (h : s.length ≤ sizeLine) (q : Q (.int (s.length : Int)) H) : rLenS [.str s] H Q := ⟨s, rfl, h, q⟩
theorem g_abs (q : Q (.int (if i < 0 then -i else i)) H) : rAbs [.int i] H Q := ⟨i, rfl, q⟩
theorem g_int1 (q : Q (.int i) H) : rInt1 [.int i] H Q := .inl ⟨i, rfl, q⟩
theorem g_int1b {k : Bool} (q : Q (.int (if k then 1 else 0)) H) : rInt1 [.bl k] H Q := .inr ⟨k, rfl, q⟩
theorem g_addS {a b : Str} (h : a.length + b.length ≤ sizeLine) (q : Q (.str (a ++ b)) H) : rAddS (.str a) (.str b) H Q := ⟨a, b, rfl, rfl, h, q⟩
theorem g_inSign {c : Nat} {z : Str} (q : Q (.bl (decide (c ∈ z.cps.toList))) H) : rInSign (.str ⟨#[c]⟩) (.str z) H Q := ⟨c, z, rfl, rfl, q⟩
theorem g_isB {a b : Bool} (q : Q (.bl (decide (a = b))) H) : rIsB (.bl a) (.bl b) H Q := ⟨a, b, rfl, rfl, q⟩
theorem g_notB {a b : Bool} (q : Q (.bl (!decide (a = b))) H) : rNotB (.bl a) (.bl b) H Q := ⟨a, b, rfl, rfl, q⟩
theorem g_ixS {s : Str} {c k : Nat} (hs : s.length ≤ sizeLine) (hc : s.cps.toList[k]? = some c) (hj : i = (k : Int)) (q : Q (.str ⟨#[c]⟩) H) : rIxS (.str s) (.int i) H Q := by
  subst hj
  exact ⟨s, _, c, rfl, rfl, hs, atI_nat hc, q⟩
/-- a new tuple | a new list -/
theorem g_tup (q : ar σ H fun xs H1 => MkT xs H1 Q) : tTup ar σ H Q := q
theorem g_lst (q : ar σ H fun xs H1 => MkL xs H1 Q) : tLst ar σ H Q := q
theorem nx_tup {G H : Hp} {p : Addr} {xs : List V} (e : Ex G H) (h : DpAll K G xs ds) (hp : H p = none) : Nx [] G H (upd G p (.tup xs)) (upd H p (.tup xs)) ∧ Dp K (upd G p (.tup xs)) (.ref p) (.tuple ds) :=
  ⟨Nx.new e hp, .tup (.of upd_same) (dpAll_mono (Ex.new (e.free hp)) h)⟩
theorem nx_lst {G H : Hp} {p : Addr} {xs : List V} (e : Ex G H) (h : DpAll K G xs ds) (hp : H p = none) : Nx [] G H (upd G p (.lst xs)) (upd H p (.lst xs)) ∧ Dp K (upd G p (.lst xs)) (.ref p) (.list ds) :=
  ⟨Nx.new e hp, .lst (.of upd_same) (dpAll_mono (Ex.new (e.free hp)) h)⟩
/-- a tuple is made and known: what follows, by G' -/
theorem g_tupD {xs : List V} (e : Ex G H) (h : DpAll K G xs ds) (hl : ds.length ≤ sizeLine) (q : ∀ p G' H', Nx [] G H G' H' → Dp K G' (.ref p) (.tuple ds) → Q (.ref p) H') : MkT xs H Q :=
  ⟨by rw [dpAll_len h]; exact hl, fun p hp => let ⟨a, b⟩ := nx_tup e h hp; q p _ _ a b⟩
theorem g_lstD {xs : List V} (e : Ex G H) (h : DpAll K G xs ds) (hl : ds.length ≤ sizeLine) (q : ∀ p G' H', Nx [] G H G' H' → Dp K G' (.ref p) (.list ds) → Q (.ref p) H') : MkL xs H Q :=
  ⟨by rw [dpAll_len h]; exact hl, fun p hp => let ⟨a, b⟩ := nx_lst e h hp; q p _ _ a b⟩
/-- a list is made that may change -/
theorem g_lstM {xs : List V} (e : Ex G H) (hl : xs.length ≤ sizeLine) (q : ∀ p H', Nx [] G H G H' → H p = none → H' p = some (.lst xs) → G p = none → Q (.ref p) H') : MkL xs H Q :=
  ⟨hl, fun p hp => q p _ (Nx.own e hp) hp upd_same (e.free hp)⟩
/-- tuple(list that was just made) -/
theorem g_tupOfM {p : Addr} {ys : List V} (e : Ex G H) (hp : H p = some (.lst ys)) (h : DpAll K G ys ds) (q : ∀ p G' H', Nx [] G H G' H' → Dp K G' (.ref p) (.tuple ds) → Q (.ref p) H') : rTupOf K [.ref p] H Q :=
  ⟨p, ys, rfl, .inl ⟨.of hp, fun l hl => let ⟨a, b⟩ := nx_tup e h hl; q l _ _ a b⟩⟩
theorem g_tupOfL (e : Ex G H) (h : Dp K G x (.list ds)) (q : ∀ p G' H', Nx [] G H G' H' → Dp K G' (.ref p) (.tuple ds) → Q (.ref p) H') : rTupOf K [x] H Q := by
  obtain ⟨a, vs, rfl, hs, hd⟩ := dp_lst h
  exact ⟨a, vs, rfl, .inl ⟨e.seqL hs, fun l hl => let ⟨a, b⟩ := nx_tup e hd hl; q l _ _ a b⟩⟩
theorem g_tupOfT (e : Ex G H) (h : Dp K G x (.tuple ds)) (q : Q x H) : rTupOf K [x] H Q := by
  obtain ⟨a, vs, rfl, hs, hd⟩ := dp_tup h
  exact ⟨a, vs, rfl, .inr ⟨e.seqT hs, q⟩⟩
theorem g_listOf (e : Ex G H) (h : Dp K G x (.list ds) ∨ Dp K G x (.tuple ds)) (q : ∀ p G' H', Nx [] G H G' H' → Dp K G' (.ref p) (.list ds) → Q (.ref p) H') : rListOf K [x] H Q := by
  rcases h with h | h
  · obtain ⟨a, vs, rfl, hs, hd⟩ := dp_lst h
    exact ⟨a, vs, rfl, .inl (e.seqL hs), fun l hl => let ⟨a, b⟩ := nx_lst e hd hl; q l _ _ a b⟩
  · obtain ⟨a, vs, rfl, hs, hd⟩ := dp_tup h
    exact ⟨a, vs, rfl, .inr (e.seqT hs), fun l hl => let ⟨a, b⟩ := nx_lst e hd hl; q l _ _ a b⟩
theorem g_allM {p : Addr} {ys : List V} {bs : List Bool} (hp : H p = some (.lst ys)) (h : DpAll K G ys (bs.map .bool)) (q : Q (.bl (bs.all id)) H) : rAll K [.ref p] H Q :=
  ⟨p, bs, rfl, by rw [dpAll_bools_inv h] at hp; exact .of hp, q⟩
/-- xs.append(e) -/
theorem g_app {p : Addr} {xs : List V} (hp : H p = some (.lst xs)) (hl : xs.length < sizeLine) (q : Q .non (upd H p (.lst (xs ++ [y])))) : rAppend (.ref p) [y] H Q := ⟨p, xs, y, rfl, rfl, hp, hl, q⟩
theorem g_bm {T : String} {r : V → List V → Hp → VK → Prop} (q : ta σ H fun x H1 => tyV K T x H1 ∧ ar σ H1 fun xs H2 => r x xs H2 Q) : tBM K T r ta ar σ H Q := q
theorem g_bm0 {T : String} {r : V → List V → Hp → VK → Prop} (q : ta σ H fun x H1 => tyV K T x H1 ∧ r x [] H1 Q) : tBM0 K T r ta σ H Q := q
theorem g_tyL {p : Addr} {xs : List V} {P : Prop} (hp : H p = some (.lst xs)) (q : P) : tyV K "list" (.ref p) H ∧ P := ⟨.inl ⟨rfl, _, .of hp⟩, q⟩

/-! ### what is walked -/
structure Src (K : PySem.W.Frag) (M : List Addr) (J : It) (G H : Hp) (ds : List PyData) : Prop where
  go : ∀ i G' H', Nx M G H G' H' → i < ds.length → J.go i H'
  stop : ∀ i G' H', Nx M G H G' H' → ds.length ≤ i → J.stop i H'
  yld : ∀ i d G' H' x H'', Nx M G H G' H' → ds[i]? = some d → J.yld i H' x H'' → ∃ G'', Nx [] G' H' G'' H'' ∧ Dp K G'' x d
theorem src_tup {M : List Addr} {a : Addr} {xs : List V} (hs : SqT K G a xs) (hd : DpAll K G xs ds) : Src K M (Itt K a) G H ds where
  go := fun i G' H' n hi => ⟨xs, xs[i]'(by rw [dpAll_len hd]; exact hi), n.gh.seqT (n.gg.seqT hs), by simp [dpAll_len hd, hi]⟩
  stop := fun i G' H' n hi => ⟨xs, n.gh.seqT (n.gg.seqT hs), by rw [dpAll_len hd]; exact hi⟩
  yld := fun i d G' H' x H'' n hi y => by
    obtain ⟨rfl, f⟩ := y
    have hx := f xs (n.gh.seqT (n.gg.seqT hs))
    obtain ⟨v, hv, dv⟩ := dpAll_get hd hi
    rw [hx] at hv
    cases hv
    exact ⟨G', Nx.refl n.gh, dp_mono n.gg dv⟩
theorem src_lst {M : List Addr} {a : Addr} {xs : List V} (hs : SqL K G a xs) (hd : DpAll K G xs ds) : Src K M (Itl K a) G H ds where
  go := fun i G' H' n hi => ⟨xs, xs[i]'(by rw [dpAll_len hd]; exact hi), n.gh.seqL (n.gg.seqL hs), by simp [dpAll_len hd, hi]⟩
  stop := fun i G' H' n hi => ⟨xs, n.gh.seqL (n.gg.seqL hs), by rw [dpAll_len hd]; exact hi⟩
  yld := fun i d G' H' x H'' n hi y => by
    obtain ⟨rfl, f⟩ := y
    have hx := f xs (n.gh.seqL (n.gg.seqL hs))
    obtain ⟨v, hv, dv⟩ := dpAll_get hd hi
    rw [hx] at hv
    cases hv
    exact ⟨G', Nx.refl n.gh, dp_mono n.gg dv⟩
/-- a list that stands in H, not known (it stays while the walk lasts: not in M) -/
theorem src_own {M : List Addr} {a : Addr} {xs : List V} (hs : H a = some (.lst xs)) (ha : a ∉ M) (hd : DpAll K G xs ds) : Src K M (Itl K a) G H ds where
  go := fun i G' H' n hi => ⟨xs, xs[i]'(by rw [dpAll_len hd]; exact hi), .of (n.fr a _ ha hs), by simp [dpAll_len hd, hi]⟩
  stop := fun i G' H' n hi => ⟨xs, .of (n.fr a _ ha hs), by rw [dpAll_len hd]; exact hi⟩
  yld := fun i d G' H' x H'' n hi y => by
    obtain ⟨rfl, f⟩ := y
    have hx := f xs (.of (n.fr a _ ha hs))
    obtain ⟨v, hv, dv⟩ := dpAll_get hd hi
    rw [hx] at hv
    cases hv
    exact ⟨G', Nx.refl n.gh, dp_mono n.gg dv⟩
/-- a text, sign by sign -/
def sgn (s : Str) : List PyData := s.cps.toList.map fun c => .str ⟨#[c]⟩
theorem sgn_len (s : Str) : (sgn s).length = s.length := by unfold sgn; rw [List.length_map]; exact Array.length_toList
theorem sgn_get {s : Str} {i : Nat} {d : PyData} (h : (sgn s)[i]? = some d) : ∃ c, s.cps.toList[i]? = some c ∧ d = .str ⟨#[c]⟩ := by
  simp only [sgn, List.getElem?_map, Option.map_eq_some_iff] at h
  obtain ⟨x, h1, h2⟩ := h
  exact ⟨x, h1, h2.symm⟩
theorem src_str {M : List Addr} (s : Str) : Src K M (Its s) G H (sgn s) where
  go := fun i G' H' n hi => (by simpa [sgn] using hi : i < s.cps.size)
  stop := fun i G' H' n hi => (by simpa [sgn] using hi : s.cps.size ≤ i)
  yld := fun i d G' H' x H'' n hi y => by
    obtain ⟨rfl, c, hc, rfl⟩ := y
    have e1 : s.cps.toList[i]? = some c := by rw [← hc]; simp
    unfold sgn at hi
    rw [List.getElem?_map, e1] at hi
    cases hi
    exact ⟨G', Nx.refl n.gh, .str _⟩
def rng (lo : Int) (n : Nat) : List PyData := (List.range n).map fun (i : Nat) => .int (lo + (i : Int))
theorem src_rng {M : List Addr} (lo : Int) (n : Nat) : Src K M (Itr lo n) G H (rng lo n) where
  go := fun i G' H' _ hi => (by simpa [rng] using hi : i < n)
  stop := fun i G' H' _ hi => (by simpa [rng] using hi : n ≤ i)
  yld := fun i d G' H' x H'' m hi y => by
    obtain ⟨rfl, rfl⟩ := y
    have hl : i < n := by
      have := (List.getElem?_eq_some_iff.mp hi).1
      simpa [rng] using this
    unfold rng at hi
    rw [List.getElem?_map, List.getElem?_range hl] at hi
    cases hi
    exact ⟨G', Nx.refl m.gh, .int _⟩
def prs (k : Nat) : List PyData → List PyData
  | [] => []
  | d :: r => .tuple [.int (k : Int), d] :: prs (k + 1) r
theorem prs_len : ∀ (k : Nat) (ds : List PyData), (prs k ds).length = ds.length
  | _, [] => rfl
  | k, d :: r => congrArg (· + 1) (prs_len (k + 1) r)
theorem prs_get : ∀ (k : Nat) (ds : List PyData) (i : Nat), (prs k ds)[i]? = (ds[i]?).map fun d => .tuple [.int ((k + i : Nat) : Int), d]
  | _, [], i => by simp [prs]
  | k, d :: r, 0 => by simp [prs]
  | k, d :: r, i + 1 => by
    show (prs (k + 1) r)[i]? = _
    rw [prs_get (k + 1) r i]
    simp only [List.getElem?_cons_succ]
    congr 1
    funext d
    congr 4
    omega
theorem src_enumL {M : List Addr} {a : Addr} {xs : List V} (hs : SqL K G a xs) (hd : DpAll K G xs ds) : Src K M (Ite K a) G H (prs 0 ds) where
  go := fun i G' H' n hi => ⟨xs, xs[i]'(by rw [dpAll_len hd, ← prs_len 0 ds]; exact hi), n.gh.seqL (n.gg.seqL hs), by rw [prs_len] at hi; simp [dpAll_len hd, hi]⟩
  stop := fun i G' H' n hi => ⟨xs, n.gh.seqL (n.gg.seqL hs), by rw [dpAll_len hd, ← prs_len 0 ds]; exact hi⟩
  yld := fun i d G' H' x H'' n hi y => by
    obtain ⟨T, u, rfl, hT, rfl, f⟩ := y
    have hx := f xs (n.gh.seqL (n.gg.seqL hs))
    rw [prs_get] at hi
    cases q : ds[i]? with
    | none => rw [q] at hi; cases hi
    | some d0 =>
      rw [q] at hi
      cases hi
      obtain ⟨v, hv, dv⟩ := dpAll_get hd q
      rw [hx] at hv
      cases hv
      have h2 := nx_tup (K := K) n.gh (xs := [.int ((i : Nat) : Int), u]) (ds := [.int ((0 + i : Nat) : Int), d0]) (by rw [Nat.zero_add]; exact .cons (.int _) (.cons (dp_mono n.gg dv) .nil)) hT
      exact ⟨_, h2.1, h2.2⟩
end
end Y

namespace Y
open PySem PySem.Spec PyProof.Rows L2
/-! ### loops -/
/-- what tFor asks behind its walk -/
def ForW (J : It) (g : TG) (tb : TS) (D : Ends) (σ : L2.St) (H1 : Hp) : Prop := ∃ W : Nat → Nat → L2.St → Hp → Prop, (∃ m, W 0 m σ H1) ∧ ∀ i m σ H, W i m σ H →
  (J.stop i H ∧ D.nx σ H) ∨ (J.go i H ∧ ∃ N : L2.St → Hp → Prop, (∀ σ' H', N σ' H' → ∃ m', m' < m ∧ W (i + 1) m' σ' H') ∧ ∀ x H', J.yld i H x H' → g x σ H' fun σ2 H2 => tb { D with nx := N, ct := N, bk := D.nx } σ2 H2)
def LcW (J : It) (g : TG) (tt : TT) (te : TE) (vs : List Nat) (σ : L2.St) (D : Addr) (Q : VK) (H1 : Hp) : Prop := ∃ W : Nat → Nat → Hp → Prop, (∃ m, W 0 m (upd H1 D (.lst []))) ∧ ∀ i m H, W i m H →
  (J.stop i H ∧ Q (.ref D) H) ∨ (J.go i H ∧ ∃ Nx : Hp → Prop, (∀ H', Nx H' → ∃ m', m' < m ∧ W (i + 1) m' H') ∧ ∀ x H', J.yld i H x H' → g x (wipe σ vs) H' fun σ2 H2 => wipe σ2 vs = wipe σ vs ∧ tt σ2 H2 fun b H3 =>
    if b = true then te σ2 H3 fun y H4 => ∃ acc, H4 D = some (.lst acc) ∧ acc.length < sizeLine ∧ Nx (upd H4 D (.lst (acc ++ [y]))) else Nx H3)
section
variable {K : PySem.W.Frag} {σ : L2.St} {G H : Hp} {Q : VK} {D : Ends} {x : V} {ds : List PyData} {tl te : TE} {tb : TS} {tt : TT} {ta : TA} {wi : TI} {g : TG} {J : It} {M : List Addr} {vs : List Nat} {R : It → Hp → Prop}
theorem g_yes {QT : Bool → Hp → Prop} (q : QT true H) : tYes σ H QT := q
theorem g_for (q : wi σ H fun J H1 => ForW J g tb D σ H1) : tFor wi g tb D σ H := q
theorem g_lc (q : wi σ H fun J H1 => ∀ A, H1 A = none → LcW J g tt te vs σ A Q H1) : tLc wi g tt te vs σ H Q := q
theorem g_iTup (q : tl σ H fun x H1 => ∃ a, x = .ref a ∧ (∃ xs, SqT K H1 a xs) ∧ R (Itt K a) H1) : iTup K tl σ H R := q
theorem g_iList (q : tl σ H fun x H1 => ∃ a, x = .ref a ∧ (∃ xs, SqL K H1 a xs) ∧ R (Itl K a) H1) : iList K tl σ H R := q
theorem g_iStr (q : tl σ H fun v H1 => ∃ x, v = .str x ∧ R (Its x) H1) : iStr tl σ H R := q
theorem g_iRng1 (q : ta σ H fun vs H1 => ∃ j : Int, vs = [.int j] ∧ -(2 ^ 62) ≤ j ∧ j < 2 ^ 62 ∧ R (Itr 0 j.toNat) H1) : iRng1 ta σ H R := q
theorem g_iRng2 (q : ta σ H fun vs H1 => ∃ i j : Int, vs = [.int i, .int j] ∧ (-(2 ^ 62) ≤ i ∧ i < 2 ^ 62 ∧ -(2 ^ 62) ≤ j ∧ j < 2 ^ 62) ∧ R (Itr i (j - i).toNat) H1) : iRng2 ta σ H R := q
theorem g_iEnum (q : ta σ H fun vs H1 => ∃ a xs, vs = [.ref a] ∧ SqL K H1 a xs ∧ R (Ite K a) H1) : iEnum K ta σ H R := q
/-- the thing walked is known data -/
theorem g_walkT {P : Addr → Prop} (e : Ex G H) (h : Dp K G x (.tuple ds)) (q : ∀ a, x = .ref a → (∀ M, Src K M (Itt K a) G H ds) → P a) : ∃ a, x = .ref a ∧ (∃ xs, SqT K H a xs) ∧ P a := by
  obtain ⟨a, xs, rfl, hs, hd⟩ := dp_tup h
  exact ⟨a, rfl, ⟨xs, e.seqT hs⟩, q a rfl fun M => src_tup hs hd⟩
theorem g_walkL {P : Addr → Prop} (e : Ex G H) (h : Dp K G x (.list ds)) (q : ∀ a, x = .ref a → (∀ M, Src K M (Itl K a) G H ds) → P a) : ∃ a, x = .ref a ∧ (∃ xs, SqL K H a xs) ∧ P a := by
  obtain ⟨a, xs, rfl, hs, hd⟩ := dp_lst h
  exact ⟨a, rfl, ⟨xs, e.seqL hs⟩, q a rfl fun M => src_lst hs hd⟩
theorem g_walkM {P : Addr → Prop} {a : Addr} {xs : List V} (h : H a = some (.lst xs)) (hd : DpAll K G xs ds) (q : (∀ M, a ∉ M → Src K M (Itl K a) G H ds) → P a) : ∃ b, V.ref a = .ref b ∧ (∃ xs, SqL K H b xs) ∧ P b :=
  ⟨a, rfl, ⟨xs, .of h⟩, q fun M ha => src_own h ha hd⟩
theorem g_walkS {P : Str → Prop} {s : Str} (q : P s) : ∃ x, V.str s = .str x ∧ P x := ⟨s, rfl, q⟩
theorem g_walkR {P : Int → Prop} {j : Int} (h : j < 2 ^ 62) (h0 : -(2 ^ 62) ≤ j) (q : P j) : ∃ i : Int, [V.int j] = [.int i] ∧ -(2 ^ 62) ≤ i ∧ i < 2 ^ 62 ∧ P i := ⟨j, rfl, h0, h, q⟩
theorem g_walkR2 {P : Int → Int → Prop} {i j : Int} (h : -(2 ^ 62) ≤ i ∧ i < 2 ^ 62 ∧ -(2 ^ 62) ≤ j ∧ j < 2 ^ 62) (q : P i j) :
    ∃ k l : Int, [V.int i, V.int j] = [.int k, .int l] ∧ (-(2 ^ 62) ≤ k ∧ k < 2 ^ 62 ∧ -(2 ^ 62) ≤ l ∧ l < 2 ^ 62) ∧ P k l := ⟨i, j, rfl, h, q⟩
theorem g_walkE {P : Addr → Prop} (e : Ex G H) (h : Dp K G x (.list ds)) (q : ∀ a, x = .ref a → (∀ M, Src K M (Ite K a) G H (prs 0 ds)) → P a) : ∃ a xs, [x] = [.ref a] ∧ SqL K H a xs ∧ P a := by
  obtain ⟨a, xs, rfl, hs, hd⟩ := dp_lst h
  exact ⟨a, xs, rfl, e.seqL hs, q a rfl fun M => src_enumL hs hd⟩

/-- THE LOOP: Pv by the turn, the slots, what is known, the heap; M: the cells that it changes -/
theorem g_forS (S : Src K M J G H ds) (e : Ex G H) (Pv : Nat → L2.St → Hp → Hp → Prop) (h0 : Pv 0 σ G H)
    (hs : ∀ i d v σ' G' H' G1 H1, ds[i]? = some d → Nx M G H G' H' → Pv i σ' G' H' → Nx [] G' H' G1 H1 → Dp K G1 v d →
      g v σ' H1 fun σ2 H2 => tb { D with nx := fun σ3 H3 => ∃ G3, Nx M G H G3 H3 ∧ Pv (i + 1) σ3 G3 H3, ct := fun σ3 H3 => ∃ G3, Nx M G H G3 H3 ∧ Pv (i + 1) σ3 G3 H3, bk := D.nx } σ2 H2)
    (hd : ∀ σ' G' H', Nx M G H G' H' → Pv ds.length σ' G' H' → D.nx σ' H') : ForW J g tb D σ H := by
  refine ⟨fun i m σ' H' => m = ds.length - i ∧ i ≤ ds.length ∧ ∃ G', Nx M G H G' H' ∧ Pv i σ' G' H', ⟨ds.length, by simp, Nat.zero_le _, G, Nx.refl e, h0⟩, ?_⟩
  rintro i m σ' H' ⟨rfl, hi, G', n, p⟩
  by_cases hlt : i < ds.length
  · refine .inr ⟨S.go i G' H' n hlt, fun σ3 H3 => ∃ G3, Nx M G H G3 H3 ∧ Pv (i + 1) σ3 G3 H3, fun σ3 H3 ⟨G3, n3, p3⟩ => ⟨ds.length - (i + 1), by omega, rfl, hlt, G3, n3, p3⟩, fun v H1 y => ?_⟩
    have hg : ds[i]? = some ds[i] := by simp [hlt]
    obtain ⟨G1, n1, d1⟩ := S.yld i _ G' H' v H1 n hg y
    exact hs i _ v σ' G' H' G1 H1 hg n p n1 d1
  · have e' : i = ds.length := by omega
    subst e'
    exact .inl ⟨S.stop _ G' H' n (Nat.le_refl _), hd σ' G' H' n p⟩
theorem wipe1 {σ : L2.St} {j : Nat} {v : V} : wipe ((wipe σ [j]).set j (some v)) [j] = wipe σ [j] := by
  show ((σ.set j none).set j (some v)).set j none = σ.set j none
  rw [List.set_set, List.set_set]
/-- THE COMPREHENSION over one name, with tests: Jv tells the items so far and what else holds of the heap -/
theorem g_lcH {A : Addr} {j : Nat} (S : Src K M J G H ds) (e : Ex G H) (hA : H A = none) (hM : ∀ b ∈ M, H b ≠ none) (hz : ds.length < sizeLine) (Jv : Nat → List PyData → Hp → Hp → Prop)
    (jA : ∀ i acc G' H' o, Jv i acc G' H' → Jv i acc G' (upd H' A o)) (jN : ∀ i acc G' H' G1 H1, Nx [] G' H' G1 H1 → Jv i acc G' H' → Jv i acc G1 H1) (j0 : Jv 0 [] G H)
    (hs : ∀ i d v acc G' H', ds[i]? = some d → Dp K G' v d → Nx M G H G' H' → acc.length ≤ i → Jv i acc G' H' → ∀ (QE : VK) (QN : Hp → Prop),
      (∀ y G4 H4 d', Nx M G' H' G4 H4 → Dp K G4 y d' → Jv (i + 1) (acc ++ [d']) G4 H4 → QE y H4) → (∀ G3 H3, Nx M G' H' G3 H3 → Jv (i + 1) acc G3 H3 → QN H3) →
      tt ((wipe σ [j]).set j (some v)) H' fun b H3 => if b = true then te ((wipe σ [j]).set j (some v)) H3 QE else QN H3)
    (hd : ∀ G' H' ys acc, Jv ds.length acc G' H' → Nx M G H G' H' → G' A = none → H' A = some (.lst ys) → DpAll K G' ys acc → Q (.ref A) H') : LcW J (gName j) tt te [j] σ A Q H := by
  have st0 : Nx [] G H G (upd H A (.lst [])) := Nx.own e hA
  refine ⟨fun i m H' => m = ds.length - i ∧ i ≤ ds.length ∧ ∃ G' ys acc, Nx M G H G' H' ∧ G' A = none ∧ H' A = some (.lst ys) ∧ DpAll K G' ys acc ∧ acc.length ≤ i ∧ Jv i acc G' H',
    ⟨ds.length, by simp, Nat.zero_le _, G, [], [], st0.pure, e.free hA, upd_same, .nil, Nat.le_refl _, jA _ _ _ _ _ j0⟩, ?_⟩
  rintro i m H' ⟨rfl, hi, G', ys, acc, n, gA, hys, da, hl, jv⟩
  have hAM : A ∉ M := fun z => hM A z hA
  by_cases hlt : i < ds.length
  · refine .inr ⟨S.go i G' H' n hlt, fun H'' => ∃ G'' ys acc, Nx M G H G'' H'' ∧ G'' A = none ∧ H'' A = some (.lst ys) ∧ DpAll K G'' ys acc ∧ acc.length ≤ i + 1 ∧ Jv (i + 1) acc G'' H'',
      fun H'' ⟨G'', ys', acc', r⟩ => ⟨ds.length - (i + 1), by omega, rfl, hlt, G'', ys', acc', r⟩, fun v H1 y => ?_⟩
    have hg : ds[i]? = some ds[i] := by simp [hlt]
    obtain ⟨G1, n1, d1⟩ := S.yld i _ G' H' v H1 n hg y
    have n2 : Nx M G H G1 H1 := n.trans n1.pure
    have gA1 : G1 A = none := n1.old A gA (by rw [hys]; exact fun z => nomatch z)
    have hys1 : H1 A = some (.lst ys) := n1.fr A _ (by simp) hys
    refine ⟨wipe1, hs i _ v acc G1 H1 hg d1 n2 hl (jN _ _ _ _ _ _ n1 jv) _ _ (fun y G4 H4 d' n4 dy jv' => ?_) (fun G3 H3 n3 jv' => ?_)⟩
    · have gA4 : G4 A = none := n4.old A gA1 (by rw [hys1]; exact fun z => nomatch z)
      have hys4 : H4 A = some (.lst ys) := n4.fr A _ hAM hys1
      have n5 : Nx M G H G4 H4 := n2.trans n4
      have n6 : Nx [A] G4 H4 G4 (upd H4 A (.lst (ys ++ [y]))) := Nx.set n4.gh gA4 (by simp)
      have n7 : Nx (A :: M) G H G4 (upd H4 A (.lst (ys ++ [y]))) := (n5.mono fun _ z => List.mem_cons_of_mem _ z).trans (n6.mono fun b z => by simp at z; simp [z])
      refine ⟨ys, hys4, ?_, G4, ys ++ [y], acc ++ [d'], n7.drop hA, gA4, upd_same, dpAll_snoc (dpAll_mono (n1.gg.trans n4.gg) da) dy, by simp; omega, jA _ _ _ _ _ jv'⟩
      have := dpAll_len da
      omega
    · exact ⟨G3, ys, acc, n2.trans n3, n3.old A gA1 (by rw [hys1]; exact fun z => nomatch z), n3.fr A _ hAM hys1, dpAll_mono (n1.gg.trans n3.gg) da, by omega, jv'⟩
  · have e' : i = ds.length := by omega
    subst e'
    exact .inl ⟨S.stop _ G' H' n (Nat.le_refl _), hd G' H' ys acc jv n gA hys da⟩
theorem g_lcG {A : Addr} {j : Nat} (S : Src K M J G H ds) (e : Ex G H) (hA : H A = none) (hM : ∀ b ∈ M, H b ≠ none) (hz : ds.length < sizeLine) (P : Hp → Hp → Prop) (p0 : P G H) (pA : ∀ G' H' o, P G' H' → P G' (upd H' A o)) (pN : ∀ G' H' G1 H1, Nx [] G' H' G1 H1 → P G' H' → P G1 H1)
    (Jv : Nat → List PyData → Prop) (j0 : Jv 0 [])
    (hs : ∀ i d v acc G' H', ds[i]? = some d → Dp K G' v d → Nx M G H G' H' → P G' H' → acc.length ≤ i → Jv i acc → ∀ (QE : VK) (QN : Hp → Prop),
      (∀ y G4 H4 d', Nx M G' H' G4 H4 → P G4 H4 → Dp K G4 y d' → Jv (i + 1) (acc ++ [d']) → QE y H4) → (∀ G3 H3, Nx M G' H' G3 H3 → P G3 H3 → Jv (i + 1) acc → QN H3) →
      tt ((wipe σ [j]).set j (some v)) H' fun b H3 => if b = true then te ((wipe σ [j]).set j (some v)) H3 QE else QN H3)
    (hd : ∀ G' H' ys acc, Jv ds.length acc → Nx M G H G' H' → P G' H' → G' A = none → H' A = some (.lst ys) → DpAll K G' ys acc → Q (.ref A) H') : LcW J (gName j) tt te [j] σ A Q H :=
  g_lcH S e hA hM hz (fun i acc G' H' => P G' H' ∧ Jv i acc) (fun _ _ G' H' o h => ⟨pA G' H' o h.1, h.2⟩) (fun _ _ _ _ _ _ n h => ⟨pN _ _ _ _ n h.1, h.2⟩) ⟨p0, j0⟩
    (fun i d v acc G' H' a1 a2 a3 a4 a5 QE QN k1 k2 => hs i d v acc G' H' a1 a2 a3 a5.1 a4 a5.2 QE QN (fun y G4 H4 d' b1 b2 b3 b4 => k1 y G4 H4 d' b1 b3 ⟨b2, b4⟩) fun G3 H3 b1 b2 b3 => k2 G3 H3 b1 ⟨b2, b3⟩) fun G' H' ys acc a1 a2 a3 a4 a5 => hd G' H' ys acc a1.2 a2 a1.1 a3 a4 a5
theorem g_lcS {A : Addr} {j : Nat} (S : Src K M J G H ds) (e : Ex G H) (hA : H A = none) (hM : ∀ b ∈ M, H b ≠ none) (hz : ds.length < sizeLine) (Jv : Nat → List PyData → Prop) (j0 : Jv 0 [])
    (hs : ∀ i d v acc G' H', ds[i]? = some d → Dp K G' v d → Nx M G H G' H' → acc.length ≤ i → Jv i acc → ∀ (QE : VK) (QN : Hp → Prop),
      (∀ y G4 H4 d', Nx M G' H' G4 H4 → Dp K G4 y d' → Jv (i + 1) (acc ++ [d']) → QE y H4) → (∀ G3 H3, Nx M G' H' G3 H3 → Jv (i + 1) acc → QN H3) →
      tt ((wipe σ [j]).set j (some v)) H' fun b H3 => if b = true then te ((wipe σ [j]).set j (some v)) H3 QE else QN H3)
    (hd : ∀ G' H' ys acc, Jv ds.length acc → Nx M G H G' H' → G' A = none → H' A = some (.lst ys) → DpAll K G' ys acc → Q (.ref A) H') : LcW J (gName j) tt te [j] σ A Q H :=
  g_lcG S e hA hM hz (fun _ _ => True) trivial (fun _ _ _ _ => trivial) (fun _ _ _ _ _ _ => trivial) Jv j0 (fun i d v acc G' H' a1 a2 a3 _ a4 a5 QE QN k1 k2 => hs i d v acc G' H' a1 a2 a3 a4 a5 QE QN (fun y G4 H4 d' b1 b2 b3 => k1 y G4 H4 d' b1 trivial b2 b3) fun G3 H3 b1 b2 => k2 G3 H3 b1 trivial b2) fun G' H' ys acc a1 a2 _ a3 a4 a5 => hd G' H' ys acc a1 a2 a3 a4 a5
/-- .. that maps: es by place -/
theorem g_lcMap {A : Addr} {j : Nat} {es : List PyData} (S : Src K M J G H ds) (e : Ex G H) (hA : H A = none) (hM : ∀ b ∈ M, H b ≠ none) (hz : ds.length < sizeLine) (hl : es.length = ds.length)
    (hs : ∀ (i : Nat) d d' v G' H', ds[i]? = some d → es[i]? = some d' → Dp K G' v d → Nx M G H G' H' → ∀ (QE : VK), (∀ y G4 H4, Nx M G' H' G4 H4 → Dp K G4 y d' → QE y H4) → te ((wipe σ [j]).set j (some v)) H' QE)
    (hd : ∀ G' H' ys, Nx M G H G' H' → G' A = none → H' A = some (.lst ys) → DpAll K G' ys es → Q (.ref A) H') : LcW J (gName j) tYes te [j] σ A Q H := by
  refine g_lcS S e hA hM hz (fun i acc => acc = es.take i) (by simp) (fun i d v acc G' H' hi dv n _ hj QE QN k1 k2 => ?_) (fun G' H' ys acc hj n g h da => ?_)
  · show (if true = true then te ((wipe σ [j]).set j (some v)) H' QE else QN H')
    rw [if_pos rfl]
    have hlt : i < es.length := by rw [hl]; exact (List.getElem?_eq_some_iff.mp hi).1
    refine hs i d es[i] v G' H' hi (by simp [hlt]) dv n QE fun y G4 H4 n4 dy => k1 y G4 H4 es[i] n4 dy ?_
    rw [hj, List.take_add_one]
    simp [hlt]
  · refine hd G' H' ys n g h ?_
    rw [hj, ← hl, List.take_length] at da
    exact da
end
end Y

namespace Y
open PySem PySem.Spec PyProof.Rows L2
/-! ### data of a size that the machine takes -/
mutual
def fit : PyData → Bool
  | .none => true
  | .bool _ => true
  | .int _ => true
  | .str s => decide (s.length ≤ 100000) && PyData.strOk s
  | .list xs => decide (xs.length ≤ 100000) && fitAll xs
  | .tuple xs => decide (xs.length ≤ 100000) && fitAll xs
  | .dict _ => false
def fitAll : List PyData → Bool
  | [] => true
  | x :: xs => fit x && fitAll xs
end
theorem fit_get : ∀ {xs : List PyData} {i : Nat} {d : PyData}, fitAll xs = true → xs[i]? = some d → fit d = true
  | [], i, d, _, h => by simp at h
  | x :: xs, 0, d, f, h => by
    rw [fitAll, Bool.and_eq_true] at f
    cases h
    exact f.1
  | x :: xs, i + 1, d, f, h => by
    rw [fitAll, Bool.and_eq_true] at f
    exact fit_get (i := i) f.2 h
theorem fit_str {s : Str} (h : fit (.str s) = true) : s.length ≤ sizeLine := by
  rw [fit, Bool.and_eq_true] at h
  exact Nat.le_trans (of_decide_eq_true h.1) (by decide)
theorem fit_tup {xs : List PyData} (h : fit (.tuple xs) = true) : xs.length ≤ 100000 ∧ fitAll xs = true := by
  rw [fit, Bool.and_eq_true] at h
  exact ⟨of_decide_eq_true h.1, h.2⟩
theorem fit_lst {xs : List PyData} (h : fit (.list xs) = true) : xs.length ≤ 100000 ∧ fitAll xs = true := by
  rw [fit, Bool.and_eq_true] at h
  exact ⟨of_decide_eq_true h.1, h.2⟩
theorem fitAll_iff : ∀ {xs : List PyData}, fitAll xs = true ↔ ∀ d ∈ xs, fit d = true
  | [] => by simp [fitAll]
  | x :: xs => by
    rw [fitAll, Bool.and_eq_true, fitAll_iff (xs := xs)]
    simp
theorem szl {n : Nat} (h : n ≤ 100000) : n < sizeLine := Nat.lt_of_le_of_lt h (by decide)
theorem szle {n : Nat} (h : n ≤ 100000) : n ≤ sizeLine := Nat.le_of_lt (szl h)
theorem canLay_fit : ∀ d : PyData, fit d = true → d.canLay0 = true
  | .none, _ => rfl
  | .bool _, _ => rfl
  | .int _, _ => rfl
  | .str s, h => by
    rw [PyData.canLay0]
    rw [fit, Bool.and_eq_true] at h
    exact h.2
  | .list xs, h => by
    rw [PyData.canLay0]
    exact canLayAll_fit xs (fit_lst h).2
  | .tuple xs, h => by
    rw [PyData.canLay0]
    exact canLayAll_fit xs (fit_tup h).2
  | .dict _, h => by rw [fit] at h; cases h
where canLayAll_fit : ∀ xs : List PyData, fitAll xs = true → PyData.canLayAll0 xs = true
  | [], _ => rfl
  | x :: xs, h => by
    rw [fitAll, Bool.and_eq_true] at h
    rw [PyData.canLayAll0, canLay_fit x h.1, canLayAll_fit xs h.2]
    rfl
/-- shaped: data of a depth that is written -/
theorem shaped_fit {d : PyData} (h : fit d = true) (hd : d.depth ≤ 64) : SeqAt.shaped d = true := by
  unfold SeqAt.shaped
  rw [canLay_fit d h, decide_eq_true hd]
  rfl
end Y

namespace PySem
namespace YEn
open PySem PyProof.Rows
theorem new1 {v : Value} {o : Obj} {H : Heap → Prop} (B : Begins v o H) :
    Meets (Builtin.«enumerate.__new__» ⟨[.type "enumerate", v], []⟩) (fun _ R s => H s.heap ∧
      R (.ok (.ret (.ref (s.heap.push o).objs.size))) { s with heap := (s.heap.push o).push { cls := .type "enumerate", data := .fields #[.none, .bool false, .ref s.heap.objs.size, rawInt 0, .none, .none] } }) :=
  .of_wp fun prog w A R s h => by
    obtain ⟨hp, g, d, tk, os⟩ := s; obtain ⟨h1, h⟩ := h
    have hsub := sub_enumerate
    have q1 : ∀ {A' : Around} {E : Value → Shared → Prop} {Q : Value → Shared → Prop}, Q (.ref hp.objs.size) ⟨hp.push o, g, d, tk, os⟩ → wpAny (model prog w) A' (pyIter v) Q E ⟨hp, g, d, tk, os⟩ :=
      fun q => B.iter prog w _ _ ⟨hp, g, d, tk, os⟩ _ h1 q
    wp_walk using q1
    refine wpAny_stack_any fun st => wpAny_pure ?_
    split
    · rename_i c _ _ _ _ _
      cases (c == Value.type "enumerate")
      · wp_walk using q1
        exact ⟨_, rfl, h⟩
      · wp_walk using q1
        exact ⟨_, rfl, h⟩
    · wp_walk using q1
      exact ⟨_, rfl, h⟩
section
variable {prog : Program} {w : World} {A : Around} {E : Value → Shared → Prop} {s : Shared}
theorem begins1 {v : Value} {o : Obj} {H : Heap → Prop} {Q : Value → Shared → Prop} (B : Begins v o H) (h1 : H s.heap)
    (h : ∀ h', IsEnum h' (s.heap.objs.size + 1) s.heap.objs.size 0 .none → h'.get? s.heap.objs.size = some o → h'.objs.size = s.heap.objs.size + 2 →
      (∀ b o, s.heap.get? b = some o → h'.get? b = some o) → Q (.ref (s.heap.objs.size + 1)) { s with heap := h' }) :
    wpAny (model prog w) A (call (.type "enumerate") [v]) Q E s := by
  refine callType_new F.called_enumerate (by decide) (F.typeCall_enumerate_1 _) (F.newCall_enumerate_1 _) (fun obj => F.args_object_init_2 obj _) F.entry_enumerate_new
    (new1 B) ⟨h1, ?_⟩
  have hz : (s.heap.push o).objs.size = s.heap.objs.size + 1 := Heap.size_push ..
  show _ ∧ _
  rw [hz]
  have he : IsEnum ((s.heap.push o).push { cls := .type "enumerate", data := .fields #[.none, .bool false, .ref s.heap.objs.size, rawInt 0, .none, .none] }) (s.heap.objs.size + 1) s.heap.objs.size 0 .none := by
    have := Heap.get?_push_size (s.heap.push o) (o := { cls := .type "enumerate", data := .fields #[.none, .bool false, .ref s.heap.objs.size, rawInt 0, .none, .none] }) rfl
    rw [hz] at this; exact this
  refine ⟨⟨_, he, rfl⟩, h _ he (Heap.get?_push_of_some _ (Heap.get?_push_size _ B.free)) (by rw [Heap.size_push, hz]) fun b o x => Heap.get?_push_of_some _ (Heap.get?_push_of_some _ x)⟩
end
end YEn
end PySem
namespace Y
open PySem PySem.Spec PyProof.Rows L2
/-- the tuple at a, each item in a new pair -/
def Itu (K : PySem.W.Frag) (a : Addr) : It :=
  ⟨fun i H => ∃ (xs : List V) (x : V), SqT K H a xs ∧ xs[i]? = some x, fun i H v H' => ∃ T x, v = .ref T ∧ H T = none ∧ H' = upd H T (.tup [.int (i : Nat), x]) ∧ ∀ xs, SqT K H a xs → xs[i]? = some x, fun i H => ∃ xs : List V, SqT K H a xs ∧ xs.length ≤ i⟩
theorem turn_enumT {P : Program} {w : World} {K : PySem.W.Frag} {elts : List Expr} {kk : Nat} {tpos : Pos} (a e it : Addr) (items : Array Value) (hae : a ≠ it) :
    Turn P w K (.Tuple elts kk tpos) (Itu K a) [e, it] e (fun i h => (∃ old, IsEnum h e it ((i : Nat) : Int) old) ∧ h.IsTupleIter it a i ∧ e ≠ it) where
  mem := by simp
  obj := fun i h st b hb => by
    obtain ⟨⟨old, he⟩, ⟨o, ho, hc, hd⟩, _⟩ := st
    have e' : b = e ∨ b = it := by simpa using hb
    rcases e' with z | z
    · rw [z]; exact ⟨_, he, fun v q => nomatch q⟩
    · rw [z]; exact ⟨o, ho, fun v q => by rw [hd] at q; cases q⟩
  keep := fun i h h' st k => let ⟨⟨old, he⟩, hi, hne⟩ := st; ⟨⟨old, k e (by simp) _ he⟩, hi.at fun o q => k it (by simp) o q, hne⟩
  item := by
    intro X hP hw hK hc i pins s σ H E I hf st hg
    subst hP hw hK
    obtain ⟨⟨old, he⟩, hit, hne⟩ := st
    obtain ⟨xs, x, hq, hx⟩ := hg
    obtain ⟨its, rv, p, hz⟩ := I.tuple hq
    obtain ⟨u, hu, ru⟩ := rv.get hx
    have hel : e < s.heap.objs.size := Heap.lt_size he
    have D := Draws.tuple (prog := X.prog) (w := X.w) (A := X.A.in1) (I.ok.hd hc) it a hae its.toArray
    have hea : e ≠ a := fun z => by
      obtain ⟨o, ho, ho2, _⟩ := p
      rw [← z, he] at ho; cases ho; injection ho2 with h3; exact absurd h3 (by decide)
    have hlt : i < its.toArray.size := by
      have := (List.getElem?_eq_some_iff.mp hu).1
      simpa using this
    refine wpAny_pyNext_enum_itemD D he ⟨hit, p⟩ hlt hne (by simp [hne, hea]) fun y h' tk hy ho hst' hT hsz hk => ?_
    have ey : y = u := by
      have : its.toArray[i]? = some u := by simpa using hu
      rw [this] at hy
      exact (Option.some.inj hy).symm
    subst ey
    refine ⟨_, rfl, wpAny_letOwnedTupleGo_enum (s := { s with heap := h', toks := tk + 1 }) ho fun h'' he' sb => ?_⟩
    have hT2 : h''.get? s.heap.objs.size = some { cls := .type "tuple", data := .seq #[.int i tk, y] } := (sb.2 _ (Nat.ne_of_gt hel)).trans hT
    have new : ObjOk X.prog X.w (upd H s.heap.objs.size (.tup [.int (i : Nat), x])) h'' s.heap.objs.size (.tup [.int (i : Nat), x]) :=
      ⟨by show 2 ≤ sizeLine; decide, [.int i tk, y], .cons ⟨_, rfl⟩ (.cons ru .nil), ⟨_, hT2, rfl, _, rfl⟩⟩
    have I1 : Inv X pins σ (upd H s.heap.objs.size (.tup [.int (i : Nat), x])) { s with heap := h'', toks := tk + 1 } :=
      I.turnedNew (ch := [e, it]) (fun b ob hb q => (sb.2 b (fun z => hb (by simp [z]))).trans (hk b ob (fun z => hb (by simp [z])) (fun z => hb (by simp [z])) q)) hf (Nat.le_refl _) new
    refine ⟨.ref s.heap.objs.size, _, I1, rfl, ⟨_, x, rfl, I.hok.fresh (Nat.le_refl _), rfl, fun ys hy => by rw [I.tuple_inj hy hq]; exact hx⟩, ⟨⟨y, ?_⟩, hst'.1.at fun o q => (sb.2 it (Ne.symm hne)).trans q, hne⟩, fun b hb => ?_⟩
    · have e1 : ((i + 1 : Nat) : Int) = (i : Int) + 1 := by omega
      rw [e1]; exact he'
    · have hil : it < s.heap.objs.size := by obtain ⟨_, q, _⟩ := hit; exact Heap.lt_size q
      have e' : b = e ∨ b = it := by simpa using hb
      have hb' : b < s.heap.objs.size := by
        rcases e' with z | z
        · rw [z]; exact hel
        · rw [z]; exact hil
      rw [upd_ne (Nat.ne_of_lt hb')]
      exact (hf b hb).1
  done := by
    intro X hP hw hK hc i pins s σ H E I hf st hg
    subst hP hw hK
    obtain ⟨⟨old, he⟩, hit, hne⟩ := st
    obtain ⟨xs, hq, hx⟩ := hg
    obtain ⟨its, rv, p, hz⟩ := I.tuple hq
    obtain ⟨f0, f1, f2, f3, f4, f5⟩ := hf it (by simp)
    have hl := rv.length
    have hT : s.TypeIs (.ref e) "enumerate" := ⟨_, he, rfl⟩
    unfold pyNext
    refine wpAny_bind (wpAny_attempt (wpAny_callSpecial?_slot (name := Str.ofString "__next__") hT F.slot_enumerate_next
      (wpAny_call_entry F.slot_enumerate_next hT F.entry_enumerate_next ?_ (F.args_enumerate_next_1 _))))
    show wpAny _ _ (field (.ref e) 2 >>= _) _ _ _
    refine wpAny_bind (wpAny_field he rfl (x := .ref it) rfl ?_)
    refine wpAny_bind (wpAny_nextOf_tuple_end (I.ok.hd hc) hit p (by simp; omega) fun h' x eb hx' => ?_)
    obtain ⟨o, ho, hcl⟩ := hx'
    refine wpAny_bind (wpAny_isInstance (T := "StopIteration") (b := true) ⟨o, ho, hcl⟩ isSubtype_stop ?_)
    exact wpAny_pure ⟨rfl, I.turned (t' := s.toks) (fun b o hb q => eb b o hb q) f0 f1 f3 f4 f5⟩
  self := fun A i s Q E st h => let ⟨⟨_, he⟩, _⟩ := st; wpAny_pyIter_enum he h
def iEnT (K : PySem.W.Frag) (ta : TA) : TI := fun σ H R => ta σ H fun vs H1 => ∃ a xs, vs = [.ref a] ∧ SqT K H1 a xs ∧ R (Itu K a) H1
theorem pi_enumT {X : Cx} {e : Expr} {ta : TA} {p pos tpos : Pos} {elts : List Expr} {kk : Nat} (hg : Gl X "enumerate") (hm : X.mg "enumerate" = none) (ha : PA X [e] ta) (hs : starEach [e] X.env = [(false, eval e X.env)] := by rfl) :
    PI X (.Tuple elts kk tpos) (.Call (.Name "enumerate" p) [e] [] pos) (iEnT X.K ta) := by
  refine ⟨fun pins s σ H R I h => ?_⟩
  refine Call_ (ld_blt I hg hm boot_enumerate (PyProof.Rows.callWith_type1 (thn (ha.run pos pins s σ H _ I h) fun us s1 ⟨vs, H1, I1, r1, q1⟩ => ?_) hs rfl))
  obtain ⟨a, xs, ex, hq, q⟩ := q1
  subst ex
  cases r1 with
  | cons r rr =>
    cases rr
    cases r
    obtain ⟨its, rv, p', hz⟩ := I1.tuple hq
    have hal : a < s1.heap.objs.size := by obtain ⟨o, ho, _⟩ := p'; exact Heap.lt_size ho
    refine PySem.YEn.begins1 (begins_tuple a its.toArray) p' fun h' he hit hsz hk => wpAny_pyIter_enum he ?_
    have I2 : Inv X pins σ H1 { s1 with heap := h' } := I1.kept (t' := s1.toks) hk
    have hit2 : h'.IsTupleIter s1.heap.objs.size a 0 := ⟨_, hit, rfl, rfl⟩
    refine ⟨s1.heap.objs.size + 1, [s1.heap.objs.size + 1, s1.heap.objs.size], _, _, H1, rfl, I2, turn_enumT a (s1.heap.objs.size + 1) s1.heap.objs.size its.toArray (Nat.ne_of_lt hal), ⟨⟨.none, he⟩, hit2, Nat.succ_ne_self _⟩, fun b hb => ?_, q⟩
    have e' : b = s1.heap.objs.size + 1 ∨ b = s1.heap.objs.size := by simpa using hb
    have hle : s1.heap.objs.size ≤ b := by
      rcases e' with z | z
      · rw [z]; exact Nat.le_add_right _ _
      · rw [z]; exact Nat.le_refl _
    exact I1.fpOk hle (I1.hok.fresh hle)
section
variable {K : PySem.W.Frag} {σ : L2.St} {G H : Hp} {Q : VK} {x : V} {ds : List PyData} {ta : TA} {R : It → Hp → Prop}
theorem src_enumT {M : List Addr} {a : Addr} {xs : List V} (hs : SqT K G a xs) (hd : DpAll K G xs ds) : Src K M (Itu K a) G H (prs 0 ds) where
  go := fun i G' H' n hi => ⟨xs, xs[i]'(by rw [dpAll_len hd, ← prs_len 0 ds]; exact hi), n.gh.seqT (n.gg.seqT hs), by rw [prs_len] at hi; simp [dpAll_len hd, hi]⟩
  stop := fun i G' H' n hi => ⟨xs, n.gh.seqT (n.gg.seqT hs), by rw [dpAll_len hd, ← prs_len 0 ds]; exact hi⟩
  yld := fun i d G' H' x H'' n hi y => by
    obtain ⟨T, u, rfl, hT, rfl, f⟩ := y
    have hx := f xs (n.gh.seqT (n.gg.seqT hs))
    rw [prs_get] at hi
    cases q : ds[i]? with
    | none => rw [q] at hi; cases hi
    | some d0 =>
      rw [q] at hi
      cases hi
      obtain ⟨v, hv, dv⟩ := dpAll_get hd q
      rw [hx] at hv
      cases hv
      have h2 := nx_tup (K := K) n.gh (xs := [.int ((i : Nat) : Int), u]) (ds := [.int ((0 + i : Nat) : Int), d0]) (by rw [Nat.zero_add]; exact .cons (.int _) (.cons (dp_mono n.gg dv) .nil)) hT
      exact ⟨_, h2.1, h2.2⟩
theorem g_iEnT (q : ta σ H fun vs H1 => ∃ a xs, vs = [.ref a] ∧ SqT K H1 a xs ∧ R (Itu K a) H1) : iEnT K ta σ H R := q
theorem g_walkEt {P : Addr → Prop} (e : Ex G H) (h : Dp K G x (.tuple ds)) (q : ∀ a, x = .ref a → (∀ M, Src K M (Itu K a) G H (prs 0 ds)) → P a) : ∃ a xs, [x] = [.ref a] ∧ SqT K H a xs ∧ P a := by
  obtain ⟨a, xs, rfl, hs, hd⟩ := dp_tup h
  exact ⟨a, xs, rfl, e.seqT hs, q a rfl fun M => src_enumT hs hd⟩
end
end Y

namespace Y
open PySem PySem.Spec PyProof.Rows L2
section
variable {K : PySem.W.Frag} {σ : L2.St} {G H : Hp} {R : L2.St → Hp → Prop} {v : V} {d1 d2 d3 d4 d5 : PyData} {i j k l m : Nat}
theorem g_un2 (e : Ex G H) (h : Dp K G v (.tuple [d1, d2])) (q : ∀ v1 v2, Dp K G v1 d1 → Dp K G v2 d2 → R ((σ.set i (some v1)).set j (some v2)) H) : gTup K 2 (gCons (gName i) (gCons (gName j) gNil)) v σ H R := by
  obtain ⟨a, xs, rfl, hs, hd⟩ := dp_tup h
  cases hd with
  | cons h1 t => cases t with
    | cons h2 t => cases t; exact ⟨a, _, rfl, e.seqT hs, rfl, _, _, rfl, _, _, rfl, rfl, q _ _ h1 h2⟩
theorem g_un3 (e : Ex G H) (h : Dp K G v (.tuple [d1, d2, d3])) (q : ∀ v1 v2 v3, Dp K G v1 d1 → Dp K G v2 d2 → Dp K G v3 d3 → R (((σ.set i (some v1)).set j (some v2)).set k (some v3)) H) : gTup K 3 (gCons (gName i) (gCons (gName j) (gCons (gName k) gNil))) v σ H R := by
  obtain ⟨a, xs, rfl, hs, hd⟩ := dp_tup h
  cases hd with
  | cons h1 t => cases t with
    | cons h2 t => cases t with
      | cons h3 t => cases t; exact ⟨a, _, rfl, e.seqT hs, rfl, _, _, rfl, _, _, rfl, _, _, rfl, rfl, q _ _ _ h1 h2 h3⟩
theorem g_un5 (e : Ex G H) (h : Dp K G v (.tuple [d1, d2, d3, d4, d5])) (q : ∀ v1 v2 v3 v4 v5, Dp K G v1 d1 → Dp K G v2 d2 → Dp K G v3 d3 → Dp K G v4 d4 → Dp K G v5 d5 → R (((((σ.set i (some v1)).set j (some v2)).set k (some v3)).set l (some v4)).set m (some v5)) H) :
    gTup K 5 (gCons (gName i) (gCons (gName j) (gCons (gName k) (gCons (gName l) (gCons (gName m) gNil))))) v σ H R := by
  obtain ⟨a, xs, rfl, hs, hd⟩ := dp_tup h
  cases hd with
  | cons h1 t => cases t with
    | cons h2 t => cases t with
      | cons h3 t => cases t with
        | cons h4 t => cases t with
          | cons h5 t => cases t; exact ⟨a, _, rfl, e.seqT hs, rfl, _, _, rfl, _, _, rfl, _, _, rfl, _, _, rfl, _, _, rfl, rfl, q _ _ _ _ _ h1 h2 h3 h4 h5⟩
theorem dp_non_iff {d : PyData} (h : Dp K G v d) : v = .non ↔ d = .none := by
  constructor
  · intro e; subst e; cases h; rfl
  · intro e; subst e; exact dp_non h
end
def isNn : PyData → Bool
  | .none => true
  | _ => false
theorem isNn_iff {d : PyData} : isNn d = true ↔ d = .none := by cases d <;> simp [isNn]
theorem isNn_f {d : PyData} (h : ¬ d = .none) : isNn d = false := by
  cases e : isNn d with
  | true => exact absurd (isNn_iff.mp e) h
  | false => rfl
/-- lengths of data -/
def dlen : PyData → Nat
  | .tuple xs => xs.length
  | .list xs => xs.length
  | .str s => s.length
  | _ => 0
end Y

namespace Y
open PySem PySem.Spec PyProof.Rows L2
/-! ### the rules with the written part by name -/
section
variable {X : Cx} {K : PySem.W.Frag}
theorem ix_listK (h : X.K = K) : IxR X (rIxL K) := h ▸ ix_list
theorem ix_tupK (h : X.K = K) : IxR X (rIxT K) := h ▸ ix_tup
theorem call_lenK (h : X.K = K) : CallR X (.builtin "len") (rLen K) := h ▸ call_len
theorem call_isiK (h : X.K = K) : CallR X (.builtin "isinstance") (rIsi K) := h ▸ call_isi
theorem call_listK (h : X.K = K) : CallR X (.type "list") (rListOf K) := h ▸ call_list
theorem call_tupleK (h : X.K = K) : CallR X (.type "tuple") (rTupOf K) := h ▸ call_tuple
theorem cr_allK (h : X.K = K) (hc : X.calm = true) : CallR X (.builtin "all") (rAll K) := h ▸ cr_all hc
theorem cr_anyK (h : X.K = K) (hc : X.calm = true) : CallR X (.builtin "any") (rAny K) := h ▸ cr_any hc
theorem cr_sumK (h : X.K = K) (hc : X.calm = true) : CallR X (.builtin "sum") (rSum K) := h ▸ cr_sum hc
theorem cr_maxK (h : X.K = K) (hc : X.calm = true) : CallR X (.builtin "max") (rMax K) := h ▸ cr_max hc
theorem cr_minK (h : X.K = K) (hc : X.calm = true) : CallR X (.builtin "min") (rMin K) := h ▸ cr_min hc
theorem op_eqDK (h : X.K = K) (hu : X.A.units + 64 < cLine) : OpR X (compareOp .Eq) (rEqD K) := h ▸ op_eqD hu
theorem op_neDK (h : X.K = K) (hu : X.A.units + 64 < cLine) : OpR X (compareOp .NotEq) (rNeD K) := h ▸ op_neD hu
theorem op_catAK (h : X.K = K) : OpR X (binaryOp .Add) (rCatA K) := h ▸ op_catA
theorem op_repTK (h : X.K = K) : OpR X (binaryOp .Mult) (rRepT K) := h ▸ op_repT
theorem op_inK (h : X.K = K) : OpR X (compareOp .In) (rIn K false) := h ▸ op_in_seq
theorem op_notInK (h : X.K = K) : OpR X (compareOp .NotIn) (rIn K true) := h ▸ op_notIn_seq
theorem sl_listK (h : X.K = K) : SlR X (rSlL K) := h ▸ sl_list
theorem sl_tupAK (h : X.K = K) : SlR X (rSlA K) := h ▸ sl_tupA
variable {l o e e2 value tg : Expr} {es elts : List Expr} {f name : Str} {pos pos' apos cpos p tpos : Pos} {tl ta tv te to : TE} {kk n k : Nat} {t : TA} {ts : TGs} {T id : String} {r : V → List V → Hp → VK → Prop}
theorem pi_listK (h : X.K = K) (hl : PE X l tl) : PI X tg l (iList K tl) := h ▸ pi_list hl
theorem pi_tupK (h : X.K = K) (hl : PE X l tl) : PI X tg l (iTup K tl) := h ▸ pi_tup hl
theorem pi_enumK (h : X.K = K) (hg : Gl X "enumerate") (hm : X.mg "enumerate" = none) (ha : PA X [e] t) (hs : starEach [e] X.env = [(false, eval e X.env)] := by rfl) :
    PI X (.Tuple elts kk tpos) (.Call (.Name "enumerate" p) [e] [] pos) (iEnum K t) := h ▸ pi_enum hg hm ha hs
theorem pi_enumTK (h : X.K = K) (hg : Gl X "enumerate") (hm : X.mg "enumerate" = none) (ha : PA X [e] t) (hs : starEach [e] X.env = [(false, eval e X.env)] := by rfl) :
    PI X (.Tuple elts kk tpos) (.Call (.Name "enumerate" p) [e] [] pos) (iEnT K t) := h ▸ pi_enumT hg hm ha hs
theorem pi_zipK (h : X.K = K) (hg : Gl X "zip") (hm : X.mg "zip" = none) (ha : PA X [e, e2] t)
    (hs : starEach [e, e2] X.env = (false, eval e X.env) :: starEach [e2] X.env := by rfl) (hpl : (backTo pos (starEach [e2] X.env)).any (·.1) = false := by rfl) :
    PI X (.Tuple elts kk tpos) (.Call (.Name "zip" p) [e, e2] [] pos) (iZip K t) := h ▸ pi_zip hg hm ha hs hpl
theorem pi_reversedK (h : X.K = K) (hg : Gl X "reversed") (hm : X.mg "reversed" = none) (ha : PA X [e] t) (hs : starEach [e] X.env = [(false, eval e X.env)] := by rfl) : PI X tg (.Call (.Name "reversed" p) [e] [] pos) (iRev K t) := h ▸ pi_reversed hg hm ha hs
theorem pg_tupK (h : X.K = K) (hc : X.calm = true) (hp : PGs X es ts) (hn : (assignEach es X.env).length = n := by rfl) (hst : (assignEach es X.env).findIdx? (·.1) = none := by rfl) : PG X (.Tuple es k pos) (gTup K n ts) := h ▸ pg_tup hc hp hn hst
theorem pg_lstK (h : X.K = K) (hc : X.calm = true) (hp : PGs X es ts) (hn : (assignEach es X.env).length = n := by rfl) (hst : (assignEach es X.env).findIdx? (·.1) = none := by rfl) : PG X (.Tuple es k pos) (gLst K n ts) := h ▸ pg_lst hc hp hn hst
theorem pe_fldK (h : X.K = K) (he : PE X e ta) (hb : attributeBase e f X.env (eval e X.env) = eval e X.env) : PE X (.Attribute e f pos) (tFld K ta f) := h ▸ pe_fld he hb
theorem ps_fldK (h : X.K = K) (ha : PE X o ta) (hv : PE X value tv) (hs : swapsWith value (some (.Attribute o f pos')) pos.line X.env = pure false) : PS X (.Assign [.Attribute o f pos'] value pos) (sFld K ta tv f) := h ▸ ps_fld ha hv hs
theorem pe_bmK (h : X.K = K) (pa : PlainAttrs T) (slot : Slot T name id) (hty : typeOf (.builtin id) = pure (.type "method_descriptor")) (hm : MtR X id r) (ho : PE X o to) (ha : PA X (e :: es) t)
    (hbase : attributeBase o name X.env (eval o X.env) = eval o X.env := by rfl)
    (hfew : ((backTo cpos (starEach (e :: es) X.env)).all (fun x => !x.1) && (backToKw cpos (keywordEach [] X.env)).all (fun x => x.1.isSome)
      && decide ((e :: es).length + ([] : List Keyword).length + (if ([] : List Keyword).isEmpty then 0 else 1) < 30)) = true := by rfl)
    (hline : (apos.endLine == cpos.line) = true := by rfl) (hs : starEach (e :: es) X.env = (false, eval e X.env) :: starEach es X.env := by rfl) (hplain : (backTo cpos (starEach es X.env)).any (·.1) = false := by rfl) :
    PE X (.Call (.Attribute o name apos) (e :: es) [] cpos) (tBM K T r to t) := h ▸ pe_bm pa slot hty hm ho ha hbase hfew hline hs hplain
theorem pe_bm0K (h : X.K = K) (pa : PlainAttrs T) (slot : Slot T name id) (hty : typeOf (.builtin id) = pure (.type "method_descriptor")) (hm : MtR X id r) (ho : PE X o to)
    (hbase : attributeBase o name X.env (eval o X.env) = eval o X.env := by rfl) (hline : (apos.endLine == cpos.line) = true := by rfl) :
    PE X (.Call (.Attribute o name apos) [] [] cpos) (tBM0 K T r to) := h ▸ pe_bm0 pa slot hty hm ho hbase hline
def rJoin (K : PySem.W.Frag) : V → List V → Hp → VK → Prop := fun x xs H Q => ∃ a p, ∃ ys : List Str, x = .str a ∧ xs = [.ref p] ∧ (SqL K H p (ys.map V.str) ∨ SqT K H p (ys.map V.str)) ∧
      (ys.map (·.length)).sum + ys.length * a.length ≤ 16777216 ∧ Q (.str (Txt.join a ys)) H
theorem pe_joinK (h : X.K = K) (ho : PE X o to) (he : PE X e te) (hs : starEach [e] X.env = [(false, eval e X.env)] := by rfl) (hbase : attributeBase o "join" X.env (eval o X.env) = eval o X.env := by rfl) (hline : (apos.endLine == pos.line) = true := by rfl) :
    PE X (.Call (.Attribute o "join" apos) [e] [] pos) (tM1 (rJoin K) to te) := h ▸ pe_join ho he hs hbase hline
end
theorem dec_ni (a b : Nat) : decide ((a : Int) = (b : Int)) = decide (a = b) := by rw [decide_eq_decide]; omega
end Y

namespace Y
open PySem PySem.Spec PyProof.Rows L2
/-! ### an exception in the air of a body or of a comprehension's block: the frame L that notes it is told -/
def XEL (X : Cx) (E : XK) (L : Addr) (u : Value) (s' : Shared) : Prop :=
  ∃ (a : Addr) (B : Heap) (sI : Shared) (pins : List (Addr × Obj)) (σ : L2.St) (H : Hp) (cls : Value) (d : Option Addr),
    u = .ref a ∧ Inv X pins σ H sI ∧ (∀ b o, sI.heap.get? b = some o → b ∉ frs X.stack → B.get? b = some o) ∧ sI.heap.UpToSlots s'.heap ∧
      Sky B X.stack a (Zc cls d) L s'.heap ∧ H a = none ∧ s'.os = sI.os ∧ AllBare s'.gens ∧ E cls d H
def TakesL (X : Cx) (E : XK) (L : Addr) : Prop := ∀ u s', XEL X E L u s' → X.xe u s'
theorem takesL_of {X : Cx} {E : XK} (t : Takes X fun cls d _ H => E cls d H) : TakesL X E X.env.locals := fun u s' ⟨a, B, sI, pins, σ, H, cls, d, e, I, r⟩ => t u s' ⟨a, B, sI, pins, σ, H, cls, d, e, I, r⟩
theorem takes_ofL {X : Cx} {E : XK} (t : TakesL X E X.env.locals) : Takes X fun cls d _ H => E cls d H := fun u s' ⟨a, B, sI, pins, σ, H, cls, d, e, I, r⟩ => t u s' ⟨a, B, sI, pins, σ, H, cls, d, e, I, r⟩
/-- a call's exception is in flight: it is in our air, whatever frame is told -/
theorem passL {X : Cx} {E : XK} {L : Addr} (t : TakesL X E L) : Passes (L2.CX X.prog X.w) X E := fun pins σ H s u s' I c => by
  obtain ⟨a, B, sI, pins', σ', H', cls, d, rfl, J, nb, up, sky, na, os, ag, w⟩ := XE.of_call (W := fun cls d _ H => E cls d H) I (fun _ _ _ h => h) c
  obtain ⟨a2, B2, H2, cls2, d2, e2, fl, _⟩ := c
  have ea : a2 = a := by injection e2 with z; exact z.symm
  subst ea
  refine t _ _ ⟨a2, B, sI, pins', σ', H', cls, d, rfl, J, nb, up, ?_, na, os, ag, w⟩
  obtain ⟨_, _, _, oe, vs, T, oT, ts, he, _, hd, h1, _, _, hT, hdT, h3⟩ := fl
  rcases sky with ⟨_, _, _, oe', vs', he', _, hd', h1'⟩ | z | ⟨_, _, _, oe', vs', T', oT', ts', he', _, hd', h1', _, _, hT', hdT', h3'⟩
  · rw [he] at he'; cases he'; rw [hd] at hd'; cases hd'; rw [h1] at h1'; cases h1'
  · exact .inr (.inl z)
  · rw [he] at he'; cases he'; rw [hd] at hd'; cases hd'; rw [h1] at h1'; cases h1'; rw [hT] at hT'; cases hT'; rw [hdT] at hdT'; cases hdT'; rw [h3] at h3'; cases h3'

section
variable {X : Cx} {pins : List (Addr × Obj)} {σ : L2.St} {H : Hp} {s : Shared}
/-- an untracked object of ours is not looked at any more -/
theorem inv_hide {C : Addr} (I : Inv X pins σ H s) (hC : H C = none) (h1 : C ∈ X.ex ∨ X.s_0.heap.objs.size ≤ C) (h2 : C ≠ X.env.locals) (h3 : ∀ x c, X.env.cells.lookup x = some c → c ≠ C) (h4 : ∀ p ∈ X.pn ++ pins, p.1 ≠ C) {G : Heap}
    (g : ∀ b, b ≠ C → G.get? b = s.heap.get? b) : Inv X pins σ H { s with heap := G } := by
  refine I.step (g' := s.gens) (d' := s.drawn) (t' := s.toks) (ch := [C]) (fun b hb => ?_) (fun b o _ _ hc q _ => ?_) (fun b o _ _ hc q _ => ⟨o.slots, ?_⟩) (fun _ _ _ _ n => n) (fun b o hc q => ⟨o, ?_⟩) (fun _ _ q => q) (fun _ _ _ q => q) (fun b ps q => ⟨#[], by rw [q]; simp⟩) (fun m hm => ?_) (fun b u q => ?_) I.bare
  · have z : b = C := by simpa using hb
    subst z
    exact ⟨h1, h2, h3, h4⟩
  · rw [g b (by simpa using hc)]; exact q
  · rw [g b (by simpa using hc)]; exact q
  · rw [g b (by simpa using hc)]; exact q
  · obtain ⟨o, es, ep, ho, r⟩ := hm
    exact ⟨o, es, ep, (g _ (Ne.symm h2)).trans ho, r⟩
  · refine (I.hok b u q).stay (fun c v hc z => (g c ?_).trans z) (fun _ z => z) fun _ _ z => z
    intro e
    subst e
    rcases hc with z | z
    · rw [← z, hC] at q; cases q
    · rw [hC] at z; cases z
/-- out of a block with its variables at C: noted by the frame L, the block let go, handed on -/
theorem block_fails {E : XK} {L C : Addr} {env0 ce : Env} {outer0 : List Env} {B : Heap} {sI s' : Shared} {a : Addr} {cls : Value} {d : Option Addr} {m : Str → Option Value} (hst : X.stack = env0 :: outer0) (hf : env0.frame = some L) (hc : ce.frame = some L) (tk : TakesL X E L)
    (hC : ce.locals = C) (I : Inv X pins σ H sI) (nC : H C = none) (h1 : C ∈ X.ex ∨ X.s_0.heap.objs.size ≤ C) (h2 : C ≠ X.env.locals) (h3 : ∀ x c, X.env.cells.lookup x = some c → c ≠ C) (h4 : ∀ p ∈ X.pn ++ pins, p.1 ≠ C) (hn : sI.heap.Ns C m)
    (nb : ∀ b o, sI.heap.get? b = some o → b ∉ frs X.stack → B.get? b = some o) (up : sI.heap.UpToSlots s'.heap) (sky : Sky B X.stack a (Zc cls d) L s'.heap) (na : H a = none) (os : s'.os = sI.os) (ag : AllBare s'.gens) (w : E cls d H) :
    notedBy (model X.prog X.w) X.A ce (CompFails (model X.prog X.w) X.A X.xe ce) (.ref a) s' := by
  have hfr : X.A.frames = some (env0 :: outer0) := by rw [I.ok.frames, hst]
  rw [hst] at sky
  have fin : ∀ hp1, HandSPX.HeldZ B (env0 :: outer0) a (Zc cls d) L hp1 → s'.heap.UpToSlots hp1 → CompFails (model X.prog X.w) X.A X.xe ce (.ref a) { s' with heap := hp1 } := by
    intro hp1 hh up1
    have up01 := up.trans up1
    have hn1 : hp1.Ns C m := by
      obtain ⟨o, es, ep, ho, hd, r⟩ := hn
      obtain ⟨sl, q⟩ := up01 C o ho fun vs z => by rw [hd] at z; cases z
      exact ⟨_, es, ep, q, hd, r⟩
    refine ⟨m, by rw [hC]; exact hn1, fun hp2 m2 hn2 hs2 => ?_⟩
    rw [hC] at hn2 hs2
    obtain ⟨f1, f2, f3, oe, vs, T, oT, ts, q1, q2, q3, q4, q5, q6, q7, q8, q9⟩ := hh
    have notC : ∀ {b : Addr} {o : Obj} {xs : Array Value}, hp1.get? b = some o → o.data = .fields xs → b ≠ C := fun {b o xs} z z2 z3 => by
      obtain ⟨o', es, ep, ho, hd, _⟩ := hn1
      rw [z3, ho] at z; cases z
      rw [hd] at z2; cases z2
    obtain ⟨B2, b1, b2⟩ := restrict B fun b => decide (b ≠ C)
    have bB : ∀ b, b ≠ C → B2.get? b = B.get? b := fun b hb => b1 b (by simp [hb])
    have bC : B2.get? C = none := b2 C (by simp)
    have st2 : B2.StaysIn hp2 := fun b o z => by
      by_cases hb : b = C
      · subst hb; rw [bC] at z; cases z
      · rw [bB b hb] at z
        exact (hs2.2 b hb).trans (f1 b o z)
    have ff2 : hp2.FunFrames B2 (env0 :: outer0) := by
      refine funFrames_none (Heap.FunFrames.sameBut hs2 hn2 f3) fun b hb => ?_
      by_cases z : b = C
      · rw [z]; exact bC
      · rw [bB b z]; exact (f3.mem hb).1
    have tr2 : HandSPX.TracedZ hp2 B2 a (Zc cls d) (rawInt L) := by
      refine ⟨oe, vs, T, oT, ts, (hs2.2 a (notC q1 q3)).trans q1, q2, q3, q4, ?_, q6, (hs2.2 T (notC q7 q8)).trans q7, q8, q9⟩
      rw [bB T (notC q7 q8)]
      exact q5
    have na2 : B2.get? a = none := by rw [bB a (notC q1 q3)]; exact f2
    unfold PySem.passOn
    refine wpAny_bind (wpAny_field ((hs2.2 a (notC q1 q3)).trans q1) q3 q4 ?_)
    rw [if_neg (show ¬ ((Value.ref T == Value.none) = true) from by simp)]
    rw [hc]
    have go : wpAny (model X.prog X.w) X.A (setFlight (.ref a) (some L)) (fun _ s4 => wpAny (model X.prog X.w) X.A (throw (.ref a) : Sem Value) (fun _ _ => False) X.xe s4) X.xe { s' with heap := hp2 } := by
      refine HandSPX.setFlight_anyZ (s := { s' with heap := hp2 }) st2 ff2 tr2 fun hp3 k1 k2 k3 k4 => wpAny_throw (tk _ _ ?_)
      obtain ⟨G, g1, g2⟩ := restrict sI.heap fun b => decide (b ≠ C)
      have gG : ∀ b, b ≠ C → G.get? b = sI.heap.get? b := fun b hb => g1 b (by simp [hb])
      have gC : G.get? C = none := g2 C (by simp)
      refine ⟨a, B2, { sI with heap := G }, pins, σ, H, cls, d, rfl, inv_hide I nC h1 h2 h3 h4 gG, fun b o z hb => ?_, fun b o z hnf => ?_, ?_, na, os, ag, w⟩
      · by_cases q : b = C
        · subst q; rw [show (Shared.heap { sI with heap := G }).get? b = G.get? b from rfl, gC] at z; cases z
        · rw [bB b q]
          exact nb b o ((gG b q).symm.trans z) hb
      · by_cases q : b = C
        · subst q; rw [show (Shared.heap { sI with heap := G }).get? b = G.get? b from rfl, gC] at z; cases z
        · obtain ⟨sl, z1⟩ := up01 b o ((gG b q).symm.trans z) hnf
          obtain ⟨sl2, z2⟩ := k4 b _ ((hs2.2 b q).trans z1) hnf
          exact ⟨sl2, z2⟩
      · rw [hst]
        exact .inr (.inr ⟨k1, na2, k2, k3⟩)
    first
      | exact wpAny_bind (wpAny_pure (wpAny_bind go))
      | exact wpAny_bind go
  show wpAny (model X.prog X.w) X.A (noteFrame (.ref a) ce) _ _ s'
  rw [noteFrame_env _ (hc.trans hf.symm)]
  rcases sky with ⟨hB, hn', hl, oe, vs, he, hz, hd, z1⟩ | fl | hh
  · exact HandSPX.look_newZ Zc.steady hfr hl hf he hB hn' hd z1 hz fin
  · exact HandSPX.looks_onZ Zc.steady hfr hf fl fin
  · exact HandSPX.againZ hf hh.2.2.2 (fin s'.heap hh (Heap.UpToSlots.refl _))
end
end Y

namespace Y
open PySem PySem.Spec PyProof.Rows L2
theorem ends_of_post {M : Model} {A : Around} {E : Value → Shared → Prop} {use : Option (Value → Sem Unit)} {Q : Value → Shared → Prop} {acc : Value} {ce : Env} {s' : Shared} (h : compPost M A E use Q acc ce.locals (.ok .next) s') : compEnds M A E use Q acc ce (.ok .next) s' := by
  cases use <;> exact h
section
variable {X : Cx}
/-- [elt for target in iter if ..] whose element may raise -/
theorem lc_coreX {pins : List (Addr × Obj)} {s : Shared} {σ : L2.St} {H : Hp} {Q : VK} {elt tg iter : Expr} {ifs : List Expr} {scope : Scope} {own : List (Str × Nat)} {pos pos' : Pos} {wi : TI} {g : TG} {tt : TT} {te : TE} {use : Option (Value → Sem Unit)} {Qf : Value → Shared → Prop}
    {E : XK} {L : Addr} {env0 : Env} {outer0 : List Env} (hst : X.stack = env0 :: outer0) (hf0 : env0.frame = some L) (hfE : X.env.frame = some L) (tk : TakesL X E L)
    (hc : X.calm = true) (hN : X.N.Nodup) (I : Inv X pins σ H s) (hi : PI X tg iter wi) (ok : BlkOk X.N X.env.scope scope own)
    (hg : ∀ (s : Shared) (H : Hp) (C : Addr) (cl : List (Str × Addr)) (fp : List Addr), PG (X.blk s H scope (compEnvC scope cl C X.env) fp) tg g) (ht : ∀ (s : Shared) (H : Hp) (C : Addr) (cl : List (Str × Addr)) (fp : List Addr), PTs (X.blk s H scope (compEnvC scope cl C X.env) fp) ifs tt)
    (he : ∀ (s : Shared) (H : Hp) (C : Addr) (cl : List (Str × Addr)) (fp : List Addr) (xe : Value → Shared → Prop), TakesL ((X.blk s H scope (compEnvC scope cl C X.env) fp).wish xe) E L → PE ((X.blk s H scope (compEnvC scope cl C X.env) fp).wish xe) elt te)
    (hs : ∀ x, foldedSetIterable iter X.env x = pure x) (h : tLc wi g tt te (own.map (·.2)) σ H Q)
    (hRR : ∀ D C s' m H', Inv X pins σ H' s' → Q (.ref D) H' → s'.heap.Ns C m → FpOk X pins H' C → compPost (model X.prog X.w) X.A X.xe use Qf (.ref D) C (.ok .next) s') :
    wpAny (model X.prog X.w) X.A (comprehension (.ListComp elt [⟨tg, iter, ifs, 0⟩] scope pos) scope X.env pos' (newList []) false (eval iter X.env) use) Qf X.xe s := by
  have hfree : ∀ y ∈ scope.names, y.2 = .free → ∃ c, X.env.cells.lookup y.1 = some c := fun y hy e => by
    rcases ok.free y hy e with k | k
    · exact I.ok.has _ (.inl k)
    · exact I.ok.has _ (.inr k)
  refine comprehension_at (use := use) rfl hs (closure_ok hfree) ok.kind (fun y hy e => by rw [ok.uniq y hy, e])
    (thn (hi.run pins s σ H _ I h) fun xv s1 hx => thn hx fun itv s2 h2 => ?_)
  obtain ⟨it, fp, tn, J, H2, e, I2, T, st2, f2, q⟩ := h2
  subst e
  refine wpAny_newObj_type (newEnv_comp ?_) (by show 0 ≤ sizeLine; decide)
  generalize hD : s2.heap.objs.size = D
  have hDn : H2 D = none := I2.hok.fresh (Nat.le_of_eq hD)
  obtain ⟨W, ⟨m0, w0⟩, turn⟩ := q D hDn
  generalize hs3 : ({ s2 with heap := s2.heap.push { cls := .type "list", data := .seq ([] : List Value).toArray } } : Shared) = s3
  have h3 : s3.heap = s2.heap.push { cls := .type "list", data := .seq ([] : List Value).toArray } := by rw [← hs3]
  have I3 : Inv X pins σ (upd H2 D (.lst [])) s3 := by
    rw [← hs3]
    refine I2.laid (t' := s2.toks) (fun b o e => Heap.get?_push_of_some _ e) (Nat.le_of_eq hD) ⟨Nat.zero_le _, [], 0, .nil, ?_⟩
    rw [← hD]
    exact Heap.get?_push_size _ rfl
  have f3 : ∀ b ∈ fp, FpOk X pins (upd H2 D (.lst [])) b ∧ b < s3.heap.objs.size := fun b hb => by
    obtain ⟨o, e, _⟩ := T.obj _ _ st2 b hb
    have hlt := Heap.lt_size e
    have nb : b ≠ D := by rw [← hD]; exact Nat.ne_of_lt hlt
    exact ⟨⟨by rw [upd_ne nb]; exact (f2 b hb).1, (f2 b hb).2⟩, by rw [h3, Heap.size_push]; exact Nat.lt_succ_of_lt hlt⟩
  have st3 : tn 0 s3.heap := T.keep _ _ _ st2 fun b _ o e => by rw [h3]; exact Heap.get?_push_of_some _ e
  have I4 := block_start I3 ok hN f3
  generalize hcl : cellsFrom (s3.heap.objs.size + 1) scope.names (cloFrom X.env.cells scope.names []) = cl at I4 ⊢
  have fC : FpOk X pins (upd H2 D (.lst [])) s3.heap.objs.size := I3.fpOk (Nat.le_refl _) (I3.hok.fresh (Nat.le_refl _))
  have pg := hg s3 (upd H2 D (.lst [])) s3.heap.objs.size cl fp
  have pt := ht s3 (upd H2 D (.lst [])) s3.heap.objs.size cl fp
  have pe := he s3 (upd H2 D (.lst [])) s3.heap.objs.size cl fp
  have nfp : ∀ b ∈ fp, (upd H2 D (.lst [])) b = none := fun b hb => (f3 b hb).1.1
  show codeAny _ _ (.compStart (.ListComp elt [⟨tg, iter, ifs, 0⟩] scope pos) 0 (.ref it) (.ref D) (compEnvC scope cl s3.heap.objs.size X.env)) (compEnds (model X.prog X.w) X.A X.xe use Qf (.ref D) (compEnvC scope cl s3.heap.objs.size X.env)) _
  generalize hce : compEnvC scope cl s3.heap.objs.size X.env = ce at I4 pg pt pe ⊢
  have cL : ce.locals = s3.heap.objs.size := by rw [← hce]; rfl
  have cF : ce.frame = some L := by rw [← hce]; exact hfE
  generalize hH3 : upd H2 D (.lst []) = H3 at I3 I4 pg pt pe w0 nfp f3 fC
  generalize hs4 : ({ s3 with heap := pushCells (s3.heap.push { cls := .type "dict", data := .dict #[] }) scope.names } : Shared) = s4 at I4 ⊢
  have st4 : tn 0 s4.heap := T.keep _ _ _ st3 fun b _ o e => by rw [← hs4]; exact pushCells_keeps _ _ _ _ (Heap.get?_push_of_some _ e)
  -- back in the context ahead
  have back : ∀ {pn : List (Addr × Obj)} {σ' : L2.St} {H' : Hp} {s' : Shared}, Inv (X.blk s3 H3 scope ce fp) pn σ' H' s' → Inv X pins σ H' s' ∧ H' s3.heap.objs.size = none := fun {pn σ' H' s'} I' =>
    ⟨I3.call' (ch := fp) I'.os I'.base I'.hok I'.bare fun b hb => ⟨(f3 b hb).1.2.2.2.1, (f3 b hb).1.2.1, (f3 b hb).1.2.2.2.2.1, (f3 b hb).1.2.2.2.2.2⟩, by rw [← cL]; exact I'.free⟩
  have stat : ∀ {σ' : L2.St} {H' : Hp} {s' : Shared}, Inv (X.blk s3 H3 scope ce fp) [] σ' H' s' → (∀ b ∈ fp, H' b = none) → ∀ b ∈ fp, FpOk (X.blk s3 H3 scope ce fp) [] H' b := fun {σ' H' s'} I' hn b hb =>
    ⟨hn b hb, (I'.ok.exf b hb).1, I'.ok.exfs b hb, .inl hb, fun x c e => (I'.ok.exf b hb).2 x c e, fun p hp => absurd (show p ∈ ([] : List (Addr × Obj)) ++ [] from hp) (by simp)⟩
  -- what the element may let out
  have tkB : TakesL ((X.blk s3 H3 scope ce fp).wish (notedBy (model X.prog X.w) X.A ce (CompFails (model X.prog X.w) X.A X.xe ce))) E L := by
    rintro u s' ⟨a, B, sI, pins', σ', H', cls, d, rfl, J', nb, up, sky, na, os, ag, w⟩
    have J0 : Inv (X.blk s3 H3 scope ce fp) pins' σ' H' sI := J'.unwish
    obtain ⟨I7, nC⟩ := back J0
    obtain ⟨m, hn, _⟩ := J0.loc
    have hn : sI.heap.Ns ce.locals m := hn
    rw [cL] at hn
    exact block_fails hst hf0 cF tk cL I7 nC fC.2.2.2.1 fC.2.1 fC.2.2.2.2.1 fC.2.2.2.2.2 hn nb up sky na os ag w
  have pe' := pe _ tkB
  have loop : codeAny (model X.prog X.w) X.A (.compLoop (.ListComp elt [⟨tg, iter, ifs, 0⟩] scope pos) 0 (.ref it) (.ref D) ce) (compEnds (model X.prog X.w) X.A X.xe use Qf (.ref D) ce) s4 := by
    refine compLoop_any (fun n s' => ∃ i H', Inv (X.blk s3 H3 scope ce fp) [] (wipe σ (own.map (·.2))) H' s' ∧ tn i s'.heap ∧ (∀ b ∈ fp, H' b = none) ∧ W i n H') ?_ m0 ⟨0, H3, I4, st4, nfp, w0⟩
    rintro n s5 ⟨i, H5, I5, st5, n5, w5⟩
    rcases turn i n H5 w5 with ⟨stop, qq⟩ | ⟨go, Nx, hNx, step⟩
    · refine thnF (T.done (X.blk s3 H3 scope ce fp) rfl rfl rfl hc i [] s5 _ H5 (fun _ _ => False) I5 (stat I5 n5) st5 stop) fun r s6 ⟨hr, I6⟩ => ?_
      subst hr
      obtain ⟨I7, nC⟩ := back I6
      obtain ⟨m, hn, _⟩ := I6.loc
      have hn : s6.heap.Ns ce.locals m := hn
      rw [cL] at hn
      refine ends_of_post ?_
      rw [cL]
      exact hRR D s3.heap.objs.size s6 m H5 I7 qq hn (I3.fpOk (Nat.le_refl _) nC)
    · refine thnF (T.item (X.blk s3 H3 scope ce fp) rfl rfl rfl hc i [] s5 _ H5 (fun _ _ => False) I5 (stat I5 n5) st5 go) fun r s6 ⟨u, hr, h6⟩ => ?_
      subst hr
      refine thnF h6 fun _ s7 ⟨x, H7, I7, r7, y7, st7, n7⟩ => ?_
      refine thnF (pg.run _ s7 _ H7 x u _ (I7.pinned (stat I7 n7) (T.obj _ _ st7)) r7 (step x H7 y7)) fun _ s8 ⟨σ8, H8, I8, hw8, q8⟩ => ?_
      refine thnF (pt.run _ s8 σ8 H8 _ I8 q8) fun b s9 ⟨H9, I9, q9⟩ => ?_
      have fin : ∀ {s' : Shared} {H' : Hp}, Inv (X.blk s3 H3 scope ce fp) ([] ++ pinsAt fp s7.heap) σ8 H' s' → Nx H' → ∃ m, m < n ∧ ∃ i H', Inv (X.blk s3 H3 scope ce fp) [] (wipe σ (own.map (·.2))) H' s' ∧ tn i s'.heap ∧ (∀ b ∈ fp, H' b = none) ∧ W i m H' := fun {s' H'} I' nx => by
        obtain ⟨m', hm, w'⟩ := hNx H' nx
        have pin' : ∀ b ∈ fp, ∀ o, s7.heap.get? b = some o → s'.heap.get? b = some o ∧ H' b = none := fun b hb o e =>
          let z := I'.pin (b, o) (List.mem_append_right _ (List.mem_append_right _ (mem_pinsAt hb e)))
          ⟨z.1, z.2.1⟩
        refine ⟨m', hm, i + 1, H', (I'.unpinned (pins := [])).weak (by rw [← hw8, wipe_length]) (fun j v e => ?_), T.keep _ _ _ st7 fun b hb o e => (pin' b hb o e).1, fun b hb => ?_, w'⟩
        · rw [← hw8] at e
          exact (wipe_some e).1
        · obtain ⟨o, e, _⟩ := T.obj _ _ st7 b hb
          exact (pin' b hb o e).2
      cases b with
      | false =>
        simp only [Bool.false_eq_true, if_false] at q9 ⊢
        exact fin I9 q9
      | true =>
        simp only [if_true] at q9 ⊢
        refine thn (pe'.run _ s9 σ8 H9 _ (I9.wish _) q9) fun z s10 ⟨yv, H10, I10, r10, acc, hD10, hz10, nx⟩ => ?_
        exact app_ok (X := X.blk s3 H3 scope ce fp) I10.unwish hD10 hz10 r10 fun s11 I11 => fin I11 nx
  exact codeAny_compStart_list loop (T.self X.A 0 _ _ _ st4 loop)
theorem pe_lcX {elt tg iter : Expr} {ifs : List Expr} {scope : Scope} {own : List (Str × Nat)} {pos : Pos} {wi : TI} {g : TG} {tt : TT} {te : TE} {E : XK} {L : Addr} {env0 : Env} {outer0 : List Env} (tk : TakesL X E L) (hst : X.stack = env0 :: outer0) (hf0 : env0.frame = some L) (hfE : X.env.frame = some L)
    (hc : X.calm = true) (hN : X.N.Nodup) (hi : PI X tg iter wi) (ok : BlkOk X.N X.env.scope scope own)
    (hg : ∀ (s : Shared) (H : Hp) (C : Addr) (cl : List (Str × Addr)) (fp : List Addr), PG (X.blk s H scope (compEnvC scope cl C X.env) fp) tg g) (ht : ∀ (s : Shared) (H : Hp) (C : Addr) (cl : List (Str × Addr)) (fp : List Addr), PTs (X.blk s H scope (compEnvC scope cl C X.env) fp) ifs tt)
    (he : ∀ (s : Shared) (H : Hp) (C : Addr) (cl : List (Str × Addr)) (fp : List Addr) (xe : Value → Shared → Prop), TakesL ((X.blk s H scope (compEnvC scope cl C X.env) fp).wish xe) E L → PE ((X.blk s H scope (compEnvC scope cl C X.env) fp).wish xe) elt te)
    (hs : ∀ x, foldedSetIterable iter X.env x = pure x := by intro _; rfl) :
    PE X (.ListComp elt [⟨tg, iter, ifs, 0⟩] scope pos) (tLc wi g tt te (own.map (·.2))) := by
  refine ⟨fun pins s σ H Q I h => ?_⟩
  rw [eval_ListComp]
  refine lc_coreX hst hf0 hfE tk hc hN I hi ok hg ht he hs h fun D C s' m H' I' q hn f => ⟨m, hn, fun h'' sb => ?_⟩
  obtain ⟨f0, f1, f2, f3, f4, f5⟩ := f
  exact ⟨.ref D, H', I'.turned (t' := s'.toks) (fun b o hb e => (sb.2 b hb).trans e) f0 f1 f3 f4 f5, rfl, q⟩
end
end Y

/-! isinstance of a caught error that has fields of its own -/
namespace PySem.W
open PySem PySem.Spec PySem.Calls PyProof.Rows
section
variable {prog : Program} {w : World} {A : Around} {E : Value → Shared → Prop} {s : Shared} {K : Frag} {x D : Addr} {ox od : Obj}
theorem yObj_data {C : Addr} {name : Str} {a g : Value} {o : Option Obj} (hc : (clsIn K C).isSome = true) (ha : findIn K (.ref C) name = some (some a)) (hg : specialIn K a "__get__" = some (some g)) (ht : takesIn K a = some true) : findObj K C o name = some (.bind g a) := by
  obtain ⟨cd, hc⟩ := Option.isSome_iff_exists.mp hc
  unfold findObj
  rw [hc, Option.bind_some, ha, Option.bind_some]
  simp [hg, ht]
theorem yin_class {Q : Option Value → Shared → Prop} (hga : findIn K (.ref D) "__getattribute__" = some (some (.builtin "BaseException.__getattribute__"))) (hgt : findIn K (.ref D) "__getattr__" = some none) (hsub : subIn K (.ref D) (.type "BaseException") = some true)
    (hdct : hasDictIn K D = true) (ha : findIn K (.ref D) "__class__" = some (some (.builtin "object.__class__")))
    (hn : specialIn K (.builtin "object.__class__") "__get__" = some (some (.builtin "getset_descriptor.__get__"))) (htk : takesIn K (.builtin "object.__class__") = some true) (hm : mroIn K D (.type "object") = some true)
    (X : K.In s.heap) (I : InstAt s.heap x ox D (some od)) (h : Q (some (.ref D)) { s with toks := s.toks + 1 }) : wpAny (model prog w) A (getAttr? (.ref x) "__class__") Q E s := by
  have hf : findObj K D (some od) "__class__" = some (.bind (.builtin "getset_descriptor.__get__") (.builtin "object.__class__")) := yObj_data (by obtain ⟨cd, hc, _⟩ := any_some hdct; rw [hc]; rfl) ha hn htk
  obtain ⟨hp, g, d, t, os⟩ := s
  have L0 := I.type (M := model prog w)
  have L1 := looks_findIn (M := model prog w) X hga
  have L2 := looks_findIn (M := model prog w) X hgt
  have L3 := looks_find (M := model prog w) X I hf
  have sub : Looks (model prog w) hp (isInstance (.ref x) (.type "BaseException")) true := L0.andThen (looks_subIn X hsub)
  have z0 : (false && onTheHeap (Value.builtin "BaseException.__getattribute__")) = false := rfl
  have z1 : (onTheHeap (Value.ref D) && Value.builtin "BaseException.__getattribute__" == Value.builtin "object.__getattribute__") = false := by
    rw [show (Value.builtin "BaseException.__getattribute__" == Value.builtin "object.__getattribute__") = false from by decide +kernel, Bool.and_false]
  unfold getAttr? getAttrBy? getAttrBy
  refine wpAny_bind (wpAny_mkText (wpAny_bind (wpAny_attempt (wpAny_holding (wpAny_bind (L0.at (wpAny_bind (L1.at ?_))))))))
  show wpAny _ _ (if (onTheHeap (Value.ref D) && Value.builtin "BaseException.__getattribute__" == Value.builtin "object.__getattribute__") = true then _ else _) _ _ _
  rw [z1, if_neg Bool.false_ne_true]
  unfold getAttrByItsOwn hookBefore
  refine wpAny_bind ?_
  rw [if_pos (show onTheHeap (Value.ref D) = true from rfl)]
  refine L2.at (wpAny_bind (wpAny_attempt (wpAny_holding ?_)))
  unfold callGetattribute
  rw [z0, if_neg Bool.false_ne_true]
  unfold boundAndCalled
  rw [PySem.F.excAttr_ValueError.ga.bind (.ref x)]
  refine wpAny_bind (wpAny_pure ?_)
  show wpAny _ _ (call (.builtin "BaseException.__getattribute__") [.ref x, .str "__class__" t]) _ _ _
  refine wpAny_call (codeAny_call_builtin PySem.F.excAttr_ValueError.ga.plain PySem.F.entry_bexc_ga ?_)
  refine @check_slot (model prog w) _ _ ⟨hp, g, d, t + 1, os⟩ "BaseException.__getattribute__" "BaseException" "__getattribute__" (.ref x) [.str "__class__" t] [] _ (by decide +kernel) (by decide +kernel) sub (PySem.F.args_bexc_ga (.ref x) (.str "__class__" t)) ?_
  unfold Builtin.«object.__getattribute__»
  refine wpAny_bind (wpAny_of_eq (a := ((Value.ref x : Value), [Value.str "__class__" t])) (by first | rfl | (simp only [slotArgs]; rfl)) ?_)
  refine wpAny_bind (wpAny_pure (wpAny_bind (L0.at (wpAny_bind (L3.at ?_)))))
  show wpAny _ _ (holding [Value.builtin "object.__class__"] (call (.builtin "getset_descriptor.__get__") [.builtin "object.__class__", .ref x, .ref D]) >>= ret) _ _ _
  refine wpAny_bind (wpAny_holding (wpAny_call (class_get (s := ⟨hp, g, d, t + 1, os⟩) (ox := ox) (od := some od) X I hm (wpAny_pure ?_))))
  show wpAny _ _ (handedOut (.ref D)) _ _ _
  rw [handedOut_of (v := .ref D) rfl]
  first
    | exact wpAny_pure (wpAny_pure h)
    | exact wpAny_pure h
    | exact wpAny_pure (wpAny_bind (wpAny_pure (wpAny_pure h)))
theorem y_kitx (hga : findIn K (.ref D) "__getattribute__" = some (some (.builtin "BaseException.__getattribute__"))) (hgt : findIn K (.ref D) "__getattr__" = some none) (hsub : subIn K (.ref D) (.type "BaseException") = some true) (hdct : hasDictIn K D = true)
    (ha : findIn K (.ref D) "__class__" = some (some (.builtin "object.__class__")))
    (hn : specialIn K (.builtin "object.__class__") "__get__" = some (some (.builtin "getset_descriptor.__get__"))) (htk : takesIn K (.builtin "object.__class__") = some true) (hm : mroIn K D (.type "object") = some true) :
    KitX K (.ref x) (.ref D) (fun h => ∃ od, InstAt h x ox D (some od)) where
  ty := fun _ _ _ ⟨_, I⟩ => I.type
  it := fun M h X _ A' Q' E' s' k q => by
    obtain ⟨cd, hc, _⟩ := any_some hdct
    unfold clsIn at hc
    split at hc
    · rename_i ho
      unfold isType loadHead
      exact wpAny_bind (wpAny_loadPart (k _ _ (X _ _ ho)) (wpAny_pure q))
    · cases hc
  ne := (handS_kitx_exc (x := x) (ox := ox) hga hgt hsub hdct ha hn htk hm).ne
  ca := fun X ⟨_, I⟩ k => yin_class hga hgt hsub hdct ha hn htk hm X I k
end
end PySem.W
namespace Y
open PySem PySem.Spec PyProof.Rows L2
theorem all_at {l : List Bool} {b : Bool} (h : l.all id = true) (i : Nat) (e : l[i]? = some b) : b = true := List.all_eq_true.mp h b (List.mem_of_getElem? e)
/-! ### own exception classes over ValueError with one field -/
/-- what the text says of such a class -/
def exB (K : PySem.W.Frag) (C : Addr) (f : Str) : Bool :=
  (match K.lookup C with
    | some ⟨.type "type", _, .cls cd, sl⟩ => (match cd.mro, sl.toList with
      | .ref D :: bm, [_, _, _, _, some (.builtin n), _] => D == C && n == "ValueError.__new__" && !cd.hasDel && cd.hasDict && HandSPX.refsVE bm
      | _, _ => false)
    | _ => false) &&
  (decide (PySem.W.findIn K (.ref C) "__setattr__" = some (some (.builtin "object.__setattr__"))) && decide (PySem.W.subIn K (.ref C) (.type "BaseException") = some true) && decide (PySem.W.typeIn K (.ref C) = some (.type "type")) && PySem.W.keepIn K (.ref C)) &&
  (decide (PySem.W.findIn K (.ref C) "__getattribute__" = some (some (.builtin "BaseException.__getattribute__"))) && decide (PySem.W.findIn K (.ref C) "__getattr__" = some none) && PySem.W.hasDictIn K C) &&
  (decide (PySem.W.findIn K (.ref C) f = some none) && decide (PySem.W.findIn K (.ref C) "__init__" = some (some (.ref (He.ma K C "__init__")))) && decide (PySem.W.typeIn K (.ref (He.ma K C "__init__")) = some (.type "function"))) &&
  (decide (PySem.W.findIn K (.ref C) "__class__" = some (some (.builtin "object.__class__"))) && decide (PySem.W.specialIn K (.builtin "object.__class__") "__get__" = some (some (.builtin "getset_descriptor.__get__"))) &&
    decide (PySem.W.takesIn K (.builtin "object.__class__") = some true) && decide (PySem.W.mroIn K C (.type "object") = some true))
structure ExC (K : PySem.W.Frag) (C : Addr) (f : Str) : Prop where
  oex : OexC K C
  xf : XfC K C
  no : PySem.W.findIn K (.ref C) f = some none
  iC : PySem.W.findIn K (.ref C) "__init__" = some (some (.ref (He.ma K C "__init__")))
  tI : PySem.W.typeIn K (.ref (He.ma K C "__init__")) = some (.type "function")
  ec : ExcC K C
theorem exB_ok {K : PySem.W.Frag} {C : Addr} {f : Str} (h : exB K C f = true) : ExC K C f := by
  unfold exB at h
  simp only [Bool.and_eq_true, decide_eq_true_eq] at h
  obtain ⟨⟨⟨⟨h1, ⟨⟨h2, h3⟩, h4⟩, h5⟩, ⟨h6, h7⟩, h8⟩, ⟨h9, h10⟩, h11⟩, ⟨⟨h12, h13⟩, h14⟩, h15⟩ := h
  refine ⟨⟨?_, h2, h3, h4, h5⟩, ⟨h6, h7, h3, h8⟩, h9, h10, h11, ⟨h6, h7, h3, h8, h12, h13, h14, h15⟩⟩
  split at h1
  · rename_i dd cd sl ho
    split at h1
    · rename_i D bm k0 k1 k2 k3 n k5 hm hs
      simp only [Bool.and_eq_true, beq_iff_eq, Bool.not_eq_true'] at h1
      obtain ⟨⟨⟨⟨rfl, rfl⟩, hdel⟩, hdc⟩, hr⟩ := h1
      obtain ⟨nm, bs, mro, ns, qn, hd, sn, sub, ab, col, del⟩ := cd
      dsimp only at hm hdel hdc
      subst hm hdel hdc
      have hsl : sl = #[k0, k1, k2, k3, some (.builtin "ValueError.__new__"), k5] := by
        obtain ⟨l⟩ := sl
        simp only at hs
        rw [hs]
      subst hsl
      exact ⟨nm, qn, ns, bs, bm, sn, sub, ab, col, dd, k0, k1, k2, k3, k5, ho, hr⟩
    · cases h1
  · cases h1
/-- __init__(self, v): self.f = v -/
def spXi (C : Addr) (f : Str) : Sp := fun vs H Q _ => ∃ a v, vs = [.ref a, v] ∧ H a = some (exo a C none) ∧ ∀ dx, H dx = none → dx ≠ a → Q .non (upd (upd H dx (exd dx [(f, v)])) a (exo a C (some dx)))
/-- raise C(e) -/
def tRaiseI (C : Addr) (f : Str) (E : XK) (ta : TA) : TS := fun _ σ H => ta σ H fun vs H1 => ∃ v, vs = [v] ∧ ∀ d, H1 d = none → E (.ref C) (some d) (upd H1 d (.xd [(f, v)]))
section
variable {X : Cx} {es : List Expr} {ta : TA}
/-- arguments, what they give weakened -/
def upA (ta : TA) : TA := fun σ H Q => ∃ R : List V → Hp → Prop, ta σ H R ∧ ∀ vs H1, R vs H1 → Q vs H1
theorem pa_up (h : PA X es ta) : PA X es (upA ta) := ⟨fun pos pins s σ H Q I ⟨R, hR, hQ⟩ => thn (h.run pos pins s σ H R I hR) fun us s1 ⟨vs, H1, I1, r, q⟩ => ⟨vs, H1, I1, r, hQ vs H1 q⟩⟩
theorem xd_heap {H : Hp} {a d : Addr} {o u : HO} {z : HO} (ha : H a = none) (hd : d ≠ a) : upd (del (upd (upd (upd H a o) d u) a z) a) d (.xd fs) = upd H d (.xd fs) := by
  funext b
  by_cases h1 : b = d
  · rw [h1, upd_same, upd_same]
  · rw [upd_ne h1, upd_ne h1]
    by_cases h2 : b = a
    · rw [h2, del_same, ha]
    · rw [del_ne h2, upd_ne h2, upd_ne h1, upd_ne h2]
theorem mk_read {C : Addr} {f : Str} {E : XK} {σ : L2.St} {H : Hp} (h : ta σ H fun vs H1 => ∃ v, vs = [v] ∧ ∀ d, H1 d = none → E (.ref C) (some d) (upd H1 d (.xd [(f, v)]))) :
    tMkO C (spXi C f) [] (upA ta) σ H fun cls d H' => E cls d H' := by
  refine ⟨_, h, fun vs H1 ⟨v, e, k⟩ => ?_⟩
  subst e
  refine ⟨by show 1 ≤ 1000; decide, fun a ha => ⟨a, v, rfl, upd_same, fun dx hdx hne => ⟨rfl, dx, [(f, v)], upd_same, by rw [upd_ne hne, upd_same], ?_, ?_⟩⟩⟩
  · rw [upd_ne hne] at hdx
    exact hdx
  · rw [xd_heap ha hne]
    rw [upd_ne hne] at hdx
    exact k dx hdx
theorem ps_raiseI {C : Addr} {f x : Str} {k : Nat} {E : XK} {e : Expr} {p pos pos' : Pos} (T : ExC X.K C f) (hm : X.mg x = some (.ref C))
    (F : FnOk X.prog X.w X.K X.mg X.base CX0 k (He.ma X.K C "__init__") (fdOf X.K (He.ma X.K C "__init__")) ["self", f] (spXi C f)) (b : Binds X.K (fdOf X.K (He.ma X.K C "__init__")) ["self", f] []) (hr : Room (k + 1) X.A) (hg : Gl X x) (hc : X.calm = true)
    (tk : Takes X fun cls d _ H => E cls d H) (ha : PA X (e :: es) ta) (hdb : (x == ("__debug__" : Str)) = false := by decide) (he : starEach (e :: es) X.env = (false, eval e X.env) :: starEach es X.env := by rfl) (hpl : (backTo pos (starEach es X.env)).any (·.1) = false := by rfl) :
    PS X (.Raise (some (.Call (.Name x p) (e :: es) [] pos)) none pos') (tRaiseI C f E ta) := by
  have h := ps_raise (pos := pos') hc tk (pmk_oex (p := p) (pos := pos) (dvs := []) T.oex T.iC T.tI F hr b .nil (pass0 : Passes CX0 X E0) hg hm (pa_up ha) hdb he hpl)
  exact ⟨fun pins s σ H D I q => h.run pins s σ H D I (mk_read q)⟩
end
/-- isinstance(e, c) of a caught error with fields -/
theorem call_isEf {X : Cx} {a D dd : Addr} {oe : Obj} {pn : List (Addr × Obj)} {fs : List (Str × V)} (C : ExcC X.K D) (hz : Zc (.ref D) (some dd) oe) (hf : ∃ vs, oe.data = .fields vs) :
    CallR (X.suite a ((a, oe) :: pn)) (.builtin "isinstance") (fun xs H Q => (∃ fs, H dd = some (.xd fs)) ∧ rIsE X.K D a xs H Q) := by
  intro pins s σ H xs us Q I r h
  obtain ⟨⟨fs, hd0⟩, c, cv, b, rfl, hcv, e, q⟩ := h
  cases r with
  | cons rx rr =>
    cases rr with
    | cons rt rr =>
      cases rr
      cases rx
      have ec := hcv _ rt
      subst ec
      obtain ⟨hget, _⟩ := I.pin (a, oe) (List.mem_append.mpr (.inl List.mem_cons_self))
      obtain ⟨vs, hv⟩ := hf
      obtain ⟨mA, ⟨od, es, ep, ho, _⟩, _⟩ := (show ObjOk X.prog X.w H s.heap dd (.xd fs) from I.hok dd _ hd0)
      have J : PySem.W.InstAt s.heap a oe D (some od) := by
        obtain ⟨oc, od', oda, osl⟩ := oe
        obtain ⟨h1, h2⟩ := hz
        dsimp only at h1 h2 hv
        subst h1 h2 hv
        exact ⟨hget, rfl, rfl, ho⟩
      exact PySem.W.kia_one (PySem.W.y_kitx C.hg C.hk C.hs C.hd C.ha C.hn C.ht C.hm) I.kIn ⟨od, J⟩ e (fun z => nomatch z) fun tk => ⟨.bl b, H, I.kept (t' := tk) fun _ _ z => z, rfl, q⟩
end Y

namespace Y
open PySem PySem.Spec PyProof.Rows L2
/-- a tuple times 1 is the tuple itself -/
theorem tuple_mul1 (l : Addr) (items : Array Value) (n : Nat) (dd : Option Addr) (sl : Array (Option Value)) (u : Tok) :
    Meets (Builtin.«tuple.__mul__» ⟨[.ref l, .int 1 u], []⟩) (fun _ R s => s.heap.get? l = some { cls := .type "tuple", dict := dd, data := .seq items n, slots := sl } ∧ R (.ok (.ret (Value.ref l))) s) :=
  .of_wp fun prog w A R s h => by
    obtain ⟨hp, g, d, tk, os⟩ := s
    obtain ⟨hl, h⟩ := h
    have c0 : (decide ((1 : Int) < -(2 ^ 63)) || decide ((1 : Int) ≥ 2 ^ 63)) = false := by decide
    have c1 : (items.isEmpty || ((1 : Int) == 1)) = true := by simp
    have f1 := AutoSeq1.idx_int
    wp_walk using wpAny_loadPart' hl
    repeat (first
      | (refine wpAny_ite_false (decide_eq_false (by rw [c0]; exact Bool.false_ne_true)) ?_; wp_walk using wpAny_loadPart' hl)
      | (refine wpAny_ite_true (decide_eq_true c1) ?_; wp_walk using wpAny_loadPart' hl))
    exact ⟨_, rfl, h⟩
end Y
namespace Y
open PySem PySem.Spec PyProof.Rows L2
/-- tuple * int, from 1 on -/
def rRepU (K : PySem.W.Frag) : R2 := fun x y H Q => rRepT K x y H Q ∨ ∃ l xs, x = .ref l ∧ y = .int 1 ∧ SqT K H l xs ∧ Q (.ref l) H
def rRepS : R2 := fun x y H Q => ∃ z k, x = .str z ∧ y = .int k ∧ 2 ≤ k ∧ k ≤ 1000 ∧ 1 ≤ z.length ∧ z.length ≤ 1000 ∧ Q (.str ⟨(List.replicate k.toNat z.cps).foldl (· ++ ·) #[]⟩) H
section
variable {X : Cx} {K : PySem.W.Frag}
theorem op_repU (hK : X.K = K) : OpR X (binaryOp .Mult) (rRepU K) := by
  subst hK
  intro pins s σ H x y v u Q I rx ry h
  rcases h with h | ⟨l, xs, rfl, rfl, hT, q⟩
  · exact op_repT pins s σ H x y v u Q I rx ry h
  · cases rx
    obtain ⟨t, rfl⟩ := ry
    obtain ⟨its, r, ⟨⟨cls, dd, data, sl⟩, ho, hc, n, hd⟩, hs⟩ := I.tuple hT
    simp only at hc hd
    subst hc hd
    refine wpAny_binaryOp_repeat_ref (T := "tuple") (U := "int") (by decide) ⟨_, ho, rfl⟩ (fun s' => typeIs_int s' 1 t) noFill_tuple_mul F.fills_int_mul F.slot_int_rmul repeat_tuple F.slot_int_index.lookup
      (call_meets F.slot_int_rmul (typeIs_int s 1 t) F.entry_int_rmul (F.args_int_rmul_2 _ _) (int_rmul_tuple 1 t l its.toArray n dd sl)
        ⟨ho, rfl, ⟨_, ho, rfl⟩, call_meets F.slot_tuple_mul ⟨_, ho, rfl⟩ F.entry_tuple_mul (F.args_tuple_mul_2 _ _) (tuple_mul1 l its.toArray n dd sl t) ⟨ho, ?_⟩⟩)
    exact ⟨.ref l, H, I, rfl, q⟩
theorem rep_size (c : Array Nat) : ∀ (n : Nat) (a : Array Nat), ((List.replicate n c).foldl (· ++ ·) a).size = a.size + n * c.size
  | 0, a => by simp
  | n + 1, a => by
    rw [List.replicate_succ, List.foldl_cons, rep_size c n, Array.size_append, Nat.succ_mul]
    omega
theorem op_repS : OpR X (binaryOp .Mult) rRepS := by
  intro pins s σ H x y v u Q I rx ry h
  obtain ⟨z, k, rfl, rfl, h1, h2, h3, h4, q⟩ := h
  obtain ⟨t, rfl⟩ := rx
  obtain ⟨t', rfl⟩ := ry
  have hb : z.length * k.toNat ≤ 1000000 := Nat.le_trans (Nat.mul_le_mul h4 (show k.toNat ≤ 1000 by omega)) (by decide)
  have e1 : ¬ k < 1 := by omega
  have e2 : ¬ (k == 1 || z.length == 0) = true := by simp; omega
  refine PySem.P.mul_str (by rw [decide_eq_false (by omega), decide_eq_false (by omega)]; rfl) (fun _ _ => ?_) (fun _ _ => ?_) ?_
  · have : (9223372036854775807 : Int) / k ≥ 9223372036854775807 / 1000 := by
      apply Int.le_ediv_of_mul_le (by omega)
      calc (9223372036854775807 : Int) / 1000 * k ≤ 9223372036854775807 / 1000 * 1000 := Int.mul_le_mul_of_nonneg_left h2 (by decide)
        _ ≤ 9223372036854775807 := by decide
    have : (2 ^ 63 - 1 : Int) / k ≥ 9223372036854775 := by
      show (9223372036854775807 : Int) / k ≥ _
      exact this
    omega
  · unfold Builtin.Str.tooLong
    rw [sizeLine_eq]
    exact decide_eq_false (by omega)
  · rw [if_neg e1, if_neg e2]
    refine ⟨?_, .str _, H, I.tok _, ⟨_, rfl⟩, q⟩
    show Array.size _ ≤ _
    rw [rep_size, sizeLine_eq]
    show 0 + k.toNat * z.length ≤ _
    rw [Nat.mul_comm] at hb
    omega
end
end Y

namespace Y
open PySem PySem.Spec PyProof.Rows L2
/-! ### a list that changes: read, stored -/
section
variable {K : PySem.W.Frag} {σ : L2.St} {G H H' G' : Hp} {Q : VK} {v x y : V} {d d' : PyData} {ds es : List PyData} {i : Int} {M : List Addr}
theorem g_ixM {p : Addr} {xs : List V} {k : Nat} (h : H p = some (.lst xs)) (hv : xs[k]? = some v) (hj : i = (k : Int)) (q : Q v H) : rIxL K (.ref p) (.int i) H Q := by
  subst hj
  exact ⟨p, xs, _, v, rfl, rfl, .of h, atI_nat hv, q⟩
theorem g_ixK {p : Addr} {xs : List V} {k : Nat} (e : Ex G H) (h : SqL K G p xs) (hv : xs[k]? = some v) (hj : i = (k : Int)) (q : Q v H) : rIxL K (.ref p) (.int i) H Q := by
  subst hj
  exact ⟨p, xs, _, v, rfl, rfl, e.seqL h, atI_nat hv, q⟩
theorem g_lenK {p : Addr} {xs : List V} (e : Ex G H) (h : SqL K G p xs) (q : Q (.int (xs.length : Int)) H) : rLen K [.ref p] H Q := ⟨p, xs, rfl, .inl (e.seqL h), q⟩
theorem g_sub {to ti : TE} {t : TSet} {R : L2.St → Hp → Prop} (q : to σ H fun o H1 => ti σ H1 fun i H2 => t o i v H2 fun H3 => R σ H3) : gSub to ti t v σ H R := q
theorem g_setM {p : Addr} {xs : List V} {k : Nat} {R : Hp → Prop} (h : H p = some (.lst xs)) (hj : i = (k : Int)) (hk : k < xs.length) (q : R (upd H p (.lst (xs.set k v)))) : rSetL (.ref p) (.int i) v H R := by
  subst hj
  exact ⟨p, xs, _, k, rfl, rfl, h, Evl.ixN_nat hk, q⟩
/-- an item at a drawn place -/
theorem g_ixLn (e : Ex G H) (h : Dp K G x (.list ds)) (h0 : 0 ≤ i) (h1 : i < (ds.length : Int)) (q : ∀ v d, d ∈ ds → ds[i.toNat]? = some d → Dp K G v d → Q v H) : rIxL K x (.int i) H Q := by
  have hl : i.toNat < ds.length := by omega
  exact g_ixL e h (k := i.toNat) (d := ds[i.toNat]) (by simp [hl]) (by omega) fun v dv => q v _ (List.getElem_mem hl) (by simp [hl]) dv
theorem g_ixTn (e : Ex G H) (h : Dp K G x (.tuple ds)) (h0 : 0 ≤ i) (h1 : i < (ds.length : Int)) (q : ∀ v d, d ∈ ds → ds[i.toNat]? = some d → Dp K G v d → Q v H) : rIxT K x (.int i) H Q := by
  have hl : i.toNat < ds.length := by omega
  exact g_ixT e h (k := i.toNat) (d := ds[i.toNat]) (by simp [hl]) (by omega) fun v dv => q v _ (List.getElem_mem hl) (by simp [hl]) dv
theorem g_ixSn {s : Str} (hs : s.length ≤ sizeLine) (h0 : 0 ≤ i) (h1 : i < (s.length : Int)) (q : ∀ c, c ∈ s.cps.toList → Q (.str ⟨#[c]⟩) H) : rIxS (.str s) (.int i) H Q := by
  have hl : i.toNat < s.cps.toList.length := by rw [Array.length_toList]; show i.toNat < s.length; omega
  exact g_ixS hs (k := i.toNat) (c := s.cps.toList[i.toNat]) (by simp) (by omega) (q _ (List.getElem_mem hl))
theorem g_cat {p b : Addr} {xs zs : List V} (hp : H p = some (.lst xs)) (hb : H b = some (.lst zs)) (hl : xs.length + zs.length ≤ sizeLine) (e : Ex G H) (q : ∀ r H', Nx [] G H G H' → H r = none → H' r = some (.lst (xs ++ zs)) → G r = none → Q (.ref r) H') : rCat (.ref p) (.ref b) H Q :=
  ⟨p, b, xs, zs, rfl, rfl, hp, hb, hl, fun r hr => q r _ (Nx.own e hr) hr upd_same (e.free hr)⟩
theorem g_pop0 {p : Addr} {xs : List V} (hp : H p = some (.lst (v :: xs))) (hl : xs.length < 100000) (q : Q v (upd H p (.lst xs))) : rPopAt (.ref p) [.int 0] H Q :=
  ⟨p, v :: xs, 0, 0, v, rfl, rfl, hp, by decide, by decide, by simp [seqIndex?], rfl, q⟩
/-! ### tuples joined and cut -/
theorem g_catA (e : Ex G H) (hx : Dp K G x (.tuple ds)) (hy : Dp K G y (.tuple es)) (hz : ds.length + es.length ≤ sizeLine) (q : ∀ v G' H', Nx [] G H G' H' → Dp K G' v (.tuple (ds ++ es)) → Q v H') : rCatA K x y H Q := by
  obtain ⟨a, xs, rfl, ha, da⟩ := dp_tup hx
  obtain ⟨b, ys, rfl, hb, db⟩ := dp_tup hy
  refine ⟨a, b, xs, ys, rfl, rfl, e.seqT ha, e.seqT hb, by rw [dpAll_len da, dpAll_len db]; exact hz, fun hn => ?_, fun _ hn => ?_, fun _ _ p hp => ?_⟩
  · subst hn
    cases da
    exact q _ G H (Nx.refl e) hy
  · subst hn
    cases db
    rw [List.append_nil] at q
    exact q _ G H (Nx.refl e) hx
  · have h2 := nx_tup e (dpAll_app da db) hp
    exact q _ _ _ h2.1 h2.2
theorem cut_lo (xs : List V) (k : Nat) : cutV xs (some (k : Int)) none = xs.drop k := by
  unfold cutV
  rw [HT.sIx_nat, HT.sIx_none]
  by_cases h : k ≤ xs.length
  · rw [Nat.min_eq_left h, List.take_of_length_le (by rw [List.length_drop]; omega)]
  · rw [Nat.min_eq_right (by omega), List.drop_eq_nil_of_le (Nat.le_refl _), List.drop_eq_nil_of_le (by omega)]
    simp
theorem cut_hi (xs : List V) (k : Nat) : cutV xs none (some (k : Int)) = xs.take k := by
  unfold cutV
  rw [HT.sIx_nat, HT.sIx_none, List.drop_zero, Nat.sub_zero]
  by_cases h : k ≤ xs.length
  · rw [Nat.min_eq_left h]
  · rw [Nat.min_eq_right (by omega), List.take_of_length_le (Nat.le_refl _), List.take_of_length_le (by omega)]
theorem cut_all {xs : List V} {lo hi : Option Int} (h : HT.sIx xs.length 0 lo = 0 ∧ HT.sIx xs.length xs.length hi = xs.length) : cutV xs lo hi = xs := by
  unfold cutV
  rw [h.1, h.2, List.drop_zero, Nat.sub_zero, List.take_length]
theorem g_sl {r : V → Option Int → Option Int → Hp → VK → Prop} {te : TE} {tl th : TO} (q : te σ H fun x H1 => tl σ H1 fun l H2 => th σ H2 fun u H3 => r x l u H3 Q) : tSl r te tl th σ H Q := q
theorem g_noPart {R : Option Int → Hp → Prop} (q : R none H) : tNoPart σ H R := q
theorem g_part {t : TE} {R : Option Int → Hp → Prop} (q : t σ H fun x H1 => ∃ i, x = .int i ∧ R (some i) H1) : tPart t σ H R := q
theorem g_isint {P : Int → Prop} (q : P i) : ∃ k, V.int i = .int k ∧ P k := ⟨i, rfl, q⟩
theorem g_slAll {lo hi : Option Int} (e : Ex G H) (hx : Dp K G x (.tuple ds)) (hc : ∀ xs : List V, DpAll K G xs ds → DpAll K G (cutV xs lo hi) es) (q : ∀ v G' H', Nx [] G H G' H' → Dp K G' v (.tuple es) → Q v H') : rSlA K x lo hi H Q := by
  obtain ⟨a, xs, rfl, ha, da⟩ := dp_tup hx
  have dc := hc xs da
  refine ⟨a, xs, rfl, e.seqT ha, fun hw => ?_, fun _ p hp => ?_⟩
  · rw [cut_all hw] at dc
    exact q _ G H (Nx.refl e) (.tup ha dc)
  · have h2 := nx_tup e dc hp
    exact q _ _ _ h2.1 h2.2
theorem g_slHi {k : Nat} (e : Ex G H) (hx : Dp K G x (.tuple ds)) (hj : i = (k : Int)) (q : ∀ v G' H', Nx [] G H G' H' → Dp K G' v (.tuple (ds.take k)) → Q v H') : rSlA K x none (some i) H Q := by
  subst hj
  exact g_slAll e hx (fun xs da => by rw [cut_hi]; exact dpAll_take k da) q
theorem g_slLo {k : Nat} (e : Ex G H) (hx : Dp K G x (.tuple ds)) (hj : i = (k : Int)) (q : ∀ v G' H', Nx [] G H G' H' → Dp K G' v (.tuple (ds.drop k)) → Q v H') : rSlA K x (some i) none H Q := by
  subst hj
  exact g_slAll e hx (fun xs da => by rw [cut_lo]; exact dpAll_drop k da) q
theorem dpAll_rep {xs : List V} (h : DpAll K G xs ds) : ∀ n : Nat, DpAll K G (List.replicate n xs).flatten (List.replicate n ds).flatten
  | 0 => .nil
  | n + 1 => by
    rw [List.replicate_succ, List.flatten_cons, List.replicate_succ, List.flatten_cons]
    exact dpAll_app h (dpAll_rep h n)
theorem g_repU {k : Nat} (e : Ex G H) (hx : Dp K G x (.tuple ds)) (hn : ds ≠ []) (hk : 1 ≤ k ∧ k ≤ 1000) (hl : ds.length ≤ 1000) (hj : i = (k : Int)) (q : ∀ v G' H', Nx [] G H G' H' → Dp K G' v (.tuple (List.replicate k ds).flatten) → Q v H') : rRepU K x (.int i) H Q := by
  subst hj
  obtain ⟨a, xs, rfl, ha, da⟩ := dp_tup hx
  by_cases h1 : k = 1
  · subst h1
    refine .inr ⟨a, xs, rfl, rfl, e.seqT ha, q _ G H (Nx.refl e) ?_⟩
    simpa using hx
  · refine .inl ⟨a, _, xs, rfl, rfl, e.seqT ha, fun z => hn (by
      have := dpAll_len da
      rw [z] at this
      exact List.eq_nil_of_length_eq_zero this.symm), by omega, by omega, by rw [dpAll_len da]; exact hl, fun p hp => ?_⟩
    have h2 := nx_tup e (dpAll_rep da k) hp
    exact q _ _ _ h2.1 h2.2

/-! ### the pool of a law: a drawn number, the script's own list, a place -/
def PoolAt (K : PySem.W.Frag) (a : Addr) (G H : Hp) : Prop := G a = none ∧ ∃ (x k : Int) (l : Addr) (ns : List Int), H a = some (.lst [.int x, .ref l, .int k]) ∧ SqL K G l (ns.map V.int) ∧ 0 ≤ x ∧ -1 ≤ k
theorem PoolAt.go {a : Addr} (p : PoolAt K a G H) (n : Nx M G H G' H') (ha : a ∉ M) : PoolAt K a G' H' := by
  obtain ⟨g, x, k, l, ns, h, hl, r⟩ := p
  exact ⟨n.old a g (by rw [h]; exact fun z => nomatch z), x, k, l, ns, n.fr a _ ha h, n.gg.seqL hl, r⟩
theorem PoolAt.live {a : Addr} (p : PoolAt K a G H) : H a ≠ none := by
  obtain ⟨_, _, _, _, _, h, _⟩ := p
  rw [h]; exact fun z => nomatch z
theorem PoolAt.upd {a A : Addr} {o : HO} (p : PoolAt K a G H) (h : A ≠ a) : PoolAt K a G (upd H A o) := by
  obtain ⟨g, x, k, l, ns, h1, hl, r⟩ := p
  exact ⟨g, x, k, l, ns, by rw [upd_ne h.symm]; exact h1, hl, r⟩
/-- a comprehension whose element draws -/
theorem g_lcPool {J : It} {te : TE} {tt : TT} {σ : L2.St} {a A : Addr} {j : Nat} (S : Src K [a] J G H ds) (e : Ex G H) (hA : H A = none) (hp : PoolAt K a G H) (hz : ds.length < sizeLine) (Jv : Nat → List PyData → Prop) (j0 : Jv 0 [])
    (hs : ∀ i d v acc G' H', ds[i]? = some d → Dp K G' v d → Nx [a] G H G' H' → PoolAt K a G' H' → acc.length ≤ i → Jv i acc → ∀ (QE : VK) (QN : Hp → Prop),
      (∀ y G4 H4 d', Nx [a] G' H' G4 H4 → PoolAt K a G4 H4 → Dp K G4 y d' → Jv (i + 1) (acc ++ [d']) → QE y H4) → (∀ G3 H3, Nx [a] G' H' G3 H3 → PoolAt K a G3 H3 → Jv (i + 1) acc → QN H3) →
      tt ((wipe σ [j]).set j (some v)) H' fun b H3 => if b = true then te ((wipe σ [j]).set j (some v)) H3 QE else QN H3)
    (hd : ∀ G' H' ys acc, Jv ds.length acc → Nx [a] G H G' H' → PoolAt K a G' H' → G' A = none → H' A = some (.lst ys) → DpAll K G' ys acc → Q (.ref A) H') : LcW J (gName j) tt te [j] σ A Q H :=
  g_lcG S e hA (fun b hb => by simp at hb; rw [hb]; exact hp.live) hz (PoolAt K a) hp (fun G' H' o p => by
    by_cases z : A = a
    · exact absurd hA (by rw [z]; exact hp.live)
    · exact p.upd z) (fun G' H' G1 H1 n p => p.go n (by simp)) Jv j0 hs hd
/-- the promise of a helper that draws: φ tells the value -/
def Drawn (K : PySem.W.Frag) (a : Addr) (G H : Hp) (Q : VK) (φ : Hp → V → Prop) : Prop := ∀ v G' H', Nx [a] G H G' H' → PoolAt K a G' H' → φ G' v → Q v H'
end
end Y

namespace Y
open PySem PySem.Spec PyProof.Rows L2
section
variable {X : Cx} {k : Nat} {ps : List Str} {sp : Sp} {W : WX} {x : Str} {p pos : Pos} {e : Expr} {es : List Expr} {t : TA}
/-- a call within a try's body -/
theorem pe_callSC (F : FnOk X.prog X.w X.K X.mg X.base (L2.CX X.prog X.w) k (He.ga X.K x) (fdOf X.K (He.ga X.K x)) ps sp) (c : Cal X.K X.mg x ps) (hr : Room k X.A) (hg : Gl X x) (tk : Takes X W)
    (ha : PA X (e :: es) t) (hdb : (x == ("__debug__" : Str)) = false := by decide) (he : starEach (e :: es) X.env = (false, eval e X.env) :: starEach es X.env := by rfl) (hpl : (backTo pos (starEach es X.env)).any (·.1) = false := by rfl) :
    PE X (.Call (.Name x p) (e :: es) [] pos) (tCallS sp (WE W) t) := pe_callS F hr hg c.g c.k c.b (fun σ => passAt tk σ) ha hdb he hpl
end
/-- isinstance(e, c) of the error that a suite holds -/
def rIsEo (K : PySem.W.Frag) (a : Addr) (cls : Value) (d : Option Addr) : List V → Hp → VK → Prop := fun xs H Q => ∃ (D dd : Addr) (fs : List (Str × V)) (c : V) (cv : Value) (b : Bool),
  cls = .ref D ∧ d = some dd ∧ H dd = some (.xd fs) ∧ ExcC K D ∧ xs = [.ref a, c] ∧ (∀ u, RelV c u → u = cv) ∧ PySem.W.kitOne K (.ref D) cv = some b ∧ Q (.bl b) H
theorem call_isEo {X : Cx} {a : Addr} {oe : Obj} {pn : List (Addr × Obj)} {cls : Value} {d : Option Addr} (hz : Zc cls d oe) (hf : ∃ vs, oe.data = .fields vs) : CallR (X.suite a ((a, oe) :: pn)) (.builtin "isinstance") (rIsEo X.K a cls d) := by
  intro pins s σ H xs us Q I r h
  obtain ⟨D, dd, fs, c, cv, b, rfl, rfl, h1, h2, h3, h4, h5, q⟩ := h
  exact call_isEf (fs := fs) h2 hz hf pins s σ H xs us Q I r ⟨⟨fs, h1⟩, c, cv, b, h3, h4, h5, q⟩
section
variable {K : PySem.W.Frag} {σ : L2.St} {H : Hp} {Q : VK}
theorem g_callS {sp : Sp} {E : L2.St → XK} {ar : TA} (q : ar σ H fun vs H1 => sp vs H1 Q (E σ)) : tCallS sp E ar σ H Q := q
theorem g_isE {a D dd C : Addr} {fs : List (Str × V)} {b : Bool} (h : H dd = some (.xd fs)) (hc : ExcC K D) (hk : PySem.W.kitOne K (.ref D) (.ref C) = some b) (q : Q (.bl b) H) : rIsEo K a (.ref D) (some dd) [.ref a, .ref C] H Q :=
  ⟨D, dd, fs, .ref C, .ref C, b, rfl, rfl, h, hc, rfl, fun u r => r, hk, q⟩
theorem g_xf {a C dd : Addr} {f : Str} {fs : List (Str × V)} {v : V} {i : Nat} (hv : σ[i]? = some (some (.ref a))) (h : H dd = some (.xd fs)) (hl : fs.lookup f = some v) (q : Q v H) : tXf a (.ref C) (some dd) C f (tVar i) σ H Q :=
  ⟨_, hv, rfl, rfl, dd, fs, v, rfl, h, hl, q⟩
end
end Y

namespace Y
open PySem PySem.Spec PyProof.Rows L2
/-! ### list(e.values()) -/
def rListVals : V → Hp → VK → Prop := fun x H Q => ∃ (d : Addr) (kvs : List (Key × V)), x = .ref d ∧ H d = some (.dK kvs) ∧ ∀ p, H p = none → Q (.ref p) (upd H p (.lst (kvs.map (·.2))))
def tListVals (te : TE) : TE := fun σ H Q => te σ H fun x H1 => rListVals x H1 Q
section
variable {X : Cx} {e : Expr} {te : TE} {p apos cpos pos : Pos}
theorem pe_listVals (hc : X.calm = true) (he : PE X e te) (hg : Gl X "list") (hm : X.mg "list" = none) (hv : bootBuiltins "list" = some (.type "list") := by decide +kernel) (hbase : attributeBase e "values" X.env (eval e X.env) = eval e X.env := by rfl) (hline : (apos.endLine == cpos.line) = true := by rfl)
    (hs : starEach [.Call (.Attribute e "values" apos) [] [] cpos] X.env = (false, eval (.Call (.Attribute e "values" apos) [] [] cpos) X.env) :: starEach [] X.env := by rfl) :
    PE X (.Call (.Name "list" p) [.Call (.Attribute e "values" apos) [] [] cpos] [] pos) (tListVals te) := by
  refine ⟨fun pins s σ H Q I hq => ?_⟩
  refine wpAny_Call_Name_kw (ld_blt I hg hm hv ?_)
  refine PyProof.Rows.callWith_type1 ?_ hs rfl
  rw [hs]
  show wpAny _ _ (spliced ((false, eval (.Call (.Attribute e "values" apos) [] [] cpos) X.env) :: backTo pos (starEach [] X.env))) _ _ s
  refine Calls.spliced_cons ?_
  refine wpAny_Call_method (T := "dict") (id := "dict.values") hbase rfl hline F.plainAttrs_dict F.slot_dict_values F.type_dict_values (thn (he.run pins s σ H _ I hq) fun u s1 ⟨x, H1, I1, rx, d, kvs, ex, hd, q⟩ => ?_)
  subst ex
  obtain rfl : u = Value.ref d := rx
  obtain ⟨hz, hs0, vs, kv, hdo⟩ := I1.hok d _ hd
  obtain ⟨ep, hat⟩ := hdo.dictAt
  have lk : kvs.length = vs.length := Paired.length kv
  have I2 : Inv X pins σ H1 { s1 with heap := s1.heap.push { cls := .type "dict_values", data := .fields #[.ref d] } } := I1.kept (t' := s1.toks) fun b ob q => Heap.get?_push_of_some _ q
  refine ⟨hdo.typeIs, hdo.mapOf.noDict, ?_⟩
  show wpAny _ _ (callWith cpos (.builtin "dict.values") [.ref d] [] []) _ X.xe s1
  refine method_meetsIn F.slot_dict_values F.entry_dict_values rfl (PySem.evalArgs_none ⟨rfl, hdo.typeIs, F.args_dict_values_1 _, _, meets_dict_values (mixKind X.prog X.w) d hs0, ⟨vs, hdo⟩, ?_⟩)
  refine Calls.spliced_nil ?_
  refine PySem.W.kdl_call (PySem.W.kdl_values (knd := mixKind X.prog X.w) (kvs := vs) (ep := ep)) (I1.ok.hd hc) ⟨⟨_, Heap.get?_push_size _ rfl, rfl, rfl⟩, hat.push _⟩ (by rw [← lk]; exact hz) fun h' tk acc c hk hS hacc => ?_
  refine ⟨.ref _, upd H1 _ (.lst (kvs.map (·.2))), I2.laid hk (Nat.le_refl _) (show ObjOk X.prog X.w _ _ _ (.lst (kvs.map (·.2))) from ⟨?_, acc.toList, c, ?_, ?_⟩), rfl, q _ (I2.hok.fresh (Nat.le_refl _))⟩
  · rw [List.length_map]; exact hz
  · have el : acc.toList.length = acc.size := by simp
    refine vals_of_at (by rw [List.length_map, el, hacc.1, lk]) fun j x w h1 h2 => ?_
    obtain ⟨k, hky⟩ := hacc.2 j w (by rw [← Array.getElem?_toList]; exact h2)
    obtain ⟨y, g1, g2⟩ := KV.at' kv hky
    rw [List.getElem?_map, g1] at h1
    cases h1
    exact g2
  · rw [Array.toArray_toList]; exact hS
end
end Y

namespace Y
open PySem PySem.Spec PyProof.Rows L2
/-! ### several except clauses, with names or without -/
abbrev HdT := Value × Option Nat × (Addr → Value → Option Addr → TS)
/-- the ends behind a named clause: the name is unbound -/
def endsAs (D : Ends) (i : Nat) : Ends := { nx := fun σ' H' => D.nx (σ'.set i none) H', rt := D.rt, bk := fun σ' H' => D.bk (σ'.set i none) H', ct := fun σ' H' => D.ct (σ'.set i none) H' }
def runA (D : Ends) (i : Option Nat) (t : TS) (a : Addr) (σ : L2.St) (H : Hp) : Prop := match i with
  | none => t D σ H
  | some i => t (endsAs D i) (σ.set i (some (.ref a))) H
def wManyA (K : PySem.W.Frag) (Wout : WX) (D : Ends) : List HdT → WX
  | [] => Wout
  | (c, i, ts) :: r => fun cls d σ H => ∃ b, PySem.W.exmOne K cls c = some b ∧ (b = true → ∀ a, H a = none → runA D i (ts a cls d) a σ H) ∧ (b = false → wManyA K Wout D r cls d σ H)
inductive HdsA (X : Cx) : List ExceptHandler → List HdT → Prop
  | nil : HdsA X [] []
  | cons {x : Str} {c : Value} {ts : Addr → Value → Option Addr → TS} {b₀ : Stmt} {suite : List Stmt} {np pos' : Pos} {hds : List ExceptHandler} {l : List HdT} (hc : Names X x c)
      (hsu : ∀ (a : Addr) (oe : Obj) (cls : Value) (d : Option Addr) (pn : List (Addr × Obj)), Zc cls d oe → (∃ vs, oe.data = .fields vs) → PSs (X.suite a ((a, oe) :: pn)) (b₀ :: suite) (ts a cls d)) (r : HdsA X hds l) :
      HdsA X (.ExceptHandler (some (.Name x np)) none (b₀ :: suite) pos' :: hds) ((c, none, ts) :: l)
  | as_ {x n : Str} {i : Nat} {c : Value} {ts : Addr → Value → Option Addr → TS} {b₀ : Stmt} {suite : List Stmt} {np pos' : Pos} {hds : List ExceptHandler} {l : List HdT} (hi : X.N[i]? = some n) (hln : X.env.kindOf n = some .local) (hc : Names X x c)
      (hsu : ∀ (a : Addr) (oe : Obj) (cls : Value) (d : Option Addr) (pn : List (Addr × Obj)), Zc cls d oe → (∃ vs, oe.data = .fields vs) → PSs (X.suite a ((a, oe) :: pn)) (b₀ :: suite) (ts a cls d)) (r : HdsA X hds l) :
      HdsA X (.ExceptHandler (some (.Name x np)) (some n) (b₀ :: suite) pos' :: hds) ((c, some i, ts) :: l)
section
variable {X : Cx} {body : List Stmt} {h₀ : ExceptHandler} {hds : List ExceptHandler} {l : List HdT} {pos : Pos} {tb : WX → TS} {Wout : WX}
theorem ps_try_manyA (hs : X.stack = X.env :: X.outer) (hf : X.env.frame = some X.env.locals) (hN : X.N.Nodup) (tk : Takes X Wout)
    (hb : ∀ (W : WX) (pn : List (Addr × Obj)) (xe : Value → Shared → Prop), Takes (X.tr pn xe) W → PassesOwn (model X.prog X.w) X.A X.env xe → PSs (X.tr pn xe) body (tb W))
    (hh : HdsA X (h₀ :: hds) l) : PS X (.Try body (h₀ :: hds) [] [] pos) (fun D σ H => tb (wManyA X.K Wout D l) D σ H) := by
  refine ⟨fun pins s σ H D I h => ?_⟩
  have ok := I.ok
  have hfr : X.A.frames = some (X.env :: X.outer) := by rw [ok.frames, hs]
  refine wpAny_Try_except ?_
  refine wpAny_mono ((hb (wManyA X.K Wout D l) (X.pn ++ pins) (fun e s₁ => wpAny (model X.prog X.w) X.A (noteFrame e X.env) (fun _ s₂ => wpAny (model X.prog X.w) X.A (setFlight e none) (fun _ s₃ =>
    wpAny (model X.prog X.w) X.A (handleBy e X.env (h₀ :: hds)) (SP X pins D) X.xe s₃) X.xe s₂) X.xe s₁) (fun u s' xx => ?_) PassesOwn.looking).run [] s σ H D (I.toTry _) h) (fun f s1 hsp => ?_) (fun e s1 he => he)
  · -- the catch
    obtain ⟨a, B, sI, pins', σ', H', cls, d, rfl, J', nb, up, sky, na, os, ag, w⟩ := xx
    have J : Inv X pins σ' H' sI := J'.ofTry ok
    have sky' : Sky B (X.env :: X.outer) a (Zc cls d) X.env.locals s'.heap := by rw [← hs]; exact sky
    show wpAny (model X.prog X.w) X.A (noteFrame (.ref a) X.env) _ _ _
    refine Sky.land Zc.steady hfr hf sky' fun h3 fl3 up3 => ?_
    have J3 : Inv X pins σ' H' { s' with heap := h3 } := J.landed nb fl3.1 (up.trans up3) os ag
    obtain ⟨oe3, vs3, he3, hz3, hd3⟩ := fl3.there
    have notFr : ∀ {h : Heap} {o : Obj} {vs : Array Value}, h.FunFrames B (X.env :: X.outer) → h.get? a = some o → o.data = .fields vs → a ∉ frs (X.env :: X.outer) := fun {h o vs} ff e dd hm => by
      obtain ⟨_, o', e', hnf⟩ := ff.mem hm
      rw [e] at e'; cases e'
      exact hnf _ dd
    have nfr := notFr fl3.2.2.1 he3 hd3
    have nL : a ≠ X.env.locals := fun z => nfr (List.mem_filterMap.mpr ⟨X.env, List.mem_cons_self, by rw [hf, z]⟩)
    have nF : a ∉ X.fs := fun hm => by
      obtain ⟨e, he, q⟩ := List.mem_filterMap.mp hm
      exact nfr (List.mem_filterMap.mpr ⟨e, List.mem_cons_of_mem _ he, q⟩)
    have S3 := J3.suite he3 hd3 na nL nF
    have LT : PySem.W.Looks (model X.prog X.w) h3 (typeOf (.ref a)) cls := fun A Q E s k q => wpAny_typeOf_ref (k _ _ he3) (by rw [hz3.1]; exact q)
    have test : ∀ {x : Str} {c : Value} {np : Pos} (hc : Names X x c) {Q : Value → Shared → Prop} {E : Value → Shared → Prop}, Q c { s' with heap := h3 } → wpAny (model X.prog X.w) (X.A.mark (some (.ref a))) (eval (.Name x np) X.env) Q E { s' with heap := h3 } := fun {x c np} hc {Q E} q => by
      obtain ⟨hg, hdbg, hm | ⟨hm, hv, hnn⟩⟩ := hc
      · exact ld_glob (X := X.suite a ((a, oe3) :: (X.pn ++ pins))) S3 hg hm q hdbg
      · exact ld_blt (X := X.suite a ((a, oe3) :: (X.pn ++ pins))) S3 hg hm hv q hnn hdbg
    have go : ∀ {hds' : List ExceptHandler} {l' : List HdT}, HdsA X hds' l' → wManyA X.K Wout D l' cls d σ' H' →
        wpAny (model X.prog X.w) X.A (handleBy (.ref a) X.env hds') (SP X pins D) X.xe { s' with heap := h3 } := by
      intro hds' l' hk
      induction hk with
      | nil =>
        intro w
        refine wpAny_handleBy_nil ?_
        obtain ⟨k1, k2, k3, oe, vs, T, oT, ts', he, hz, hd, h1, hr⟩ := id fl3
        unfold PySem.passOn
        refine wpAny_bind (wpAny_field he hd h1 ?_)
        rw [if_neg (show ¬ ((Value.ref T == Value.none) = true) from by simp)]
        have fin : wpAny (model X.prog X.w) X.A (setFlight (.ref a) X.env.frame) (fun _ s4 => wpAny (model X.prog X.w) X.A (throw (.ref a) : Sem Flow) (SP X pins D) X.xe s4) X.xe { s' with heap := h3 } := by
          rw [hf]
          refine HandSPX.setFlight_upZ fl3 fun h4 hh4 up4 => wpAny_throw (tk _ _ ?_)
          exact ⟨a, B, sI, pins, σ', H', cls, d, rfl, J, nb, (up.trans up3).trans up4, .inr (.inr (by rw [hs]; exact hh4)), na, os, ag, w⟩
        first
          | exact wpAny_bind (wpAny_pure (wpAny_bind fin))
          | exact wpAny_bind fin
      | @cons x c ts b₀ suite np pos' hds2 l2 hc hsu r ih =>
        intro w
        obtain ⟨b, hb1, hyes, hno⟩ := w
        refine wpAny_handleBy_cons (codeAny_handlers_test ?_) (by intro q; cases q)
        have LM := PySem.W.exm_one (M := model X.prog X.w) (J3.kIn) LT hb1
        refine test hc (LM.here ?_)
        cases b with
        | true =>
          refine codeAny_handlers_suite ?_
          refine HandSPX.lands_againZ fl3 fun h4 fl4 up4 => ?_
          have J4 : Inv X pins σ' H' { s' with heap := h4 } := J.landed nb fl4.1 ((up.trans up3).trans up4) os ag
          obtain ⟨oe4, vs4, he4, hz4, hd4⟩ := fl4.there
          have S4 := J4.suite he4 hd4 na nL nF
          refine wpAny_mono ((hsu a oe4 cls d (X.pn ++ pins) hz4 ⟨_, hd4⟩).run [] _ _ H' _ S4 (hyes rfl a na)) (fun f s6 hsp => ?_) (fun _ _ z => False.elim z)
          cases f with
          | next =>
            obtain ⟨σ6, H6, S6, q6⟩ := hsp
            exact ⟨_, _, S6.unsuite ok, q6⟩
          | brk =>
            obtain ⟨σ6, H6, S6, q6⟩ := hsp
            exact ⟨_, _, S6.unsuite ok, q6⟩
          | cont =>
            obtain ⟨σ6, H6, S6, q6⟩ := hsp
            exact ⟨_, _, S6.unsuite ok, q6⟩
          | ret u =>
            obtain ⟨v6, σ6, H6, S6, r6, q6⟩ := hsp
            exact ⟨_, _, _, S6.unsuite ok, r6, q6⟩
        | false =>
          show wpAny _ X.A (handleBy (.ref a) X.env hds2) _ _ _
          exact ih (hno rfl)
      | @as_ x n i c ts b₀ suite np pos' hds2 l2 hi hln hc hsu r ih =>
        intro w
        obtain ⟨b, hb1, hyes, hno⟩ := w
        refine wpAny_handleBy_cons (codeAny_handlers_test ?_) (by intro q; cases q)
        have LM := PySem.W.exm_one (M := model X.prog X.w) (J3.kIn) LT hb1
        refine test hc (LM.here ?_)
        cases b with
        | true =>
          refine codeAny_handlers_suite_as ?_
          refine HandSPX.lands_againZ fl3 fun h4 fl4 up4 => ?_
          have J4 : Inv X pins σ' H' { s' with heap := h4 } := J.landed nb fl4.1 ((up.trans up3).trans up4) os ag
          obtain ⟨oe4, vs4, he4, hz4, hd4⟩ := fl4.there
          have S4 := J4.suite he4 hd4 na nL nF
          refine store_ok (X := X.suite a ((a, oe4) :: (X.pn ++ pins))) (v := .ref a) S4 hN hi (.inl hln) rfl (fun s5 S5 => ?_) (.inr hln)
          refine wpAny_mono ((hsu a oe4 cls d (X.pn ++ pins) hz4 ⟨_, hd4⟩).run [] s5 _ H' _ S5 (hyes rfl a na)) (fun f s6 hsp => ?_) (fun _ _ z => False.elim z)
          have end_ : ∀ {σ6 : L2.St} {H6 : Hp} {Q : Shared → Prop}, Inv (X.suite a ((a, oe4) :: (X.pn ++ pins))) [] σ6 H6 s6 → (∀ s7, Inv X pins (σ6.set i none) H6 s7 → Q s7) →
              wpAny (model X.prog X.w) X.A (do bindName X.env n .none; unbindBehindTheSuite X.env n pos') (fun _ s7 => Q s7) X.xe s6 := fun {σ6 H6 Q} S6 hq => gone_ok (S6.unsuite ok) hN hi hln hq
          cases f with
          | next =>
            obtain ⟨σ6, H6, S6, q6⟩ := hsp
            exact end_ S6 fun s7 J7 => ⟨_, _, J7, q6⟩
          | brk =>
            obtain ⟨σ6, H6, S6, q6⟩ := hsp
            exact end_ S6 fun s7 J7 => ⟨_, _, J7, q6⟩
          | cont =>
            obtain ⟨σ6, H6, S6, q6⟩ := hsp
            exact end_ S6 fun s7 J7 => ⟨_, _, J7, q6⟩
          | ret u =>
            obtain ⟨v6, σ6, H6, S6, r6, q6⟩ := hsp
            exact end_ S6 fun s7 J7 => ⟨_, _, _, J7, r6, q6⟩
        | false =>
          show wpAny _ X.A (handleBy (.ref a) X.env hds2) _ _ _
          exact ih (hno rfl)
    exact go hh w
  · cases f with
    | next =>
      obtain ⟨σ', H', J', q⟩ := hsp
      exact wpAny_execs_nil ⟨σ', H', J'.ofTry ok, q⟩
    | brk =>
      obtain ⟨σ', H', J', q⟩ := hsp
      exact ⟨σ', H', J'.ofTry ok, q⟩
    | cont =>
      obtain ⟨σ', H', J', q⟩ := hsp
      exact ⟨σ', H', J'.ofTry ok, q⟩
    | ret u =>
      obtain ⟨v, σ', H', J', r, q⟩ := hsp
      exact ⟨v, σ', H', J'.ofTry ok, r, q⟩
end
end Y

namespace Y
open PySem PySem.Spec PyProof.Rows L2
/-! ### objects: methods and fields -/
def tMethS1 (C : Addr) (m : Str) (sp : Sp) (E : L2.St → XK) (ta : TE) (t : TA) : TE := fun σ H Q => ta σ H fun x H1 => ∃ a dx fs, x = .ref a ∧ H1 a = some (.ins C dx fs) ∧ fs.lookup m = none ∧ t σ H1 fun vs H2 => sp (.ref a :: vs) H2 Q (E σ)
section
variable {X : Cx} {CX : CXT} {k : Nat} {C : Addr} {ps : List Str} {sp : Sp} {E : XK} {m : Str} {f : Addr} {pos apos : Pos} {e o : Expr} {es : List Expr} {ta : TE} {t : TA}
theorem pe_methC {pl : Sem Bool} (he : PE X o ta) (c : Cls X.K C) (hm : Meth X.K C m f) (F : FnOk X.prog X.w X.K X.mg X.base CX k f (fdOf X.K f) ps sp) (hr : Room k X.A) (ca : CalM X.K f ps) (hx : Passes CX X E) (ha : PA X (e :: es) t)
    (hst : starEach (e :: es) X.env = (false, eval e X.env) :: starEach es X.env := by rfl) (hpl : (backTo pos (starEach es X.env)).any (·.1) = false := by rfl)
    (ht : eval (.Call (.Attribute o m apos) (e :: es) [] pos) X.env = (do
      let ov ← eval o X.env
      standAt apos.atName
      let (f, first) ← holding [ov] (getMethod ov m pl)
      callWith pos f first (backTo pos (starEach (e :: es) X.env)) (backToKw pos (keywordEach [] X.env))) := by rfl) :
    PE X (.Call (.Attribute o m apos) (e :: es) [] pos) (tMeth1 C m sp E ta t) := by
  refine ⟨fun pins s σ H Q I h => ?_⟩
  refine PySem.W.methodCall_KW (pl := pl) (thn (he.run pins s σ H _ I h) fun u s1 ⟨x, H1, I1, rx, a, dx, fs, ex, ea, l, q⟩ => ?_) ht
  subst ex
  obtain rfl : u = Value.ref a := rx
  refine getmeth_ok I1 ea c hm l ?_
  refine PySem.W.callWith_K (first := [.ref a]) (h₀ := X.base) I.ok.mod.kin hm.kp (thn (ha.run pos pins s1 σ H1 _ I1 q) fun us s2 ⟨vs, H2, I2, r, q2⟩ => ⟨I2.kIn, ?_⟩) hst hpl
  exact run_fn (us := .ref a :: us) (vs := .ref a :: vs) F hr ca.b .nil hx I2 (.cons rfl r) (by rw [List.append_nil]; exact q2)
theorem pe_meth0C {pl : Sem Bool} (he : PE X o ta) (c : Cls X.K C) (hm : Meth X.K C m f) (F : FnOk X.prog X.w X.K X.mg X.base CX k f (fdOf X.K f) ps sp) (hr : Room k X.A) (ca : CalM X.K f ps) (hx : Passes CX X E)
    (ht : eval (.Call (.Attribute o m apos) [] [] pos) X.env = (do
      let ov ← eval o X.env
      standAt apos.atName
      let (f, first) ← holding [ov] (getMethod ov m pl)
      callWith pos f first (backTo pos (starEach [] X.env)) (backToKw pos (keywordEach [] X.env))) := by rfl) :
    PE X (.Call (.Attribute o m apos) [] [] pos) (tMeth1 C m sp E ta tNil) := by
  refine ⟨fun pins s σ H Q I h => ?_⟩
  refine PySem.W.methodCall_KW (pl := pl) (thn (he.run pins s σ H _ I h) fun u s1 ⟨x, H1, I1, rx, a, dx, fs, ex, ea, l, q⟩ => ?_) ht
  subst ex
  obtain rfl : u = Value.ref a := rx
  refine getmeth_ok I1 ea c hm l ?_
  exact PySem.W.callWith_K0 (first := [.ref a]) I1.kIn hm.kp (run_fn (us := [.ref a]) (vs := [.ref a]) F hr ca.b .nil hx I1 (.cons rfl .nil) (by rw [List.append_nil]; exact q))
theorem pe_methCS {pl : Sem Bool} {E : L2.St → XK} (he : PE X o ta) (c : Cls X.K C) (hm : Meth X.K C m f) (F : FnOk X.prog X.w X.K X.mg X.base CX k f (fdOf X.K f) ps sp) (hr : Room k X.A) (ca : CalM X.K f ps) (hx : ∀ σ, PassesAt CX X σ (E σ)) (ha : PA X (e :: es) t)
    (hst : starEach (e :: es) X.env = (false, eval e X.env) :: starEach es X.env := by rfl) (hpl : (backTo pos (starEach es X.env)).any (·.1) = false := by rfl)
    (ht : eval (.Call (.Attribute o m apos) (e :: es) [] pos) X.env = (do
      let ov ← eval o X.env
      standAt apos.atName
      let (f, first) ← holding [ov] (getMethod ov m pl)
      callWith pos f first (backTo pos (starEach (e :: es) X.env)) (backToKw pos (keywordEach [] X.env))) := by rfl) :
    PE X (.Call (.Attribute o m apos) (e :: es) [] pos) (tMethS1 C m sp E ta t) := by
  refine ⟨fun pins s σ H Q I h => ?_⟩
  refine PySem.W.methodCall_KW (pl := pl) (thn (he.run pins s σ H _ I h) fun u s1 ⟨x, H1, I1, rx, a, dx, fs, ex, ea, l, q⟩ => ?_) ht
  subst ex
  obtain rfl : u = Value.ref a := rx
  refine getmeth_ok I1 ea c hm l ?_
  refine PySem.W.callWith_K (first := [.ref a]) (h₀ := X.base) I.ok.mod.kin hm.kp (thn (ha.run pos pins s1 σ H1 _ I1 q) fun us s2 ⟨vs, H2, I2, r, q2⟩ => ⟨I2.kIn, ?_⟩) hst hpl
  exact run_fnS (us := .ref a :: us) (vs := .ref a :: vs) F hr ca.b (hx σ) I2 (.cons rfl r) q2
end
def MthW (C : Addr) (m : Str) (R : Addr → Hp → Prop) (x : V) (H1 : Hp) : Prop := ∃ a dx fs, x = .ref a ∧ H1 a = some (.ins C dx fs) ∧ fs.lookup m = none ∧ R a H1
def FldW (K : PySem.W.Frag) (f : Str) (Q : VK) (x : V) (H1 : Hp) : Prop := ∃ a C dx fs v, x = .ref a ∧ H1 a = some (.ins C dx fs) ∧ Cls K C ∧ NoAttr K C f ∧ fs.lookup f = some v ∧ Q v H1
def SfdW (K : PySem.W.Frag) (f : Str) (y : V) (R : Hp → Prop) (x : V) (H2 : Hp) : Prop := ∃ a C dx fs, x = .ref a ∧ H2 a = some (.ins C dx fs) ∧ Cls K C ∧ NoAttr K C f ∧ fs.length < 1000 ∧ R (upd H2 a (.ins C dx (putF f y fs)))
section
variable {K : PySem.W.Frag} {σ : L2.St} {H : Hp} {Q : VK} {D : Ends} {C : Addr} {m f : Str} {sp : Sp} {E : XK} {ta tv : TE} {ar : TA} {dx : Addr} {a : Addr} {fs : List (Str × V)} {v y : V}
theorem g_meth (q : ta σ H fun x H1 => MthW C m (fun a H2 => ar σ H2 fun vs H3 => sp (.ref a :: vs) H3 Q E) x H1) : tMeth1 C m sp E ta ar σ H Q := q
theorem g_methS {E : L2.St → XK} (q : ta σ H fun x H1 => MthW C m (fun a H2 => ar σ H2 fun vs H3 => sp (.ref a :: vs) H3 Q (E σ)) x H1) : tMethS1 C m sp E ta ar σ H Q := q
theorem g_fld (q : ta σ H fun x H1 => FldW K f Q x H1) : tFld K ta f σ H Q := q
theorem g_sfd (q : tv σ H fun y H1 => ta σ H1 fun x H2 => SfdW K f y (fun H3 => D.nx σ H3) x H2) : sFld K ta tv f D σ H := q
theorem g_mth {R : Addr → Hp → Prop} (h : H a = some (.ins C dx fs)) (hl : fs.lookup m = none) (q : R a H) : MthW C m R (.ref a) H := ⟨a, dx, fs, rfl, h, hl, q⟩
theorem g_fdW (h : H a = some (.ins C dx fs)) (c : Cls K C) (n : NoAttr K C f) (hl : fs.lookup f = some v) (q : Q v H) : FldW K f Q (.ref a) H := ⟨a, C, dx, fs, v, rfl, h, c, n, hl, q⟩
theorem g_sfW {R : Hp → Prop} (h : H a = some (.ins C dx fs)) (c : Cls K C) (n : NoAttr K C f) (hl : fs.length < 1000) (q : R (upd H a (.ins C dx (putF f y fs)))) : SfdW K f y R (.ref a) H := ⟨a, C, dx, fs, rfl, h, c, n, hl, q⟩
end
theorem g_nbool {b : Bool} {A B : Prop} {i : Decidable ((!b) = true)} (h1 : b = false → A) (h2 : b = true → B) : @ite Prop ((!b) = true) i A B := by
  cases b with
  | true => rw [if_neg (by simp)]; exact h2 rfl
  | false => rw [if_pos (by simp)]; exact h1 rfl
/-! ### dicts -/
def DInW (Q : VK) (y x : V) (H : Hp) : Prop := ∃ a o, x = V.ref a ∧ DGet H a y o ∧ Q (V.bl (Option.isSome o)) H
def DNiW (Q : VK) (y x : V) (H : Hp) : Prop := ∃ a o, x = V.ref a ∧ DGet H a y o ∧ Q (V.bl (!Option.isSome o)) H
def DGeW (Q : VK) (x y : V) (H : Hp) : Prop := ∃ a v, x = V.ref a ∧ DGet H a y (some v) ∧ Q v H
def DPuW (R : Hp → Prop) (v x y : V) (H : Hp) : Prop := ∃ a H4, x = V.ref a ∧ DPut H a y v H4 ∧ R H4
def DDeW (R : Hp → Prop) (x y : V) (H : Hp) : Prop := ∃ a kvs k, x = V.ref a ∧ H a = some (HO.dK kvs) ∧ y = kV k ∧ (valV kvs k).isSome = true ∧ R (upd H a (HO.dK (dropK kvs k)))
section
variable {K : PySem.W.Frag} {σ : L2.St} {H : Hp} {Q : VK} {D : Ends} {td ty tv te : TE} {d : Addr} {kvs : List (Key × V)} {s : Str} {v : V}
theorem g_din (q : ty σ H fun y H1 => td σ H1 fun x H2 => DInW Q y x H2) : tDIn ty td σ H Q := q
theorem g_dni (q : ty σ H fun y H1 => td σ H1 fun x H2 => DNiW Q y x H2) : tDNotIn ty td σ H Q := q
theorem g_dge (q : td σ H fun x H1 => ty σ H1 fun y H2 => DGeW Q x y H2) : tDGet td ty σ H Q := q
theorem g_dpu (q : tv σ H fun v H1 => td σ H1 fun x H2 => ty σ H2 fun y H3 => DPuW (fun H4 => D.nx σ H4) v x y H3) : sDPut td ty tv D σ H := q
theorem g_dde (q : td σ H fun x H1 => ty σ H1 fun y H2 => DDeW (fun H4 => D.nx σ H4) x y H2) : sDDel td ty D σ H := q
theorem g_lvs (q : te σ H fun x H1 => rListVals x H1 Q) : tListVals te σ H Q := q
theorem g_new (q : ∀ p, H p = none → Q (.ref p) (upd H p (.dK []))) : tDNewK σ H Q := q
theorem g_dinW (h : H d = some (.dK kvs)) (q : Q (.bl (valV kvs (Sum.inr s : Key)).isSome) H) : DInW Q (.str s) (.ref d) H := ⟨d, _, rfl, .inl ⟨kvs, .inr s, .inl h, rfl, rfl⟩, q⟩
theorem g_dniW (h : H d = some (.dK kvs)) (q : Q (.bl (!(valV kvs (Sum.inr s : Key)).isSome)) H) : DNiW Q (.str s) (.ref d) H := ⟨d, _, rfl, .inl ⟨kvs, .inr s, .inl h, rfl, rfl⟩, q⟩
theorem g_dgeW (h : H d = some (.dK kvs)) (hv : valV kvs (Sum.inr s : Key) = some v) (q : Q v H) : DGeW Q (.ref d) (.str s) H := ⟨d, v, rfl, .inl ⟨kvs, .inr s, .inl h, rfl, hv.symm⟩, q⟩
theorem g_ddeW {R : Hp → Prop} (h : H d = some (.dK kvs)) (hv : (valV kvs (Sum.inr s : Key)).isSome = true) (q : R (upd H d (.dK (dropK kvs (Sum.inr s : Key))))) : DDeW R (.ref d) (.str s) H := ⟨d, kvs, .inr s, rfl, h, rfl, hv, q⟩
end
/-- raised from (G, H): an error of the class at C whose field f is z -/
def RaX (C : Addr) (f : Str) (z : V) (G H : Hp) (E : XK) : Prop := ∀ G' H' dd, Nx [] G H G' H' → H' dd = some (.xd [(f, z)]) → E (.ref C) (some dd) H'
theorem RaX.go {C : Addr} {f : Str} {z : V} {G H G1 H1 : Hp} {E : XK} (r : RaX C f z G H E) (n : Nx [] G H G1 H1) {dd : Addr} (hd : H1 dd = none) : E (.ref C) (some dd) (upd H1 dd (.xd [(f, z)])) := r G1 _ dd (n.trans (Nx.own n.gh hd)) upd_same
theorem RaX.trans {C : Addr} {f : Str} {z : V} {G H G1 H1 : Hp} {E : XK} (r : RaX C f z G H E) (n : Nx [] G H G1 H1) : RaX C f z G1 H1 E := fun G' H' dd n' h => r G' H' dd (n.trans n') h
/-- a list that stands, apart from what is known -/
def LstAt (K : PySem.W.Frag) (p : Addr) (G H : Hp) (L : List PyData) : Prop := ∃ vs, H p = some (.lst vs) ∧ G p = none ∧ DpAll K G vs L
section
variable {K : PySem.W.Frag} {p A : Addr} {G H G' H' G0 H0 : Hp} {L : List PyData} {M : List Addr} {o : HO}
theorem LstAt.go (r : LstAt K p G H L) (n : Nx M G H G' H') (hp : p ∉ M) : LstAt K p G' H' L := by
  obtain ⟨vs, h, g, d⟩ := r
  exact ⟨vs, n.fr p _ hp h, n.old p g (by rw [h]; exact fun z => nomatch z), dpAll_mono n.gg d⟩
theorem LstAt.upd (r : LstAt K p G H L) (h : A ≠ p) : LstAt K p G (upd H A o) L := by
  obtain ⟨vs, h1, g, d⟩ := r
  exact ⟨vs, by rw [upd_ne h.symm]; exact h1, g, d⟩
theorem LstAt.live (r : LstAt K p G H L) : H p ≠ none := by
  obtain ⟨vs, h1, _⟩ := r
  rw [h1]; exact fun z => nomatch z
/-- .. known from now on -/
theorem LstAt.know (r : LstAt K p G H L) (n : Nx M G0 H0 G H) (h : H0 p = none) : ∃ G', Nx M G0 H0 G' H ∧ Y.Ex G G' ∧ Dp K G' (.ref p) (.list L) := by
  obtain ⟨vs, h1, g, d⟩ := r
  exact ⟨_, n.know h h1 g, Ex.new g, .lst (.of upd_same) (dpAll_mono (Ex.new g) d)⟩
theorem Nx.sub {M' : List Addr} (a : Nx M' G H G' H') (h : ∀ x ∈ M', x ∈ M ∨ H x = none) : Nx M G H G' H' := ⟨a.gg, a.gh, a.old, a.live, fun c u hc q => a.fr c u (fun z => by
  rcases h c z with z | z
  · exact hc z
  · rw [z] at q; cases q) q⟩
theorem g_make0 {C : Addr} {sp : Sp} {E : XK} {σ : L2.St} {Q : VK} (q : ∀ x dx, H x = none → H dx = none → dx ≠ x → sp [.ref x] (L2.upd (L2.upd H dx (.own x)) x (.ins C dx [])) (fun v H2 => v = .non ∧ Q (.ref x) H2) E) : tMake C sp [] E tNil σ H Q := q
theorem nx_make {C x dx : Addr} (e : Y.Ex G H) (h1 : H x = none) (h2 : H dx = none) (h3 : dx ≠ x) : Nx [] G H G (L2.upd (L2.upd H dx (.own x)) x (.ins C dx [])) :=
  (Nx.own e h2).trans (Nx.own (e.out (e.free h2)) (by rw [upd_ne h3.symm]; exact h1))
theorem g_listM {x : V} {Q : VK} (e : Y.Ex G H) (h : Dp K G x (.list L)) (q : ∀ p H', Nx [] G H G H' → H p = none → LstAt K p G H' L → Q (.ref p) H') : rListOf K [x] H Q := by
  obtain ⟨a, vs, rfl, hs, hd⟩ := dp_lst h
  exact ⟨a, vs, rfl, .inl (e.seqL hs), fun l hl => q l _ (Nx.own e hl) hl ⟨vs, upd_same, e.free hl, hd⟩⟩
theorem g_listL {Q : VK} (e : Y.Ex G H) (h : LstAt K A G H L) (q : ∀ p H', Nx [] G H G H' → H p = none → LstAt K p G H' L → Q (.ref p) H') : rListOf K [.ref A] H Q := by
  obtain ⟨vs, hs, g, hd⟩ := h
  exact ⟨A, vs, rfl, .inl (.of hs), fun l hl => q l _ (Nx.own e hl) hl ⟨vs, upd_same, e.free hl, hd⟩⟩
end
def rDictC : List V → Hp → VK → Prop := fun xs H Q => ∃ a kvs, xs = [V.ref a] ∧ Rd H a (.dK kvs) ∧ ∀ (p : Addr), H p = none → Q (V.ref p) (upd H p (.dK kvs))
theorem call_dictC {X : Cx} : CallR X (.type "dict") rDictC := call_dictD
theorem g_dictC {H : Hp} {Q : VK} {a : Addr} {kvs : List (Key × V)} (h : H a = some (.dK kvs)) (q : ∀ p, H p = none → Q (.ref p) (upd H p (.dK kvs))) : rDictC [.ref a] H Q := ⟨a, kvs, rfl, .inl h, q⟩
theorem g_listDk {H : Hp} {Q : VK} {a : Addr} {kvs : List (Key × V)} (h : H a = some (.dK kvs)) (q : ∀ p, H p = none → Q (.ref p) (upd H p (.lst (kvs.map fun kv => kV kv.1)))) : rListD [.ref a] H Q := ⟨a, kvs, rfl, h, q⟩
theorem g_listVs {H : Hp} {Q : VK} {a : Addr} {kvs : List (Key × V)} (h : H a = some (.dK kvs)) (q : ∀ p, H p = none → Q (.ref p) (upd H p (.lst (kvs.map (·.2))))) : rListVals (.ref a) H Q := ⟨a, kvs, rfl, h, q⟩
def DelW (R : Hp → Prop) (x y : V) (H : Hp) : Prop := ∃ l xs i k, x = V.ref l ∧ y = V.int i ∧ H l = some (HO.lst xs) ∧ -2 ^ 63 ≤ i ∧ i < 2 ^ 63 ∧ seqIndex? i xs.length = some k ∧ R (upd H l (HO.lst (xs.eraseIdx k)))
theorem g_del {D : Ends} {σ : L2.St} {H : Hp} {to ti : TE} (q : to σ H fun x H1 => ti σ H1 fun y H2 => DelW (fun H3 => D.nx σ H3) x y H2) : tDelL to ti D σ H := q
theorem g_delW {R : Hp → Prop} {H : Hp} {l : Addr} {xs : List V} {i : Int} (h : H l = some (.lst xs)) (h0 : 0 ≤ i) (h1 : i < (xs.length : Int)) (hs : xs.length ≤ 100000) (q : R (upd H l (.lst (xs.eraseIdx i.toNat)))) : DelW R (.ref l) (.int i) H :=
  ⟨l, xs, i, i.toNat, rfl, rfl, h, by omega, by omega, by simp [seqIndex?, show ¬ i < 0 by omega, h0, h1], q⟩
section
variable {K : PySem.W.Frag} {G H : Hp} {Q : VK} {y : V} {a b s : Str}
theorem g_nin2 (e : Y.Ex G H) (h : Dp K G y (.tuple [.str a, .str b])) (q : Q (.bl (!(decide (a = s) || decide (b = s)))) H) : rIn K true (.str s) y H Q := by
  obtain ⟨p, xs, rfl, hs, hd⟩ := dp_tup h
  cases hd with
  | cons d1 t => cases t with
    | cons d2 t =>
      cases t; cases d1; cases d2
      refine ⟨p, _, rfl, .inr (e.seqT hs), rfl, rfl, ?_⟩
      have z : ∀ a : Str, (a == s) = decide (a = s) := fun a => by
        by_cases h : a = s
        · subst h; rw [decide_eq_true rfl]; exact beq_self_eq_true a
        · rw [decide_eq_false h]; exact beq_eq_false_iff_ne.mpr h
      have e2 : inV (.str s) [V.str a, V.str b] = (decide (a = s) || decide (b = s)) := by
        show (a == s || (b == s || false)) = _
        rw [z, z, Bool.or_false]
      rw [e2]
      exact q
/-- xs.index(s) for texts -/
theorem g_index {p : Addr} {ss : List Str} {j : Nat} (h : H p = some (.lst (ss.map V.str))) (hj : ss[j]? = some s) (hm : ∀ m, m < j → ss[m]? ≠ some s) (q : Q (.int (j : Int)) H) : rIndex K (.ref p) [.str s] H Q := by
  refine ⟨p, _, _, j, .str s, rfl, rfl, .of h, rfl, ?_, by rw [List.getElem?_map, hj]; rfl, beq_self_eq_true s, fun m z' hlt hz => ?_, q⟩
  · rw [List.all_map]
    exact List.all_eq_true.mpr fun _ _ => rfl
  · rw [List.getElem?_map] at hz
    obtain ⟨t, ht, rfl⟩ := Option.map_eq_some_iff.mp hz
    refine beq_eq_false_iff_ne.mpr fun z => hm m hlt ?_
    rw [ht, z]
end
theorem cutS_hi (z : Str) (k : Nat) : (cutS z none (some (k : Int))).cps.toList = z.cps.toList.take k := by
  unfold cutS
  rw [HT.sIx_nat, HT.sIx_none, List.drop_zero, Nat.sub_zero, List.toList_toArray]
  have hl : z.cps.toList.length = z.length := Array.length_toList
  by_cases h : k ≤ z.length
  · rw [Nat.min_eq_left h]
  · rw [Nat.min_eq_right (by omega), List.take_of_length_le (by omega), List.take_of_length_le (by omega)]
theorem dpAll_str_inv {K : PySem.W.Frag} {G : Hp} : ∀ {ns : List Str} {vs : List V}, DpAll K G vs (ns.map PyData.str) → vs = ns.map V.str
  | [], _, h => by cases h; rfl
  | n :: r, _, h => by
    cases h with
    | cons a t =>
      cases a
      rw [dpAll_str_inv t]; rfl
theorem dpAll_str {K : PySem.W.Frag} {G : Hp} : ∀ ns : List Str, DpAll K G (ns.map V.str) (ns.map PyData.str)
  | [] => .nil
  | n :: r => .cons (.str n) (dpAll_str r)
theorem rng_get {n i : Nat} {d : PyData} (h : (rng 0 n)[i]? = some d) : i < n ∧ d = .int (i : Int) := by
  have hl : i < n := by
    have := (List.getElem?_eq_some_iff.mp h).1
    simpa [rng] using this
  unfold rng at h
  rw [List.getElem?_map, List.getElem?_range hl] at h
  cases h
  exact ⟨hl, by simp⟩
theorem rng_len (n : Nat) : (rng 0 n).length = n := by simp [rng]
theorem take_get {xs : List PyData} {i : Nat} {d : PyData} (h : xs[i]? = some d) : xs.take (i + 1) = xs.take i ++ [d] := by
  rw [List.take_add_one, h]
  rfl
/-- a text among texts -/
theorem g_inS {K : PySem.W.Frag} {H : Hp} {Q : VK} {p : Addr} {ss : List Str} {t : Str} {neg : Bool} (h : SqL K H p (ss.map V.str)) (q : Q (.bl (if neg = true then !decide (t ∈ ss) else decide (t ∈ ss))) H) : rIn K neg (.str t) (.ref p) H Q := by
  refine ⟨p, _, rfl, .inl h, rfl, ?_, ?_⟩
  · rw [List.all_map]
    exact List.all_eq_true.mpr fun _ _ => rfl
  · have e : inV (.str t) (ss.map V.str) = decide (t ∈ ss) := by
      show (ss.map V.str).any (fun y => eqV y (.str t)) = _
      rw [List.any_map, Bool.eq_iff_iff, List.any_eq_true, decide_eq_true_eq]
      constructor
      · rintro ⟨x, hx, hx2⟩
        have : x = t := eq_of_beq hx2
        exact this ▸ hx
      · intro hx
        exact ⟨t, hx, beq_self_eq_true t⟩
    rw [e]
    exact q
theorem g_strI {H : Hp} {Q : VK} {i : Int} (h : i.natAbs.log2 < 1920) (q : Q (.str (toString i)) H) : rStrI [.int i] H Q := ⟨i, rfl, h, q⟩
theorem g_slS {H : Hp} {Q : VK} {z : Str} {lo hi : Option Int} (h : z.length ≤ sizeLine) (q : Q (.str (cutS z lo hi)) H) : rSlS (.str z) lo hi H Q := ⟨z, rfl, h, q⟩
theorem g_inSF {K : PySem.W.Frag} {H : Hp} {Q : VK} {p : Addr} {ss : List Str} {t : Str} (h : SqL K H p (ss.map V.str)) (q : Q (.bl (decide (t ∈ ss))) H) : rIn K false (.str t) (.ref p) H Q := g_inS h q
theorem g_inST {K : PySem.W.Frag} {H : Hp} {Q : VK} {p : Addr} {ss : List Str} {t : Str} (h : SqL K H p (ss.map V.str)) (q : Q (.bl (!decide (t ∈ ss))) H) : rIn K true (.str t) (.ref p) H Q := g_inS h q
theorem g_runS {D : Ends} {i : Nat} {t : TS} {a : Addr} {σ : L2.St} {H : Hp} (q : t (endsAs D i) (σ.set i (some (.ref a))) H) : runA D (some i) t a σ H := q
section
variable {H : Hp} {Q : VK} {l b : Addr} {xs zs : List V} {i : Int}
theorem g_popN (h : H l = some (.lst xs)) (h0 : 0 ≤ i) (h1 : i < (xs.length : Int)) (hs : xs.length ≤ 100000) (q : ∀ y, Q y (upd H l (.lst (xs.eraseIdx i.toNat)))) : rPopAt (.ref l) [.int i] H Q := by
  have hl : i.toNat < xs.length := by omega
  exact ⟨l, xs, i, i.toNat, xs[i.toNat], rfl, rfl, h, by omega, by omega, by simp [seqIndex?, show ¬ i < 0 by omega, h0, h1], by simp [hl], q _⟩
theorem g_clr (h : H l = some (.lst xs)) (q : Q .non (upd H l (.lst []))) : rClear (.ref l) [] H Q := ⟨l, xs, rfl, rfl, h, q⟩
theorem g_ext (h : H l = some (.lst xs)) (h2 : H b = some (.lst zs)) (hl : xs.length + zs.length ≤ sizeLine) (q : Q .non (upd H l (.lst (xs ++ zs)))) : rExtend (.ref l) [.ref b] H Q := ⟨l, b, xs, zs, rfl, rfl, h, h2, hl, q⟩
end
theorem depthAll_le {n : Nat} : ∀ {xs : List PyData}, (∀ d ∈ xs, d.depth ≤ n) → PyData.depthAll xs ≤ n
  | [], _ => by simp [PyData.depthAll]
  | x :: xs, h => by
    have h1 := h x (by simp)
    have h2 := depthAll_le (xs := xs) fun d hd => h d (by simp [hd])
    simp only [PyData.depthAll]
    omega
theorem depth_tup {n : Nat} {xs : List PyData} (h : ∀ d ∈ xs, d.depth ≤ n) : (PyData.tuple xs).depth ≤ n + 1 := by
  have := depthAll_le h
  simp only [PyData.depth]
  omega
theorem depth_lst {n : Nat} {xs : List PyData} (h : ∀ d ∈ xs, d.depth ≤ n) : (PyData.list xs).depth ≤ n + 1 := by
  have := depthAll_le h
  simp only [PyData.depth]
  omega
theorem shaped_lay {d : PyData} (h : SeqAt.shaped d = true) : d.canLay0 = true := by
  unfold SeqAt.shaped at h
  rw [Bool.and_eq_true] at h
  exact h.1
theorem LstAt.dp {K : PySem.W.Frag} {p : Addr} {G H : Hp} {L : List PyData} (r : LstAt K p G H L) (e : Y.Ex G H) : Dp K H (.ref p) (.list L) := by
  obtain ⟨vs, h, _, d⟩ := r
  exact .lst (.of h) (dpAll_mono e d)
/-- what is compared with itself -/
theorem g_neSame {K : PySem.W.Frag} {H : Hp} {x y : V} {d : PyData} {Q : VK} (h1 : Dp K H x d) (h2 : Dp K H y d) (s : SeqAt.shaped d = true) (q : Q (.bl false) H) : rNeD K x y H Q :=
  ⟨d, d, h1, h2, s, s, by rw [SeqAt.eqv_refl _ (shaped_lay s)]; exact q⟩
theorem g_neL {K : PySem.W.Frag} {G H : Hp} {a b : Addr} {L : List PyData} {Q : VK} (e : Y.Ex G H) (h1 : LstAt K a G H L) (h2 : LstAt K b G H L) (s : SeqAt.shaped (.list L) = true) (q : Q (.bl false) H) : rNeD K (.ref a) (.ref b) H Q :=
  g_neSame (h1.dp e) (h2.dp e) s q
/-- a loop over a range, all told by the invariant -/
theorem g_forR {g : TG} {tb : TS} {D : Ends} {σ : L2.St} {H : Hp} {n : Nat} (Pv : Nat → L2.St → Hp → Prop) (h0 : Pv 0 σ H)
    (hs : ∀ i σ' H', i < n → Pv i σ' H' → g (.int (i : Int)) σ' H' fun σ2 H2 => tb { D with nx := Pv (i + 1), ct := Pv (i + 1), bk := D.nx } σ2 H2) (hd : ∀ σ' H', Pv n σ' H' → D.nx σ' H') : ForW (Itr 0 n) g tb D σ H := by
  refine ⟨fun i m σ' H' => m = n - i ∧ i ≤ n ∧ Pv i σ' H', ⟨n, by simp, Nat.zero_le _, h0⟩, ?_⟩
  rintro i m σ' H' ⟨rfl, hi, p⟩
  by_cases hlt : i < n
  · refine .inr ⟨hlt, Pv (i + 1), fun σ3 H3 p3 => ⟨n - (i + 1), by omega, rfl, hlt, p3⟩, fun v H1 y => ?_⟩
    obtain ⟨rfl, rfl⟩ := y
    rw [Int.zero_add]
    exact hs i σ' _ hlt p
  · have e' : i = n := by omega
    subst e'
    exact .inl ⟨Nat.le_refl _, hd σ' H' p⟩
theorem nodup_le {α : Type} [DecidableEq α] : ∀ {xs ys : List α}, xs.Nodup → (∀ x ∈ xs, x ∈ ys) → xs.length ≤ ys.length
  | [], _, _, _ => Nat.zero_le _
  | x :: xs, ys, hn, hm => by
    rw [List.nodup_cons] at hn
    have hx : x ∈ ys := hm x (by simp)
    have ih := nodup_le (xs := xs) (ys := ys.erase x) hn.2 fun y hy => by
      have hne : y ≠ x := fun z => hn.1 (z ▸ hy)
      exact (List.mem_erase_of_ne hne).mpr (hm y (by simp [hy]))
    rw [List.length_erase_of_mem hx] at ih
    have : 0 < ys.length := List.length_pos_of_mem hx
    simp only [List.length_cons]
    omega
end Y

namespace Y
open PySem PySem.Spec PyProof.Rows L2
/-! ### texts as lists of signs -/
theorem str_ext {a b : Str} (h : a.cps.toList = b.cps.toList) : a = b := by
  cases a with
  | mk x => cases b with
    | mk y =>
      have : x = y := Array.toList_inj.mp h
      rw [this]
theorem lst_app (a b : Str) : (a ++ b).cps.toList = a.cps.toList ++ b.cps.toList := by
  show (a.cps ++ b.cps).toList = _
  simp
def glue (c : Nat) : List (List Nat) → List Nat
  | [] => []
  | [x] => x
  | x :: y :: r => x ++ c :: glue c (y :: r)
theorem join_lst (c : Nat) : ∀ ws : List Str, (Str.join ⟨#[c]⟩ ws).cps.toList = glue c (ws.map (·.cps.toList))
  | [] => rfl
  | [x] => rfl
  | x :: y :: r => by
    show (x ++ ⟨#[c]⟩ ++ Str.join ⟨#[c]⟩ (y :: r)).cps.toList = _
    rw [lst_app, lst_app, join_lst c (y :: r)]
    show (x.cps.toList ++ [c]) ++ _ = x.cps.toList ++ c :: _
    rw [List.append_assoc]
    rfl
theorem cut_inj {c : Nat} : ∀ {x y a b : List Nat}, c ∉ x → c ∉ y → x ++ c :: a = y ++ c :: b → x = y ∧ a = b
  | [], [], a, b, _, _, h => by
    simp only [List.nil_append, List.cons.injEq] at h
    exact ⟨rfl, h.2⟩
  | [], z :: y, a, b, _, h2, h => by
    simp only [List.nil_append, List.cons_append, List.cons.injEq] at h
    exact absurd (by rw [← h.1]; simp : c ∈ z :: y) h2
  | z :: x, [], a, b, h1, _, h => by
    simp only [List.nil_append, List.cons_append, List.cons.injEq] at h
    exact absurd (by rw [h.1]; simp : c ∈ z :: x) h1
  | z :: x, w :: y, a, b, h1, h2, h => by
    simp only [List.cons_append, List.cons.injEq] at h
    obtain ⟨e1, e2⟩ := cut_inj (fun m => h1 (by simp [m])) (fun m => h2 (by simp [m])) h.2
    exact ⟨by rw [h.1, e1], e2⟩
theorem glue_inj {c : Nat} : ∀ {A B : List (List Nat)}, A ≠ [] → B ≠ [] → (∀ p ∈ A, c ∉ p) → (∀ p ∈ B, c ∉ p) → glue c A = glue c B → A = B
  | [], _, h, _, _, _, _ => absurd rfl h
  | _ :: _, [], _, h, _, _, _ => absurd rfl h
  | [x], [y], _, _, _, _, h => by rw [show x = y from h]
  | [x], y :: z :: r, _, _, h1, _, h => by
    have : c ∈ x := by
      rw [show x = y ++ c :: glue c (z :: r) from h]
      simp
    exact absurd this (h1 x (by simp))
  | x :: y :: r, [z], _, _, _, h2, h => by
    have : c ∈ z := by
      rw [show z = x ++ c :: glue c (y :: r) from h.symm]
      simp
    exact absurd this (h2 z (by simp))
  | x :: y :: r, z :: w :: t, _, _, h1, h2, h => by
    obtain ⟨e1, e2⟩ := cut_inj (h1 x (by simp)) (h2 z (by simp)) (show x ++ c :: glue c (y :: r) = z ++ c :: glue c (w :: t) from h)
    rw [e1, glue_inj (by simp) (by simp) (fun p hp => h1 p (by simp at hp ⊢; exact .inr hp)) (fun p hp => h2 p (by simp at hp ⊢; exact .inr hp)) e2]
theorem map_cps_inj : ∀ {A B : List Str}, A.map (·.cps.toList) = B.map (·.cps.toList) → A = B
  | [], [], _ => rfl
  | [], _ :: _, h => by simp at h
  | _ :: _, [], h => by simp at h
  | a :: A, b :: B, h => by
    simp only [List.map_cons, List.cons.injEq] at h
    rw [str_ext h.1, map_cps_inj h.2]
theorem split_join (c : Nat) {ws : List Str} (h0 : ws ≠ []) (h : ∀ w ∈ ws, c ∉ w.cps.toList) : Txt.split (Str.join ⟨#[c]⟩ ws) ⟨#[c]⟩ = ws := by
  have hp := split_pos (Str.join ⟨#[c]⟩ ws) ⟨#[c]⟩
  refine map_cps_inj (glue_inj (c := c) (fun z => ?_) (fun z => h0 (List.map_eq_nil_iff.mp z)) (fun p hp => ?_) (fun p hp => ?_) ?_)
  · rw [List.map_eq_nil_iff] at z
    rw [z] at hp
    simp at hp
  · obtain ⟨q, hq, rfl⟩ := List.mem_map.mp hp
    exact StrLaws.split_free _ c q hq
  · obtain ⟨q, hq, rfl⟩ := List.mem_map.mp hp
    exact h q hq
  · rw [← join_lst, ← join_lst, StrLaws.join_split]
theorem join_eq (a : Str) (ys : List Str) : Txt.join a ys = Str.join a ys := StrLaws.glued_eq_join a ys
theorem emp_lst : Str.empty.cps.toList = [] := rfl
/-- each line with its end: joined, with one empty text behind -/
theorem ends_join (c : Nat) : ∀ ws : List Str, Str.join Str.empty (ws.map fun w => w ++ ⟨#[c]⟩) = Str.join ⟨#[c]⟩ (ws ++ [Str.empty])
  | [] => rfl
  | [x] => str_ext (by
    show (x ++ ⟨#[c]⟩).cps.toList = (x ++ ⟨#[c]⟩ ++ Str.empty).cps.toList
    simp only [lst_app, emp_lst, List.append_nil])
  | x :: y :: r => str_ext (by
    have ih := congrArg (fun s : Str => s.cps.toList) (ends_join c (y :: r))
    show (x ++ ⟨#[c]⟩ ++ Str.empty ++ Str.join Str.empty ((y :: r).map fun w => w ++ ⟨#[c]⟩)).cps.toList = (x ++ ⟨#[c]⟩ ++ Str.join ⟨#[c]⟩ ((y :: r) ++ [Str.empty])).cps.toList
    simp only [lst_app, emp_lst, List.append_nil] at ih ⊢
    rw [ih])
/-! ### numbers -/
def dig (c : Nat) : Bool := decide (48 ≤ c ∧ c ≤ 57)
def digs : List Nat → Bool
  | [] => false
  | c :: r => decide (r.length ≤ 8) && decide (c ≠ 48) && (c :: r).all dig
def numOk (w : Str) : Bool := match w.cps.toList with
  | [48] => true
  | 45 :: r => digs r
  | r => digs r
theorem digs_inv {r : List Nat} (h : digs r = true) : r ≠ [] ∧ r.length ≤ 9 ∧ r.all dig = true := by
  cases r with
  | nil => cases h
  | cons c r =>
    simp only [digs, Bool.and_eq_true, decide_eq_true_eq] at h
    exact ⟨by simp, by simp; omega, h.2⟩
theorem dig_dig {c : Nat} (h : dig c = true) : 48 ≤ c ∧ c ≤ 57 := by simpa [dig] using h
open PySem.NumText in
theorem fold_digs : ∀ (r : List Nat) (p : Array Nat × Bool), r.all dig = true → ∃ q : Array Nat × Bool, r.foldlM (NumText.step 10) p = some q ∧ (r ≠ [] → q.2 = true)
  | [], p, _ => ⟨p, rfl, fun h => absurd rfl h⟩
  | c :: r, p, h => by
    simp only [List.all_cons, Bool.and_eq_true] at h
    have hc := dig_dig h.1
    have e : NumText.step 10 p c = some (p.1.push (c - 48), true) := by
      have h1 : (c == 95) = false := by simp; omega
      have h2 : digit? c = some (c - 48) := by
        unfold digit?
        rw [if_pos (by simp; omega)]
      unfold NumText.step
      rw [h1, h2]
      have h3 : c - 48 < 10 := by omega
      simp [h3]
    obtain ⟨q, hq, hq2⟩ := fold_digs r (p.1.push (c - 48), true) h.2
    refine ⟨q, ?_, fun _ => ?_⟩
    · rw [List.foldlM_cons, e]
      exact hq
    · cases r with
      | nil =>
        have : some (p.1.push (c - 48), true) = some q := hq
        cases this
        rfl
      | cons d r => exact hq2 (by simp)
open PySem.NumText in
theorem digits_ok {r : List Nat} (h0 : r ≠ []) (h : r.all dig = true) : ∃ ds, digits? 10 r = some ds := by
  obtain ⟨q, hq, hq2⟩ := fold_digs r (#[], false) h
  refine ⟨q.1, ?_⟩
  unfold digits?
  rw [hq]
  show (if q.2 = true then some q.1 else none) = _
  rw [if_pos (hq2 h0)]
theorem blank_dig {c : Nat} (h : dig c = true) : NumText.blank c = false := by
  have := dig_dig h
  simp [NumText.blank]
  omega
theorem dropW_none {p : Nat → Bool} {l : List Nat} (h : ∀ c, l.head? = some c → p c = false) : l.dropWhile p = l := by
  cases l with
  | nil => rfl
  | cons c r => rw [List.dropWhile_cons, if_neg (by rw [h c rfl]; simp)]
open PySem.NumText in
theorem int_of {l r : List Nat} {b : Bool} {w : Str} (hl : w.cps.toList = l) (hlt : ∀ c ∈ l, 0 < c ∧ c < 128) (hb : ∀ c, l.head? = some c → blank c = false) (hs : sign l = (b, r)) (h0 : r ≠ []) (hr : r.all dig = true) (h9 : r.length ≤ 4300) : ∃ n, intText? w = some n := by
  have e1 : numTextOf w = l := by
    unfold numTextOf
    have : w.cps.all (· < 128) = true := by
      rw [← Array.all_toList, hl]
      exact List.all_eq_true.mpr fun c hc => decide_eq_true (hlt c hc).2
    rw [if_pos this, hl]
  have e2 : numSeenOf w = l := by
    unfold numSeenOf
    rw [e1]
    have : ∀ l : List Nat, (∀ c ∈ l, 0 < c) → l.takeWhile (· != 0) = l := by
      intro l
      induction l with
      | nil => intro _; rfl
      | cons c r ih =>
        intro h
        rw [List.takeWhile_cons, if_pos (by have := h c (by simp); simp; omega), ih fun x hx => h x (by simp [hx])]
    exact this l fun c hc => (hlt c hc).1
  have e3 : l.dropWhile blank = l := dropW_none hb
  have e4 : core l = r := by
    unfold core
    rw [e3, hs]
    show (r.reverse.dropWhile blank).reverse = r
    rw [dropW_none fun c hc => blank_dig (List.all_eq_true.mp hr c (List.mem_reverse.mp (List.mem_of_mem_head? hc))), List.reverse_reverse]
  obtain ⟨ds, hds⟩ := digits_ok h0 hr
  have hsz := digits_size hds
  unfold intText?
  rw [e1, e2, if_pos (beq_self_eq_true _), e4, hds]
  exact ⟨_, if_pos (by omega)⟩
theorem int_ok {w : Str} (h : numOk w = true) : ∃ n, intText? w = some n := by
  unfold numOk at h
  have pos : ∀ {r : List Nat}, r.all dig = true → ∀ c ∈ r, 0 < c ∧ c < 128 := fun hr c hc => by
    have := dig_dig (List.all_eq_true.mp hr c hc)
    omega
  split at h
  · rename_i e
    exact int_of (b := false) (r := [48]) e (by simp) (by intro c hc; cases hc; decide) rfl (by simp) (by decide) (by simp)
  · rename_i r e
    obtain ⟨h0, h9, hr⟩ := digs_inv h
    refine int_of (b := true) (r := r) e (fun c hc => ?_) (by intro c hc; cases hc; decide) rfl h0 hr (by omega)
    rcases List.mem_cons.mp hc with rfl | hc
    · omega
    · exact pos hr c hc
  · rename_i h48 h45
    obtain ⟨h0, h9, hr⟩ := digs_inv h
    refine int_of (b := false) (l := w.cps.toList) (r := w.cps.toList) rfl (pos hr) (fun c hc => blank_dig (List.all_eq_true.mp hr c (List.mem_of_mem_head? hc))) ?_ h0 hr (by omega)
    unfold NumText.sign
    split
    · rename_i r e
      rw [e] at hr
      simp [dig] at hr
    · rename_i r e
      rw [e] at hr
      simp [dig] at hr
    · rfl
def numV (w : Str) : Int := (intText? w).getD 0
theorem num_v {w : Str} (h : numOk w = true) : intText? w = some (numV w) := by
  obtain ⟨n, hn⟩ := int_ok h
  unfold numV
  rw [hn]
  rfl
/-! ### a list of parts, all of which are there -/
def allSome (f : PyData → Option PyData) : List PyData → Option (List PyData)
  | [] => some []
  | d :: r => match f d, allSome f r with
    | some a, some b => some (a :: b)
    | _, _ => none
theorem allSome_snoc {f : PyData → Option PyData} {d d' : PyData} (h : f d = some d') : ∀ {ds acc : List PyData}, allSome f ds = some acc → allSome f (ds ++ [d]) = some (acc ++ [d'])
  | [], acc, e => by
    simp only [allSome] at e
    cases e
    simp [allSome, h]
  | x :: r, acc, e => by
    simp only [allSome] at e
    cases hx : f x with
    | none => rw [hx] at e; cases e
    | some a =>
      rw [hx] at e
      cases hr : allSome f r with
      | none => rw [hr] at e; cases e
      | some b =>
        rw [hr] at e
        cases e
        show (match f x, allSome f (r ++ [d]) with | some a, some b => some (a :: b) | _, _ => none) = _
        rw [hx, allSome_snoc h hr]
        rfl
theorem allSome_none {f : PyData → Option PyData} {d : PyData} (h : f d = none) : ∀ {ds : List PyData}, d ∈ ds → allSome f ds = none
  | x :: r, hm => by
    rcases List.mem_cons.mp hm with e | hm
    · subst e; simp [allSome, h]
    · have := allSome_none h hm
      simp only [allSome]
      rw [this]
      cases f x <;> rfl
theorem fit_tuple {ds : List PyData} (h1 : ds.length ≤ 100000) (h : ∀ d ∈ ds, fit d = true) : fit (.tuple ds) = true := by rw [fit, decide_eq_true h1, Bool.true_and]; exact fitAll_iff.mpr h
/-! ### small numbers as texts -/
theorem small_num : ∀ n : Nat, n < 1000 → (numOk (toString (n : Int)) = true ∧ intText? (toString (n : Int)) = some (n : Int) ∧ Str.length (toString (n : Int)) ≤ 4) ∧ (n ≠ 0 → numOk (toString (-(n : Int))) = true ∧ intText? (toString (-(n : Int))) = some (-(n : Int)) ∧ Str.length (toString (-(n : Int))) ≤ 4) := by decide +kernel
theorem small_int {i : Int} (h : -999 ≤ i ∧ i ≤ 999) : numOk (toString i) = true ∧ intText? (toString i) = some i ∧ Str.length (toString i) ≤ 4 := by
  by_cases h0 : 0 ≤ i
  · have := (small_num i.toNat (by omega)).1
    rw [show ((i.toNat : Nat) : Int) = i by omega] at this
    exact this
  · have := (small_num (-i).toNat (by omega)).2 (by omega)
    rw [show -(((-i).toNat : Nat) : Int) = i by omega] at this
    exact this
theorem small_log {i : Int} (h : -999 ≤ i ∧ i ≤ 999) : i.natAbs.log2 < 1920 := Nat.lt_of_le_of_lt (Nat.log2_le_self _) (by omega)
theorem sum_le {n : Nat} : ∀ {xs : List Nat}, (∀ x ∈ xs, x ≤ n) → xs.sum ≤ n * xs.length
  | [], _ => Nat.zero_le _
  | x :: r, h => by
    have h1 := h x (by simp)
    have h2 := sum_le (xs := r) fun y hy => h y (by simp [hy])
    simp only [List.sum_cons, List.length_cons, Nat.mul_succ]
    omega
/-- a sign of a number -/
def numCh (c : Nat) : Bool := decide (c = 45) || dig c
theorem small_chr0 : ∀ n : Nat, n < 1000 → ((toString (n : Int) : Str).cps.toList.all numCh = true ∧ (toString (n : Int) : Str).cps.toList ≠ []) ∧ ((toString (-(n : Int)) : Str).cps.toList.all numCh = true ∧ (toString (-(n : Int)) : Str).cps.toList ≠ []) := by decide +kernel
theorem small_chr {i : Int} (h : -999 ≤ i ∧ i ≤ 999) : (toString i : Str).cps.toList.all numCh = true ∧ (toString i : Str).cps.toList ≠ [] := by
  by_cases h0 : 0 ≤ i
  · have := (small_chr0 i.toNat (by omega)).1
    rw [show ((i.toNat : Nat) : Int) = i by omega] at this
    exact this
  · have := (small_chr0 (-i).toNat (by omega)).2
    rw [show -(((-i).toNat : Nat) : Int) = i by omega] at this
    exact this
theorem numCh_ne {c : Nat} (h : numCh c = true) : c ≠ 10 ∧ c ≠ 32 ∧ c < 128 ∧ c ≠ 101 := by
  unfold numCh at h
  rcases (Bool.or_eq_true _ _).mp h with h | h
  · have := of_decide_eq_true h
    omega
  · have := dig_dig h
    omega
end Y

namespace Y
open PySem PySem.Spec PyProof.Rows L2
section
variable {P : Program} {w : World} {K : PySem.W.Frag} {mg : Str → Option Value} {base : Heap} {k : Nat} {f : Addr} {fd : FuncData} {ps : List Str} {sp : Sp}
/-- what is let out with an empty context is let out -/
theorem okN (F : FnOk P w K mg base (L2N.CX P w) k f fd ps sp) : FnOk P w K mg base (L2.CX P w) k f fd ps sp := by
  refine ⟨F.len, fun A outer s H args us vs Q E hr he hb hv hs => codeAny_mono (F.run A outer s H args us vs Q E hr he hb hv hs) fun r s' h => ?_⟩
  cases r with
  | ok fl => cases fl <;> exact h
  | error e =>
    obtain ⟨a, B, H', cls, d, e1, fl, more⟩ := h
    exact ⟨a, B, H', cls, d, e1, L2H.flyingZ_imp (fun o z => z.zc) fl, more⟩
end
section
variable {X : Cx} {es : List Expr} {ta : TA}
theorem passN {E : XK} (t : L2N.Takes X fun cls d _ H => E cls d H) : Passes (L2N.CX X.prog X.w) X E := fun pins σ H s u s' I c => L2N.passes_call (W := fun cls d _ H => E cls d H) t (fun _ _ _ _ z => z) pins σ H s u s' I c
/-- C(e, ..) made where nothing is handled: its context is empty -/
theorem pmk_oexN {CX : CXT} {x : Str} {e : Expr} {p pos : Pos} {C fI : Addr} {k : Nat} {fd : FuncData} {ps : List Str} {sp : Sp} (T : OexC X.K C) (iC : PySem.W.findIn X.K (.ref C) "__init__" = some (some (.ref fI))) (tI : PySem.W.typeIn X.K (.ref fI) = some (.type "function"))
    (F1 : FnOk X.prog X.w X.K X.mg X.base CX k fI fd ps sp) (hr : Room (k + 1) X.A) (bnd : Binds X.K fd ps []) (hx : Passes CX X (fun _ _ _ => False)) (hg : Gl X x) (hm : X.mg x = some (.ref C)) (ha : PA X (e :: es) ta)
    (hdb : (x == ("__debug__" : Str)) = false := by decide) (hst : starEach (e :: es) X.env = (false, eval e X.env) :: starEach es X.env := by rfl) (hpl : (backTo pos (starEach es X.env)).any (·.1) = false := by rfl) :
    L2N.PMk X (.Call (.Name x p) (e :: es) [] pos) (tMkO C sp [] ta) := by
  intro pins s σ H Q I q0
  obtain ⟨nm, qq, N, bs, bm, sn, sub, ab, col, dd, k0, k1, k2, k3, k5, hC, hbm⟩ := T.cls
  refine wpAny_Call_Name_kw (ld_glob I hg hm ?_ hdb)
  refine PySem.W.callWith_K (h₀ := X.base) I.ok.mod.kin T.kC (thn (ha.run pos pins s σ H _ I q0) fun us s1 ⟨vs, H1, J, r1, hz, q1⟩ => ⟨J.kIn, ?_⟩) hst hpl
  show wpAny _ _ (call (.ref C) us) _ _ _
  obtain ⟨hp, g, dr, tk, os⟩ := s1
  -- the new instance stands behind the tuple of its arguments
  obtain ⟨D, hD⟩ : ∃ D, D = hp.objs.size := ⟨_, rfl⟩
  obtain ⟨hp2, hhp2⟩ : ∃ h : Heap, h = (hp.push (PySem.W.kdv_tup us)).push (PySem.HandSPX.excO C hp.objs.size) := ⟨_, rfl⟩
  have le1 : hp.objs.size ≤ D + 1 := by omega
  have fr1 : H1 (D + 1) = none := J.hok.fresh le1
  have qs := q1 (D + 1) fr1
  rw [List.append_nil] at qs
  have old : ∀ b o, hp.get? b = some o → hp2.get? b = some o := fun b o z => by rw [hhp2]; exact Heap.get?_push_of_some _ (Heap.get?_push_of_some _ z)
  have it : hp2.get? (D + 1) = some (PySem.HandSPX.excO C hp.objs.size) := by rw [hhp2, hD]; heap_get
  have J2 : Inv X pins σ (upd H1 (D + 1) (exo (D + 1) C none)) ⟨hp2, g, dr, tk, os⟩ := J.laid (t' := tk) (a := D + 1) (o := exo (D + 1) C none) (h' := hp2) old le1 (exo_ok it)
  have rv : Vals (V.ref (D + 1) :: vs) (Value.ref (D + 1) :: us) := .cons rfl r1
  have ln : (Value.ref (D + 1) :: us ++ []).length = ps.length := by
    rw [List.append_nil, ← rv.length]
    exact F1.len _ _ _ _ qs
  have lu : us.length ≤ sizeLine := by
    have := Paired.length r1
    rw [sizeLine_eq]
    omega
  have bb := bnd _ (Value.ref (D + 1) :: us) J2.kIn ln
  rw [List.append_nil] at bb
  subst hD
  subst hhp2
  refine wpAny_call (PySem.HandSPX.call_own F.excBase_ValueError (fun Y => PySem.HandSPX.refsVE_contains Y bm hbm) (J.kIn _ _ hC) (PySem.W.looks_findIn J.kIn iC) (fun self => PySem.W.bind_fn J.kIn self tI) lu
    (codeAny_mono (F1.run _ X.stack _ _ ⟨Value.ref (hp.objs.size + 1) :: us, []⟩ (Value.ref (hp.objs.size + 1) :: us) _ _ (fun _ _ _ => False) (hr.make C us []) (J2.env0.make C us []) bb rv qs) fun r s' res => ?_))
  cases r with
  | error er => exact hx pins σ _ _ er s' J2 res
  | ok fl =>
    cases fl with
    | ret u =>
      obtain ⟨v, H2, o2, bare2, un2, hok2, rr, ev, d, fs, ea, ed, hd1, q2⟩ := res
      subst ev
      obtain ⟨h2, g2, d2, t2, os'⟩ := s'
      obtain ⟨t0, G, JJ, kG, ge, hoe, na⟩ := mk_end0 (d2 := d2) (t2 := t2) J le1 old un2 hok2 o2 bare2 ea ed hd1
      refine ⟨rr, hp.objs.size + 1, _, _, ⟨G, g2, d2, t2, os'⟩, _, .ref C, some d, rfl, JJ, kG, ge, hoe, ⟨rfl, rfl, fun ws hw => ?_⟩, rfl, rfl, na, rfl, bare2, raises_own T.exC T.tyC, q2⟩
      cases hw
      rfl
    | next => exact False.elim res
    | brk => exact False.elim res
    | cont => exact False.elim res
/-- raise C(e) where nothing is handled -/
theorem ps_raiseIN {C : Addr} {f x : Str} {k : Nat} {E : XK} {e : Expr} {p pos pos' : Pos} (T : ExC X.K C f) (hm : X.mg x = some (.ref C))
    (F : FnOk X.prog X.w X.K X.mg X.base CX0 k (He.ma X.K C "__init__") (fdOf X.K (He.ma X.K C "__init__")) ["self", f] (spXi C f)) (b : Binds X.K (fdOf X.K (He.ma X.K C "__init__")) ["self", f] []) (hr : Room (k + 1) X.A) (hg : Gl X x) (hc : X.calm = true)
    (tk : L2N.Takes X fun cls d _ H => E cls d H) (ha : PA X (e :: es) ta) (hdb : (x == ("__debug__" : Str)) = false := by decide) (he : starEach (e :: es) X.env = (false, eval e X.env) :: starEach es X.env := by rfl) (hpl : (backTo pos (starEach es X.env)).any (·.1) = false := by rfl) :
    PS X (.Raise (some (.Call (.Name x p) (e :: es) [] pos)) none pos') (tRaiseI C f E ta) := by
  have h := L2N.ps_raise (pos := pos') hc tk (pmk_oexN (p := p) (pos := pos) T.oex T.iC T.tI F hr b (pass0 : Passes CX0 X E0) hg hm (pa_up ha) hdb he hpl)
  exact ⟨fun pins s σ H D I q => h.run pins s σ H D I (mk_read q)⟩
/-- raise C(e) from None in an except suite -/
theorem ps_raiseIH {C : Addr} {f x : Str} {k j : Nat} {E : XK} {e : Expr} {p pos pos' cpos : Pos} (T : ExC X.K C f) (hm : X.mg x = some (.ref C))
    (F : L2H.FnH X.prog X.w X.K X.mg X.base CX0 k (He.ma X.K C "__init__") (fdOf X.K (He.ma X.K C "__init__")) ["self", f] (spXi C f)) (b : Binds X.K (fdOf X.K (He.ma X.K C "__init__")) ["self", f] []) (hr : L2H.RoomH (k + 1) X.A) (hg : Gl X x) (hc : L2H.HotC X)
    (tk : L2.Takes X fun cls d _ H => E cls d H) (ha : PA X (e :: es) ta) (hdb : (x == ("__debug__" : Str)) = false := by decide) (he : starEach (e :: es) X.env = (false, eval e X.env) :: starEach es X.env := by rfl) (hpl : (backTo pos (starEach es X.env)).any (·.1) = false := by rfl) :
    PS X (.Raise (some (.Call (.Name x p) (e :: es) [] pos)) (some (.Constant .none j cpos)) pos') (tRaiseI C f E ta) := by
  have h := L2H.ps_raiseHN (j := j) (cpos := cpos) (pos := pos') hc tk (L2H.pmk5_oexH (p := p) (pos := pos) T.oex T.iC T.tI F hr hc b (pass0 : Passes CX0 X E0) hg hm (pa_up ha) hdb he hpl)
  exact ⟨fun pins s σ H D I q => h.run pins s σ H D I (mk_read q)⟩
end
section
variable {P : Program} {w : World} {K : PySem.W.Frag} {mg : Str → Option Value} {base : Heap} {x qual : Str} {params : Arguments} {body : List Stmt} {scope : Scope} {dvs : List V} {kws : List (Str × V)} {f : Addr} {fd : FuncData}
theorem okH {CX : CXT} {N ps : List Str} {k : Nat} {sp : Sp} (F : FunD K x qual params body scope dvs kws f fd) (S : FnScope N ps scope) (len : ∀ vs H Q E, sp vs H Q E → vs.length = ps.length)
    (hbody : ∀ (cdv : Value) (A : Around) (outer : List Env) (s : Shared) (H : Hp) (vs : List V) (Q : VK) (E : XK) (p : Addr × Obj), sp vs H Q E →
      ∃ t, PSs (L2H.cxH CX P w K mg base N qual scope f cdv A outer s H E p) body t ∧ t { nx := fun _ H' => Q .non H', rt := Q } (start N vs) H) : L2H.FnH P w K mg base CX (k + 1) f fd ps sp := by
  obtain ⟨oc, od, dV, kV, doc, pm, an, cdv, ct, osl, rfl, lk, hcd, _, _⟩ := F.ex
  exact L2H.fn_ofH lk hcd S len fun A outer s H vs Q E p _ _ hsp => hbody cdv A outer s H vs Q E p hsp
end
/-! ### texts joined and split, made -/
def rSplit : V → List V → Hp → VK → Prop := fun x xs H Q => ∃ a b : Str, x = .str a ∧ xs = [.str b] ∧ (b.length == 0) = false ∧ a.length + 2 ≤ sizeLine ∧ rNewStrs (Txt.split a b) H Q
def rRmp : V → List V → Hp → VK → Prop := fun x xs H Q => ∃ a b : Str, x = .str a ∧ xs = [.str b] ∧ a.length ≤ sizeLine ∧ Q (.str (Txt.removeprefix a b)) H
def rStrS : List V → Hp → VK → Prop := fun xs H Q => ∃ a : Str, xs = [.str a] ∧ Q (.str a) H
def rStrA : List V → Hp → VK → Prop := fun xs H Q => rStrI xs H Q ∨ rStrS xs H Q
def rIntS : List V → Hp → VK → Prop := fun xs H Q => ∃ (a : Str) (n : Int), xs = [.str a] ∧ intText? a = some n ∧ a.length ≤ 640 ∧ Q (.int n) H
def tFs (ts : List TE) : TE := fun σ H Q => tJs ts Str.empty σ H fun out H1 => Q (.str out) H1
def StarW (K : PySem.W.Frag) (t : TA) (σ : L2.St) (Q : List V → Hp → Prop) (x : V) (H1 : Hp) : Prop := ∃ p xs, x = V.ref p ∧ (SqT K H1 p xs ∨ SqL K H1 p xs) ∧ t σ H1 fun ys H2 => Q (xs ++ ys) H2
section
variable {X : Cx} {K : PySem.W.Frag} {o e : Expr} {es : List Expr} {to te : TE} {t : TA} {apos pos p : Pos}
theorem call_strS : CallR X (.type "str") rStrS := SkE.call_str_str
theorem call_strA : CallR X (.type "str") rStrA := fun pins s σ H xs us Q I r h => h.elim (fun h => call_strI pins s σ H xs us Q I r h) fun h => call_strS pins s σ H xs us Q I r h
theorem call_intS : CallR X (.type "int") rIntS := L2.call_int_str
theorem pe_splitR (ho : PE X o to) (he : PE X e te) (hs : starEach [e] X.env = [(false, eval e X.env)] := by rfl) (hbase : attributeBase o "split" X.env (eval o X.env) = eval o X.env := by rfl) (hline : (apos.endLine == pos.line) = true := by rfl) :
    PE X (.Call (.Attribute o "split" apos) [e] [] pos) (tM1 rSplit to te) := pe_split ho he hs hbase hline
theorem pe_rmpre (ho : PE X o to) (he : PE X e te) (hs : starEach [e] X.env = [(false, eval e X.env)] := by rfl) (hbase : attributeBase o "removeprefix" X.env (eval o X.env) = eval o X.env := by rfl) (hline : (apos.endLine == pos.line) = true := by rfl) :
    PE X (.Call (.Attribute o "removeprefix" apos) [e] [] pos) (tM1 rRmp to te) := pe_m1 F.slot_str_removeprefix F.type_str_removeprefix mt_removeprefix ho he hs hbase hline
theorem pe_fs {v1 v2 : Expr} {rest : List Expr} {ts : List TE} (h : PJ X (v1 :: v2 :: rest) ts) : PE X (.JoinedStr (v1 :: v2 :: rest) pos) (tFs ts) := pe_joined h
theorem pa_starK (h : X.K = K) (he : PE X e te) (hr : PA X es t) (hs : starEach (.Starred e p :: es) X.env = (true, eval e X.env) :: starEach es X.env := by rfl) : PA X (.Starred e p :: es) (StX.tStar K te t) := h ▸ StX.pa_star he hr hs
end
section
variable {K : PySem.W.Frag} {σ : L2.St} {G H : Hp} {Q : VK} {to te : TE} {t : TA} {ts : List TE} {a b acc y : Str} {QA : List V → Hp → Prop} {ds : List PyData} {x : V}
theorem g_m1 {r : V → List V → Hp → VK → Prop} (q : to σ H fun x H1 => (∃ a, x = .str a) ∧ te σ H1 fun y H2 => r x [y] H2 Q) : tM1 r to te σ H Q := q
theorem g_isS {P : Prop} (q : P) : (∃ a', V.str a = .str a') ∧ P := ⟨⟨a, rfl⟩, q⟩
theorem g_fs (q : tJs ts Str.empty σ H fun out H1 => Q (.str out) H1) : tFs ts σ H Q := q
theorem g_js {QS : Str → Hp → Prop} (q : te σ H fun x H1 => ∃ y : Str, x = .str y ∧ (acc ++ y).length ≤ sizeLine ∧ tJs ts (acc ++ y) σ H1 QS) : tJs (te :: ts) acc σ H QS := q
theorem g_js0 {QS : Str → Hp → Prop} (q : QS acc H) : tJs [] acc σ H QS := q
theorem g_jsW {QS : Str → Hp → Prop} (h : (acc ++ y).length ≤ sizeLine) (q : tJs ts (acc ++ y) σ H QS) : ∃ z : Str, V.str y = .str z ∧ (acc ++ z).length ≤ sizeLine ∧ tJs ts (acc ++ z) σ H QS := ⟨y, rfl, h, q⟩
def FmtW (Q : VK) (x : V) (H1 : Hp) : Prop := (∃ y : Str, x = .str y ∧ y.length ≤ sizeLine ∧ Q (.str y) H1) ∨ ∃ i : Int, x = .int i ∧ i.natAbs.log2 < 1920 ∧ Q (.str (toString i)) H1
theorem g_fmt (q : te σ H fun x H1 => FmtW Q x H1) : tFmt te σ H Q := q
theorem g_fmtS (h : y.length ≤ sizeLine) (q : Q (.str y) H) : FmtW Q (.str y) H := .inl ⟨y, rfl, h, q⟩
theorem g_fmtI {i : Int} (h : i.natAbs.log2 < 1920) (q : Q (.str (toString i)) H) : FmtW Q (.int i) H := .inr ⟨i, rfl, h, q⟩
theorem g_star (q : te σ H fun x H1 => StarW K t σ QA x H1) : StX.tStar K te t σ H QA := q
theorem g_starM {p : Addr} {xs : List V} (h : H p = some (.lst xs)) (q : t σ H fun ys H2 => QA (xs ++ ys) H2) : StarW K t σ QA (.ref p) H := ⟨p, xs, rfl, .inr (.of h), q⟩
theorem g_split {c : Nat} (h : a.length ≤ 100000) (e : Ex G H) (q : ∀ p G' H', Nx [] G H G' H' → Dp K G' (.ref p) (.list ((Txt.split a ⟨#[c]⟩).map .str)) → Q (.ref p) H') : rSplit (.str a) [.str ⟨#[c]⟩] H Q :=
  ⟨a, _, rfl, rfl, rfl, by rw [sizeLine_eq]; omega, fun p hp => let ⟨n, d⟩ := nx_lst e (dpAll_str _) hp; q p _ _ n d⟩
theorem g_rmp (h : a.length ≤ sizeLine) (q : Q (.str (Txt.removeprefix a b)) H) : rRmp (.str a) [.str b] H Q := ⟨a, b, rfl, rfl, h, q⟩
theorem g_intS {n : Int} (h : intText? a = some n) (hl : a.length ≤ 640) (q : Q (.int n) H) : rIntS [.str a] H Q := ⟨a, n, rfl, h, hl, q⟩
theorem g_strAI {i : Int} (h : i.natAbs.log2 < 1920) (q : Q (.str (toString i)) H) : rStrA [.int i] H Q := .inl ⟨i, rfl, h, q⟩
theorem g_strAS (q : Q (.str a) H) : rStrA [.str a] H Q := .inr ⟨a, rfl, q⟩
theorem g_joinM {p : Addr} {ys : List Str} (h : H p = some (.lst (ys.map V.str))) (hl : (ys.map (·.length)).sum + ys.length * a.length ≤ 16777216) (q : Q (.str (Str.join a ys)) H) : rJoin K (.str a) [.ref p] H Q :=
  ⟨a, p, ys, rfl, rfl, .inl (.of h), hl, by rw [join_eq]; exact q⟩
end
end Y
namespace Y
open PySem PySem.Spec PyProof.Rows L2
section
variable {K : PySem.W.Frag} {σ : L2.St} {G H : Hp} {Q : VK} {ds es : List PyData} {x v : V} {lo hi : Option Int} {R : L2.St → Hp → Prop} {d1 d2 d3 : PyData} {i j k : Nat}
/-- a part of a known list -/
theorem g_slK (e : Ex G H) (hx : Dp K G x (.list ds)) (hc : ∀ xs : List V, DpAll K G xs ds → DpAll K G (cutV xs lo hi) es) (q : ∀ p G' H', Nx [] G H G' H' → Dp K G' (.ref p) (.list es) → Q (.ref p) H') : rSlL K x lo hi H Q := by
  obtain ⟨a, xs, rfl, ha, da⟩ := dp_lst hx
  exact ⟨a, xs, rfl, e.seqL ha, fun p hp => let ⟨n, d⟩ := nx_lst e (hc xs da) hp; q p _ _ n d⟩
theorem g_unL2 (e : Ex G H) (h : Dp K G v (.list [d1, d2])) (q : ∀ v1 v2, Dp K G v1 d1 → Dp K G v2 d2 → R ((σ.set i (some v1)).set j (some v2)) H) : gLst K 2 (gCons (gName i) (gCons (gName j) gNil)) v σ H R := by
  obtain ⟨a, xs, rfl, hs, hd⟩ := dp_lst h
  cases hd with
  | cons h1 t => cases t with
    | cons h2 t => cases t; exact ⟨a, _, rfl, e.seqL hs, rfl, _, _, rfl, _, _, rfl, rfl, q _ _ h1 h2⟩
theorem g_unLM3 {p : Addr} {xs : List V} (h : H p = some (.lst xs)) (hd : DpAll K G xs [d1, d2, d3]) (q : ∀ v1 v2 v3, Dp K G v1 d1 → Dp K G v2 d2 → Dp K G v3 d3 → R (((σ.set i (some v1)).set j (some v2)).set k (some v3)) H) : gLst K 3 (gCons (gName i) (gCons (gName j) (gCons (gName k) gNil))) (.ref p) σ H R := by
  cases hd with
  | cons h1 t => cases t with
    | cons h2 t => cases t with
      | cons h3 t => cases t; exact ⟨p, _, rfl, .of h, rfl, _, _, rfl, _, _, rfl, _, _, rfl, rfl, q _ _ _ h1 h2 h3⟩
end
end Y
namespace Y
open PySem PySem.Spec PyProof.Rows L2
def vwOf (n : Str) (rs : List PyData) : PyData := .tuple [.str n, .tuple rs]
theorem g_cont {D : Ends} {σ : L2.St} {H : Hp} (q : D.ct σ H) : tCont D σ H := q
theorem g_brk {D : Ends} {σ : L2.St} {H : Hp} (q : D.bk σ H) : tBreak D σ H := q
end Y

namespace Y
open PySem PySem.Spec PyProof.Rows L2
/-! ### tables -/
section
variable {κ α : Type} [DecidableEq κ]
def gtM (m : List (κ × α)) (k : κ) : Option α := (m.find? fun p => decide (p.1 = k)).map (·.2)
def ptM (m : List (κ × α)) (k : κ) (a : α) : List (κ × α) :=
  if (m.any fun p => decide (p.1 = k)) = true then m.map (fun p => if p.1 = k then (p.1, a) else p) else m ++ [(k, a)]
theorem gtM_cons {p : κ × α} {m : List (κ × α)} {k : κ} : gtM (p :: m) k = if p.1 = k then some p.2 else gtM m k := by
  unfold gtM
  rw [List.find?_cons]
  by_cases h : p.1 = k
  · simp [h]
  · simp [h]
theorem gtM_none {m : List (κ × α)} {k : κ} : gtM m k = none ↔ k ∉ m.map (·.1) := by
  induction m with
  | nil => simp [gtM]
  | cons p m ih =>
    rw [gtM_cons]
    by_cases h : p.1 = k
    · simp [h]
    · rw [if_neg h, ih, List.map_cons, List.mem_cons]
      exact ⟨fun a b => b.elim (fun z => h z.symm) a, fun a b => a (.inr b)⟩
theorem gtM_any {m : List (κ × α)} {k : κ} : (m.any fun p => decide (p.1 = k)) = (gtM m k).isSome := by
  induction m with
  | nil => rfl
  | cons p m ih =>
    rw [gtM_cons, List.any_cons, ih]
    by_cases h : p.1 = k <;> simp [h]
theorem gtM_map {m : List (κ × α)} {k k' : κ} {a : α} : gtM (m.map fun p => if p.1 = k then (p.1, a) else p) k' = if k = k' then (if (gtM m k).isSome then some a else none) else gtM m k' := by
  induction m with
  | nil => simp [gtM]
  | cons p m ih =>
    rw [List.map_cons, gtM_cons, ih, gtM_cons, gtM_cons]
    by_cases h1 : p.1 = k
    · subst h1
      by_cases h2 : p.1 = k' <;> simp [h2]
    · simp only [h1, if_false]
      by_cases h2 : k = k'
      · subst h2
        simp [h1]
      · simp [h2]
theorem gtM_app {m m' : List (κ × α)} {k : κ} : gtM (m ++ m') k = (gtM m k).or (gtM m' k) := by
  induction m with
  | nil => simp [gtM]
  | cons p m ih =>
    rw [List.cons_append, gtM_cons, gtM_cons, ih]
    by_cases h : p.1 = k <;> simp [h]
theorem gtM_ptM {m : List (κ × α)} {k k' : κ} {a : α} : gtM (ptM m k a) k' = if k = k' then some a else gtM m k' := by
  unfold ptM
  rw [gtM_any]
  by_cases h : (gtM m k).isSome = true
  · rw [if_pos h, gtM_map, if_pos h]
  · rw [if_neg h, gtM_app, gtM_cons]
    have h' : gtM m k = none := by simpa using h
    by_cases h2 : k = k'
    · subst h2
      simp [h']
    · simp [h2, gtM]
theorem keys_map {m : List (κ × α)} {k : κ} {a : α} : (m.map fun p => if p.1 = k then (p.1, a) else p).map (·.1) = m.map (·.1) := by
  rw [List.map_map]
  refine List.map_congr_left fun p _ => ?_
  show (if p.1 = k then (p.1, a) else p).1 = p.1
  split <;> rfl
theorem keys_ptM {m : List (κ × α)} {k : κ} {a : α} : (ptM m k a).map (·.1) = if k ∈ m.map (·.1) then m.map (·.1) else m.map (·.1) ++ [k] := by
  unfold ptM
  rw [gtM_any]
  by_cases h : k ∈ m.map (·.1)
  · have : (gtM m k).isSome = true := by
      cases e : gtM m k with
      | none => exact absurd h (gtM_none.mp e)
      | some _ => rfl
    rw [if_pos this, if_pos h, keys_map]
  · rw [if_neg (by rw [gtM_none.mpr h]; simp), if_neg h, List.map_append]
    rfl
theorem len_ptM {m : List (κ × α)} {k : κ} {a : α} : (ptM m k a).length ≤ m.length + 1 := by
  unfold ptM
  split <;> simp
theorem ptM_new {m : List (κ × α)} {k : κ} {a : α} (h : k ∉ m.map (·.1)) : ptM m k a = m ++ [(k, a)] := by
  unfold ptM
  rw [gtM_any, gtM_none.mpr h]
  simp
end
section
variable {K : PySem.W.Frag} {G : Hp} {κ : Type} [DecidableEq κ]
theorem gt_rel (k : κ) : ∀ {kvs : List (κ × V)} {md : List (κ × PyData)}, kvs.map (·.1) = md.map (·.1) → DpAll K G (kvs.map (·.2)) (md.map (·.2)) →
    (∀ x, gtM md k = some x → ∃ v, valV kvs k = some v ∧ Dp K G v x) ∧ (gtM md k = none → valV kvs k = none)
  | [], [], _, _ => ⟨(fun _ h => nomatch h), fun _ => rfl⟩
  | [], _ :: _, h, _ => by simp at h
  | _ :: _, [], h, _ => by simp at h
  | (k1, v) :: kvs, (k2, x) :: md, h, hd => by
    simp only [List.map_cons, List.cons.injEq] at h
    obtain ⟨rfl, h2⟩ := h
    cases hd with
    | cons d1 d2 =>
      have ih := gt_rel k h2 d2
      rw [gtM_cons]
      by_cases hk : k1 = k
      · rw [valV_pos (p := (k1, v)) hk]
        simp only [hk, if_true]
        exact ⟨fun y hy => by cases hy; exact ⟨v, rfl, d1⟩, fun z => nomatch z⟩
      · rw [valV_neg (p := (k1, v)) hk]
        simp only [hk, if_false]
        exact ih
theorem dpAll_at {vs : List V} {ds : List PyData} (hl : vs.length = ds.length) (h : ∀ (i : Nat) v d, vs[i]? = some v → ds[i]? = some d → Dp K G v d) : DpAll K G vs ds := by
  induction vs generalizing ds with
  | nil =>
    cases ds with
    | nil => exact .nil
    | cons _ _ => simp at hl
  | cons v vs ih =>
    cases ds with
    | nil => simp at hl
    | cons d ds =>
      exact .cons (h 0 v d rfl rfl) (ih (by simpa using hl) fun i v' d' h1 h2 => h (i + 1) v' d' h1 h2)
theorem pt_map (k : κ) {v : V} {x : PyData} (dv : Dp K G v x) : ∀ {kvs : List (κ × V)} {md : List (κ × PyData)}, kvs.map (·.1) = md.map (·.1) → DpAll K G (kvs.map (·.2)) (md.map (·.2)) →
    DpAll K G ((kvs.map fun p => if p.1 = k then (p.1, v) else p).map (·.2)) ((md.map fun p => if p.1 = k then (p.1, x) else p).map (·.2))
  | [], [], _, _ => .nil
  | [], _ :: _, h, _ => by simp at h
  | _ :: _, [], h, _ => by simp at h
  | (k1, u) :: kvs, (k2, y) :: md, h, hd => by
    simp only [List.map_cons, List.cons.injEq] at h
    obtain ⟨rfl, h2⟩ := h
    cases hd with
    | cons d1 d2 =>
      have ih := pt_map k dv h2 d2
      rw [List.map_cons, List.map_cons, List.map_cons, List.map_cons]
      refine .cons ?_ ih
      by_cases hk : k1 = k
      · simp only [hk, if_true]; exact dv
      · simp only [hk, if_false]; exact d1
theorem pt_rel (k : κ) {v : V} {x : PyData} (dv : Dp K G v x) {kvs : List (κ × V)} {md : List (κ × PyData)} (h : kvs.map (·.1) = md.map (·.1)) (hd : DpAll K G (kvs.map (·.2)) (md.map (·.2))) :
    (putK kvs k v).map (·.1) = (ptM md k x).map (·.1) ∧ DpAll K G ((putK kvs k v).map (·.2)) ((ptM md k x).map (·.2)) := by
  have e : putK kvs k v = ptM kvs k v := rfl
  refine ⟨by rw [e, keys_ptM, keys_ptM, h], ?_⟩
  rw [e]
  unfold ptM
  have ea : (kvs.any fun p => decide (p.1 = k)) = (md.any fun p => decide (p.1 = k)) := by
    have q1 : ∀ {β : Type} (m : List (κ × β)), (m.any fun p => decide (p.1 = k)) = (m.map (·.1)).any fun a => decide (a = k) := fun m => by rw [List.any_map]; rfl
    rw [q1, q1, h]
  rw [ea]
  split
  · exact pt_map k dv h hd
  · rw [List.map_append, List.map_append]
    exact dpAll_snoc hd dv
end
/-- a dict of data that stands, apart from what is known -/
def DctAt (K : PySem.W.Frag) (d : Addr) (G H : Hp) (md : List (Key × PyData)) : Prop := ∃ kvs, H d = some (.dK kvs) ∧ G d = none ∧ kvs.map (·.1) = md.map (·.1) ∧ DpAll K G (kvs.map (·.2)) (md.map (·.2))
section
variable {K : PySem.W.Frag} {d A : Addr} {G H G' H' : Hp} {md : List (Key × PyData)} {M : List Addr} {o : HO} {k : Key} {x y v : V} {dx : PyData} {Q : VK} {R : Hp → Prop}
theorem DctAt.go (r : DctAt K d G H md) (n : Nx M G H G' H') (hd : d ∉ M) : DctAt K d G' H' md := by
  obtain ⟨kvs, h, g, hk, dd⟩ := r
  exact ⟨kvs, n.fr d _ hd h, n.old d g (by rw [h]; exact fun z => nomatch z), hk, dpAll_mono n.gg dd⟩
theorem DctAt.upd (r : DctAt K d G H md) (h : A ≠ d) : DctAt K d G (upd H A o) md := by
  obtain ⟨kvs, h1, g, r⟩ := r
  exact ⟨kvs, by rw [upd_ne h.symm]; exact h1, g, r⟩
theorem DctAt.live (r : DctAt K d G H md) : H d ≠ none := by
  obtain ⟨kvs, h1, _⟩ := r
  rw [h1]; exact fun z => nomatch z
theorem DctAt.len (r : DctAt K d G H md) : ∃ kvs, H d = some (.dK kvs) ∧ kvs.length = md.length := by
  obtain ⟨kvs, h1, _, hk, _⟩ := r
  exact ⟨kvs, h1, by simpa using congrArg List.length hk⟩
theorem g_newD (e : Ex G H) (q : ∀ p H', Nx [] G H G H' → H p = none → DctAt K p G H' [] → Q (.ref p) H') : tDNewK σ H Q := g_new fun p hp => q p _ (Nx.own e hp) hp ⟨[], upd_same, e.free hp, rfl, .nil⟩
theorem g_dcGet (r : DctAt K d G H md) (hk : y = kV k) (hg : gtM md k = some dx) (q : ∀ v, Dp K G v dx → Q v H) : DGeW Q (.ref d) y H := by
  obtain ⟨kvs, h, g, he, dd⟩ := r
  obtain ⟨v, hv, dv⟩ := (gt_rel k he dd).1 dx hg
  exact ⟨d, v, rfl, .inl ⟨kvs, k, .inl h, hk, hv.symm⟩, q v dv⟩
theorem isSome_rel {kvs : List (Key × V)} (he : kvs.map (·.1) = md.map (·.1)) (dd : DpAll K G (kvs.map (·.2)) (md.map (·.2))) : (valV kvs k).isSome = (gtM md k).isSome := by
  have h := gt_rel k he dd
  cases e : gtM md k with
  | none => rw [h.2 e]; rfl
  | some z =>
    obtain ⟨v, hv, _⟩ := h.1 z e
    rw [hv]; rfl
theorem g_dcIn (r : DctAt K d G H md) (hk : y = kV k) (q : Q (.bl (gtM md k).isSome) H) : DInW Q y (.ref d) H := by
  obtain ⟨kvs, h, g, he, dd⟩ := r
  exact ⟨d, _, rfl, .inl ⟨kvs, k, .inl h, hk, rfl⟩, by rw [isSome_rel he dd]; exact q⟩
theorem g_dcNi (r : DctAt K d G H md) (hk : y = kV k) (q : Q (.bl (!(gtM md k).isSome)) H) : DNiW Q y (.ref d) H := by
  obtain ⟨kvs, h, g, he, dd⟩ := r
  exact ⟨d, _, rfl, .inl ⟨kvs, k, .inl h, hk, rfl⟩, by rw [isSome_rel he dd]; exact q⟩
theorem g_dcPut (e : Ex G H) (r : DctAt K d G H md) (hk : y = kV k) (dv : Dp K G v dx) (hl : md.length < 100000) (q : ∀ H', Nx [d] G H G H' → DctAt K d G H' (ptM md k dx) → R H') : DPuW R v (.ref d) y H := by
  obtain ⟨kvs, h, g, he, dd⟩ := r
  have hlen : kvs.length = md.length := by simpa using congrArg List.length he
  obtain ⟨p1, p2⟩ := pt_rel k dv he dd
  exact ⟨d, _, rfl, .inl ⟨kvs, k, h, hk, szl (by omega), rfl⟩, q _ (Nx.set e g (by simp)) ⟨_, upd_same, g, p1, p2⟩⟩
end
/-! ### while, truth, parts of lists that stand -/
section
variable {K : PySem.W.Frag} {σ : L2.St} {G H : Hp} {Q : VK} {D : Ends} {c : TT} {tb : TS} {ta : TE} {QT : Bool → Hp → Prop} {x y : V} {p b : Addr} {ds es L L' : List PyData}
theorem g_while (n : Nat) (Pv : Nat → L2.St → Hp → Prop) (h0 : Pv n σ H)
    (hs : ∀ m σ' H', Pv m σ' H' → c σ' H' fun b H1 => if b = true then ∃ N : L2.St → Hp → Prop, (∀ σ2 H2, N σ2 H2 → ∃ m', m' < m ∧ Pv m' σ2 H2) ∧ tb { D with nx := N, ct := N, bk := D.nx } σ' H1 else D.nx σ' H1) : tWhile c tb D σ H :=
  ⟨Pv, ⟨n, h0⟩, hs⟩
theorem g_whN {n : Nat} {Pv : Nat → L2.St → Hp → Prop} (q : tb { D with nx := fun σ2 H2 => ∃ m, m < n ∧ Pv m σ2 H2, ct := fun σ2 H2 => ∃ m, m < n ∧ Pv m σ2 H2, bk := D.nx } σ H) :
    ∃ N : L2.St → Hp → Prop, (∀ σ2 H2, N σ2 H2 → ∃ m', m' < n ∧ Pv m' σ2 H2) ∧ tb { D with nx := N, ct := N, bk := D.nx } σ H := ⟨_, fun _ _ z => z, q⟩
def tTru (K : PySem.W.Frag) (ta : TE) : TT := fun σ H Q => ta σ H fun x H' => ∃ k, TruV K x H' k ∧ Q k H'
theorem pt_truthK {X : Cx} {a : Expr} (h : X.K = K) (ha : PE X a ta) (he : ∀ whole, isTrue a X.env whole = (do let v ← whole; standAt a.pos; holding [v] (truthy v))) : PT X a (tTru K ta) := h ▸ pt_truth ha he
def TruW (K : PySem.W.Frag) (QT : Bool → Hp → Prop) (x : V) (H' : Hp) : Prop := ∃ k, TruV K x H' k ∧ QT k H'
theorem g_tru (q : ta σ H fun x H' => TruW K QT x H') : tTru K ta σ H QT := q
theorem g_truL {xs : List V} (h : SqL K H p xs) (q : QT (!xs.isEmpty) H) : TruW K QT (.ref p) H := ⟨_, .inl ⟨xs, h, rfl⟩, q⟩
theorem g_slM {lo hi : Option Int} (e : Ex G H) (r : LstAt K b G H L) (hc : ∀ xs : List V, DpAll K G xs L → DpAll K G (cutV xs lo hi) es) (q : ∀ p H', Nx [] G H G H' → H p = none → LstAt K p G H' es → Q (.ref p) H') : rSlL K (.ref b) lo hi H Q := by
  obtain ⟨xs, h, g, d⟩ := r
  exact ⟨b, xs, rfl, .of h, fun p hp => q p _ (Nx.own e hp) hp ⟨_, upd_same, e.free hp, hc xs d⟩⟩
theorem g_slMHi {k : Nat} {i : Int} (e : Ex G H) (r : LstAt K b G H L) (hj : i = (k : Int)) (q : ∀ p H', Nx [] G H G H' → H p = none → LstAt K p G H' (L.take k) → Q (.ref p) H') : rSlL K (.ref b) none (some i) H Q := by
  subst hj
  exact g_slM e r (fun xs d => by rw [cut_hi]; exact dpAll_take k d) q
theorem g_slMLo {k : Nat} {i : Int} (e : Ex G H) (r : LstAt K b G H L) (hj : i = (k : Int)) (q : ∀ p H', Nx [] G H G H' → H p = none → LstAt K p G H' (L.drop k) → Q (.ref p) H') : rSlL K (.ref b) (some i) none H Q := by
  subst hj
  exact g_slM e r (fun xs d => by rw [cut_lo]; exact dpAll_drop k d) q
theorem g_catM (e : Ex G H) (r1 : LstAt K p G H L) (r2 : LstAt K b G H L') (hl : L.length + L'.length ≤ 100000) (q : ∀ r H', Nx [] G H G H' → H r = none → LstAt K r G H' (L ++ L') → Q (.ref r) H') : rCat (.ref p) (.ref b) H Q := by
  obtain ⟨xs, h, g, d⟩ := r1
  obtain ⟨ys, h2, g2, d2⟩ := r2
  refine ⟨p, b, xs, ys, rfl, rfl, h, h2, by rw [dpAll_len d, dpAll_len d2]; exact szle hl, fun r hr => q r _ (Nx.own e hr) hr ⟨_, upd_same, e.free hr, dpAll_app d d2⟩⟩
theorem g_ixLs {i : Int} {k : Nat} {d : PyData} (r : LstAt K p G H L) (hi : L[k]? = some d) (hj : i = (k : Int)) (q : ∀ v, Dp K G v d → Q v H) : rIxL K (.ref p) (.int i) H Q := by
  obtain ⟨xs, h, g, da⟩ := r
  obtain ⟨v, hv, dv⟩ := dpAll_get da hi
  subst hj
  exact ⟨p, xs, _, v, rfl, rfl, .of h, atI_nat hv, q v dv⟩
theorem g_lenLs (r : LstAt K p G H L) (q : Q (.int (L.length : Int)) H) : rLen K [.ref p] H Q := by
  obtain ⟨xs, h, g, da⟩ := r
  exact ⟨p, xs, rfl, .inl (.of h), by rw [dpAll_len da]; exact q⟩
theorem g_appLs (e : Ex G H) (r : LstAt K p G H L) (dy : Dp K G y d) (hl : L.length < 100000) (q : ∀ H', Nx [p] G H G H' → LstAt K p G H' (L ++ [d]) → Q .non H') : rAppend (.ref p) [y] H Q := by
  obtain ⟨xs, h, g, da⟩ := r
  exact ⟨p, xs, y, rfl, rfl, h, by rw [dpAll_len da]; exact szl (by omega), q _ (Nx.set e g (by simp)) ⟨_, upd_same, g, dpAll_snoc da dy⟩⟩
theorem g_tyLs {P : Prop} (r : LstAt K p G H L) (q : P) : tyV K "list" (.ref p) H ∧ P := by
  obtain ⟨xs, h, g, da⟩ := r
  exact g_tyL h q
theorem g_setLs {i : Int} {k : Nat} {R : Hp → Prop} (e : Ex G H) (r : LstAt K p G H L) (dy : Dp K G y d) (hj : i = (k : Int)) (hk : k < L.length) (q : ∀ H', Nx [p] G H G H' → LstAt K p G H' (L.set k d) → R H') : rSetL (.ref p) (.int i) y H R := by
  obtain ⟨xs, h, g, da⟩ := r
  refine g_setM h hj (by rw [dpAll_len da]; exact hk) (q _ (Nx.set e g (by simp)) ⟨_, upd_same, g, ?_⟩)
  refine dpAll_at (by simp [dpAll_len da]) fun j u w hu hw => ?_
  rw [List.getElem?_set] at hu hw
  rw [dpAll_len da] at hu
  by_cases hkj : k = j
  · subst hkj
    rw [if_pos rfl, if_pos hk] at hu hw
    cases hu; cases hw
    exact dy
  · rw [if_neg hkj] at hu hw
    obtain ⟨d', hd', dd⟩ := dpAll_got da hu
    rw [hw] at hd'
    cases hd'
    exact dd
theorem g_walkLs {P : Addr → Prop} (r : LstAt K p G H L) (q : (∀ M, p ∉ M → Src K M (Itl K p) G H L) → P p) : ∃ b, V.ref p = .ref b ∧ (∃ xs, SqL K H b xs) ∧ P b := by
  obtain ⟨xs, h, g, da⟩ := r
  exact g_walkM h da q
theorem g_lstLs {xs : List V} (e : Ex G H) (h : DpAll K G xs L) (hl : L.length ≤ 100000) (q : ∀ p H', Nx [] G H G H' → H p = none → LstAt K p G H' L → Q (.ref p) H') : MkL xs H Q :=
  ⟨by rw [dpAll_len h]; exact szle hl, fun p hp => q p _ (Nx.own e hp) hp ⟨_, upd_same, e.free hp, h⟩⟩
theorem g_inSs {neg : Bool} {ss : List Str} {t : Str} (r : LstAt K p G H (ss.map .str)) (q : Q (.bl (if neg = true then !decide (t ∈ ss) else decide (t ∈ ss))) H) : rIn K neg (.str t) (.ref p) H Q := by
  obtain ⟨xs, h, g, da⟩ := r
  rw [dpAll_str_inv da] at h
  exact g_inS (.of h) q
theorem g_inSsF {ss : List Str} {t : Str} (r : LstAt K p G H (ss.map .str)) (q : Q (.bl (decide (t ∈ ss))) H) : rIn K false (.str t) (.ref p) H Q := g_inSs r q
theorem g_inSsT {ss : List Str} {t : Str} (r : LstAt K p G H (ss.map .str)) (q : Q (.bl (!decide (t ∈ ss))) H) : rIn K true (.str t) (.ref p) H Q := g_inSs r q
theorem g_eqSame {H : Hp} {x y : V} {d : PyData} {Q : VK} (h1 : Dp K H x d) (h2 : Dp K H y d) (s : SeqAt.shaped d = true) (q : Q (.bl true) H) : rEqD K x y H Q :=
  ⟨d, d, h1, h2, s, s, by rw [SeqAt.eqv_refl _ (shaped_lay s)]; exact q⟩
theorem g_eqL {a b : Addr} (e : Ex G H) (h1 : LstAt K a G H L) (h2 : LstAt K b G H L) (s : SeqAt.shaped (.list L) = true) (q : Q (.bl true) H) : rEqD K (.ref a) (.ref b) H Q :=
  g_eqSame (h1.dp e) (h2.dp e) s q
end
/-! ### a comprehension whose items are told as they are -/
theorem g_lcV {K : PySem.W.Frag} {σ : L2.St} {G H : Hp} {Q : VK} {te : TE} {tt : TT} {J : It} {M : List Addr} {ds : List PyData} {A : Addr} {j : Nat} (S : Src K M J G H ds) (e : Ex G H) (hA : H A = none) (hM : ∀ b ∈ M, H b ≠ none) (hz : ds.length < sizeLine) (Jv : Nat → List V → Hp → Hp → Prop)
    (jA : ∀ i acc G' H' o, Jv i acc G' H' → Jv i acc G' (upd H' A o)) (jN : ∀ i acc G' H' G1 H1, Nx [] G' H' G1 H1 → Jv i acc G' H' → Jv i acc G1 H1) (j0 : Jv 0 [] G H)
    (hs : ∀ i d v acc G' H', ds[i]? = some d → Dp K G' v d → Nx M G H G' H' → acc.length ≤ i → Jv i acc G' H' → ∀ (QE : VK) (QN : Hp → Prop),
      (∀ y G4 H4, Nx M G' H' G4 H4 → Jv (i + 1) (acc ++ [y]) G4 H4 → QE y H4) → (∀ G3 H3, Nx M G' H' G3 H3 → Jv (i + 1) acc G3 H3 → QN H3) →
      tt ((wipe σ [j]).set j (some v)) H' fun b H3 => if b = true then te ((wipe σ [j]).set j (some v)) H3 QE else QN H3)
    (hd : ∀ G' H' ys, Jv ds.length ys G' H' → Nx M G H G' H' → G' A = none → H' A = some (.lst ys) → ys.length ≤ ds.length → Q (.ref A) H') : LcW J (gName j) tt te [j] σ A Q H := by
  have st0 : Nx [] G H G (upd H A (.lst [])) := Nx.own e hA
  have hAM : A ∉ M := fun z => hM A z hA
  refine ⟨fun i m H' => m = ds.length - i ∧ i ≤ ds.length ∧ ∃ G' ys, Nx M G H G' H' ∧ G' A = none ∧ H' A = some (.lst ys) ∧ ys.length ≤ i ∧ Jv i ys G' H',
    ⟨ds.length, by simp, Nat.zero_le _, G, [], st0.pure, e.free hA, upd_same, Nat.le_refl _, jA _ _ _ _ _ j0⟩, ?_⟩
  rintro i m H' ⟨rfl, hi, G', ys, n, gA, hys, hl, jv⟩
  by_cases hlt : i < ds.length
  · refine .inr ⟨S.go i G' H' n hlt, fun H'' => ∃ G'' ys, Nx M G H G'' H'' ∧ G'' A = none ∧ H'' A = some (.lst ys) ∧ ys.length ≤ i + 1 ∧ Jv (i + 1) ys G'' H'',
      fun H'' ⟨G'', ys', r⟩ => ⟨ds.length - (i + 1), by omega, rfl, hlt, G'', ys', r⟩, fun v H1 y => ?_⟩
    have hg : ds[i]? = some ds[i] := by simp [hlt]
    obtain ⟨G1, n1, d1⟩ := S.yld i _ G' H' v H1 n hg y
    have n2 : Nx M G H G1 H1 := n.trans n1.pure
    have gA1 : G1 A = none := n1.old A gA (by rw [hys]; exact fun z => nomatch z)
    have hys1 : H1 A = some (.lst ys) := n1.fr A _ (by simp) hys
    refine ⟨wipe1, hs i _ v ys G1 H1 hg d1 n2 hl (jN _ _ _ _ _ _ n1 jv) _ _ (fun y G4 H4 n4 jv' => ?_) (fun G3 H3 n3 jv' => ?_)⟩
    · have gA4 : G4 A = none := n4.old A gA1 (by rw [hys1]; exact fun z => nomatch z)
      have hys4 : H4 A = some (.lst ys) := n4.fr A _ hAM hys1
      have n5 : Nx M G H G4 H4 := n2.trans n4
      have n6 : Nx [A] G4 H4 G4 (upd H4 A (.lst (ys ++ [y]))) := Nx.set n4.gh gA4 (by simp)
      have n7 : Nx (A :: M) G H G4 (upd H4 A (.lst (ys ++ [y]))) := (n5.mono fun _ z => List.mem_cons_of_mem _ z).trans (n6.mono fun b z => by simp at z; simp [z])
      exact ⟨ys, hys4, by omega, G4, ys ++ [y], n7.drop hA, gA4, upd_same, by simp; omega, jA _ _ _ _ _ jv'⟩
    · exact ⟨G3, ys, n2.trans n3, n3.old A gA1 (by rw [hys1]; exact fun z => nomatch z), n3.fr A _ hAM hys1, by omega, jv'⟩
  · have e' : i = ds.length := by omega
    subst e'
    exact .inl ⟨S.stop _ G' H' n (Nat.le_refl _), hd G' H' ys jv n gA hys hl⟩
end Y
namespace Y
open PySem PySem.Spec PyProof.Rows L2
section
variable {K : PySem.W.Frag} {G H : Hp} {Q : VK} {p : Addr} {ns : List Str} {i : Int} {L : List PyData}
theorem g_ixLsN (r : LstAt K p G H (ns.map .str)) (h0 : 0 ≤ i) (h1 : i < (ns.length : Int)) (q : ∀ s, s ∈ ns → ns[i.toNat]? = some s → Q (.str s) H) : rIxL K (.ref p) (.int i) H Q := by
  have hl : i.toNat < ns.length := by omega
  refine g_ixLs (k := i.toNat) (d := .str ns[i.toNat]) r (by rw [List.getElem?_map, List.getElem?_eq_getElem hl]; rfl) (by omega) fun v dv => ?_
  cases dp_str dv
  exact q _ (List.getElem_mem hl) (by simp [hl])
theorem g_ixLsD (r : LstAt K p G H L) (h0 : 0 ≤ i) (h1 : i < (L.length : Int)) (q : ∀ v d, d ∈ L → L[i.toNat]? = some d → Dp K G v d → Q v H) : rIxL K (.ref p) (.int i) H Q := by
  have hl : i.toNat < L.length := by omega
  exact g_ixLs (k := i.toNat) (d := L[i.toNat]) r (by simp [hl]) (by omega) fun v dv => q v _ (List.getElem_mem hl) (by simp [hl]) dv
end
end Y
namespace Y
open PySem PySem.Spec PyProof.Rows L2
/-- a loop over a list that stands, its items told as they are -/
theorem g_forV {K : PySem.W.Frag} {σ : L2.St} {G H : Hp} {D : Ends} {g : TG} {tb : TS} {M : List Addr} {a : Addr} {xs : List V} (ha : H a = some (.lst xs)) (hM : a ∉ M) (e : Ex G H) (Pv : Nat → L2.St → Hp → Hp → Prop) (h0 : Pv 0 σ G H)
    (hs : ∀ i v σ' G' H', xs[i]? = some v → Nx M G H G' H' → Pv i σ' G' H' →
      g v σ' H' fun σ2 H2 => tb { D with nx := fun σ3 H3 => ∃ G3, Nx M G H G3 H3 ∧ Pv (i + 1) σ3 G3 H3, ct := fun σ3 H3 => ∃ G3, Nx M G H G3 H3 ∧ Pv (i + 1) σ3 G3 H3, bk := D.nx } σ2 H2)
    (hd : ∀ σ' G' H', Nx M G H G' H' → Pv xs.length σ' G' H' → D.nx σ' H') : ForW (Itl K a) g tb D σ H := by
  refine ⟨fun i m σ' H' => m = xs.length - i ∧ i ≤ xs.length ∧ ∃ G', Nx M G H G' H' ∧ Pv i σ' G' H', ⟨xs.length, by simp, Nat.zero_le _, G, Nx.refl e, h0⟩, ?_⟩
  rintro i m σ' H' ⟨rfl, hi, G', n, p⟩
  have hH : H' a = some (.lst xs) := n.fr a _ hM ha
  by_cases hlt : i < xs.length
  · refine .inr ⟨⟨xs, xs[i], .of hH, by simp [hlt]⟩, fun σ3 H3 => ∃ G3, Nx M G H G3 H3 ∧ Pv (i + 1) σ3 G3 H3, fun σ3 H3 ⟨G3, n3, p3⟩ => ⟨xs.length - (i + 1), by omega, rfl, hlt, G3, n3, p3⟩, fun v H1 y => ?_⟩
    obtain ⟨rfl, f⟩ := y
    exact hs i v σ' G' _ (f xs (.of hH)) n p
  · have e' : i = xs.length := by omega
    subst e'
    exact .inl ⟨⟨xs, .of hH, Nat.le_refl _⟩, hd σ' G' H' n p⟩
theorem g_walkV {H : Hp} {K : PySem.W.Frag} {P : Addr → Prop} {a : Addr} {xs : List V} (h : H a = some (.lst xs)) (q : P a) : ∃ b, V.ref a = .ref b ∧ (∃ xs, SqL K H b xs) ∧ P b := ⟨a, rfl, ⟨xs, .of h⟩, q⟩
/-- a known list of texts, just so -/
def KnL (G : Hp) (v : V) (ss : List Str) : Prop := ∃ b, v = .ref b ∧ G b = some (.lst (ss.map V.str))
theorem KnL.ex {G G' : Hp} {v : V} {ss : List Str} (h : KnL G v ss) (e : Ex G G') : KnL G' v ss := by
  obtain ⟨b, rfl, hb⟩ := h
  exact ⟨b, rfl, e _ _ hb⟩
theorem LstAt.knowL {K : PySem.W.Frag} {p : Addr} {G H G0 H0 : Hp} {M : List Addr} {ss : List Str} (r : LstAt K p G H (ss.map .str)) (n : Nx M G0 H0 G H) (h : H0 p = none) : ∃ G', Nx M G0 H0 G' H ∧ Y.Ex G G' ∧ KnL G' (.ref p) ss := by
  obtain ⟨vs, h1, g, d⟩ := r
  rw [dpAll_str_inv d] at h1
  exact ⟨_, n.know h h1 g, Ex.new g, p, rfl, upd_same⟩
theorem g_catK {K : PySem.W.Frag} {G H : Hp} {Q : VK} {p : Addr} {v : V} {ss ts : List Str} (e : Ex G H) (r1 : LstAt K p G H (ss.map .str)) (r2 : KnL G v ts) (hl : ss.length + ts.length ≤ 100000) (q : ∀ r H', Nx [] G H G H' → H r = none → LstAt K r G H' ((ss ++ ts).map .str) → Q (.ref r) H') : rCat (.ref p) v H Q := by
  obtain ⟨xs, h, g, d⟩ := r1
  obtain ⟨b, rfl, h2⟩ := r2
  rw [dpAll_str_inv d] at h
  refine ⟨p, b, _, _, rfl, rfl, h, e _ _ h2, by rw [List.length_map, List.length_map]; exact szle hl, fun r hr => q r _ (Nx.own e hr) hr ⟨_, upd_same, e.free hr, ?_⟩⟩
  rw [← List.map_append]
  exact dpAll_str _
/-- a list of one text, repeated -/
theorem g_repM {K : PySem.W.Frag} {G H : Hp} {Q : VK} {p : Addr} {L : List PyData} {i : Int} (e : Ex G H) (r : LstAt K p G H L) (h0 : 0 ≤ i) (h1 : i < 1000) (hl : L.length ≤ 100) (q : ∀ r H', Nx [] G H G H' → H r = none → LstAt K r G H' (List.replicate i.toNat L).flatten → Q (.ref r) H') : rRep (.ref p) (.int i) H Q := by
  obtain ⟨xs, h, g, d⟩ := r
  have hb : xs.length * i.toNat ≤ 100 * 1000 := Nat.mul_le_mul (by rw [dpAll_len d]; exact hl) (by omega)
  exact ⟨p, i, xs, rfl, rfl, h, by omega, by omega, Nat.le_trans hb (by rw [sizeLine_eq]; decide), fun r hr => q r _ (Nx.own e hr) hr ⟨_, upd_same, e.free hr, dpAll_rep d _⟩⟩
end Y
namespace Y
open PySem PySem.Spec PyProof.Rows L2
def rInsert : V → List V → Hp → VK → Prop := fun x vs H Q => ∃ (l : Addr) (xs : List V) (i : Int) (y : V), x = .ref l ∧ vs = [.int i, y] ∧ H l = some (.lst xs) ∧ xs.length < sizeLine ∧ 0 ≤ i ∧ i < 2 ^ 63 ∧ Q .non (upd H l (.lst (xs.take i.toNat ++ [y] ++ xs.drop i.toNat)))
theorem mt_insert {X : Cx} : MtR X "list.insert" rInsert := L2.mt_insert
section
variable {K : PySem.W.Frag} {G H : Hp} {Q : VK} {p : Addr} {L : List PyData} {y : V} {d : PyData}
theorem g_insLs {k : Nat} {i : Int} (e : Ex G H) (r : LstAt K p G H L) (dy : Dp K G y d) (hl : L.length < 100000) (hj : i = (k : Int)) (hk : k < 1000) (q : ∀ H', Nx [p] G H G H' → LstAt K p G H' (L.take k ++ [d] ++ L.drop k) → Q .non H') : rInsert (.ref p) [.int i, y] H Q := by
  obtain ⟨xs, h, g, da⟩ := r
  subst hj
  refine ⟨p, xs, _, y, rfl, rfl, h, by rw [dpAll_len da]; exact szl (by omega), by omega, by omega, q _ (Nx.set e g (by simp)) ⟨_, upd_same, g, ?_⟩⟩
  rw [show (k : Int).toNat = k by omega]
  exact dpAll_app (dpAll_app (dpAll_take k da) (.cons dy .nil)) (dpAll_drop k da)
theorem cut_m1 (xs : List V) : cutV xs none (some (-1)) = xs.take (xs.length - 1) := by
  unfold cutV
  rw [HT.sIx_none, List.drop_zero, Nat.sub_zero]
  congr 1
  show (if (-1 : Int) < 0 then ((-1 : Int) + (xs.length : Int)).toNat else min (-1 : Int).toNat xs.length) = _
  rw [if_pos (by decide)]
  omega
theorem g_repLs {i : Int} (e : Ex G H) (r : LstAt K p G H L) (h0 : 0 ≤ i) (h1 : i < 1000) (hl : L.length ≤ 100) (q : ∀ r H', Nx [] G H G H' → H r = none → LstAt K r G H' (List.replicate i.toNat L).flatten → Q (.ref r) H') : rRep (.ref p) (.int i) H Q := g_repM e r h0 h1 hl q
end
end Y

namespace Y
open PySem PySem.Spec PyProof.Rows L2
/-! ### d.update(e) -/
def rUpd : V → List V → Hp → VK → Prop := fun x xs H Q => ∃ (d o : Addr) (kvs more : List (Key × V)), x = .ref d ∧ xs = [.ref o] ∧ H d = some (.dK kvs) ∧ H o = some (.dK more) ∧ d ≠ o ∧ kvs.length + more.length ≤ sizeLine ∧ Q .non (upd H d (.dK (mergeK kvs more)))
theorem mt_update {X : Cx} : MtR X "dict.update" rUpd := by
  intro pins s σ H x xs v us Q I rx rxs h
  obtain ⟨d, o, kvs, more, rfl, rfl, hd, ho, hne, hz, q⟩ := h
  cases rx
  cases rxs with
  | cons ru rn =>
    cases rn
    cases ru
    obtain ⟨z, h0, vs, rel, dd⟩ := dk_of I.hok hd
    obtain ⟨z2, h02, vs2, rel2, dd2⟩ := dk_of I.hok ho
    refine call_meetsIn PySem.F.slot_dict_update dd.typeIs PySem.F.entry_dict_update (PySem.F.args_dict_update_2 _ _) (meets_dict_update (mixKind X.prog X.w) d o hne h02) ⟨vs, vs2, dd, dd2, by rw [← rel.length, ← rel2.length]; exact hz, fun h' dd' _ hs => ?_⟩
    have he : ∃ q, h'.get? d = some q := let ⟨q, _, _, hq, _⟩ := dd'; ⟨q, hq⟩
    exact ⟨.non, _, d_write (t' := s.toks) I (by rw [hd]; exact True.intro) hs he (dk_new (Nat.le_trans (length_mergeK more kvs) hz) h0 (KV.merge rel2 rel) dd'), rfl, q⟩
theorem keys_merge {κ : Type} [DecidableEq κ] (k : κ) : ∀ {more kvs : List (κ × V)}, k ∈ ((more.foldl (fun acc kv => putK acc kv.1 kv.2) kvs).map (·.1)) ↔ k ∈ kvs.map (·.1) ∨ k ∈ more.map (·.1)
  | [], kvs => by simp
  | p :: r, kvs => by
    rw [List.foldl_cons, keys_merge k (more := r)]
    have e : (putK kvs p.1 p.2).map (·.1) = if p.1 ∈ kvs.map (·.1) then kvs.map (·.1) else kvs.map (·.1) ++ [p.1] := keys_ptM (m := kvs)
    rw [e, List.map_cons, List.mem_cons]
    split
    · rename_i h
      constructor
      · rintro (h1 | h1)
        · exact .inl h1
        · exact .inr (.inr h1)
      · rintro (h1 | h1 | h1)
        · exact .inl h1
        · exact .inl (h1 ▸ h)
        · exact .inr h1
    · rw [List.mem_append, List.mem_singleton, or_assoc]
/-- a dict whose keys alone are told -/
def KeysAt (d : Addr) (G H : Hp) (n : Nat) (S : Key → Prop) : Prop := ∃ kvs, H d = some (.dK kvs) ∧ G d = none ∧ kvs.length ≤ n ∧ ∀ k, k ∈ kvs.map (·.1) ↔ S k
section
variable {K : PySem.W.Frag} {G H G' H' : Hp} {Q : VK} {d o : Addr} {n m : Nat} {S S' : Key → Prop} {M : List Addr} {md : List (Key × PyData)} {k : Key} {y : V}
theorem KeysAt.go (r : KeysAt d G H n S) (x : Nx M G H G' H') (hd : d ∉ M) : KeysAt d G' H' n S := by
  obtain ⟨kvs, h, g, r⟩ := r
  exact ⟨kvs, x.fr d _ hd h, x.old d g (by rw [h]; exact fun z => nomatch z), r⟩
theorem KeysAt.live (r : KeysAt d G H n S) : H d ≠ none := by
  obtain ⟨kvs, h1, _⟩ := r
  rw [h1]; exact fun z => nomatch z
theorem DctAt.keys (r : DctAt K d G H md) : KeysAt d G H md.length (fun k => k ∈ md.map (·.1)) := by
  obtain ⟨kvs, h, g, hk, _⟩ := r
  exact ⟨kvs, h, g, by rw [← List.length_map (f := (·.1)), hk, List.length_map]; exact Nat.le_refl _, fun k => by rw [hk]⟩
theorem g_upd (e : Ex G H) (r : KeysAt d G H n S) (r2 : KeysAt o G H m S') (hne : d ≠ o) (hz : n + m ≤ 100000) (q : ∀ H', Nx [d] G H G H' → KeysAt d G H' (n + m) (fun k => S k ∨ S' k) → Q .non H') : rUpd (.ref d) [.ref o] H Q := by
  obtain ⟨kvs, h, g, hl, hk⟩ := r
  obtain ⟨more, h2, g2, hl2, hk2⟩ := r2
  refine ⟨d, o, kvs, more, rfl, rfl, h, h2, hne, szle (by omega), q _ (Nx.set e g (by simp)) ⟨_, upd_same, g, Nat.le_trans (length_mergeK more kvs) (by omega), fun k => ?_⟩⟩
  have e := keys_merge k (more := more) (kvs := kvs)
  rw [hk, hk2] at e
  exact e
theorem g_tyKe {P : Prop} (r : KeysAt d G H n S) (q : P) : tyV K "dict" (.ref d) H ∧ P := by
  obtain ⟨kvs, h, _⟩ := r
  exact ⟨.inr (.inr (.inl ⟨rfl, .inl ⟨kvs, h⟩⟩)), q⟩
theorem valV_keys {kvs : List (Key × V)} : (valV kvs k).isSome = true ↔ k ∈ kvs.map (·.1) := by
  have e : valV kvs k = gtM kvs k := rfl
  rw [e]
  constructor
  · intro h
    exact Classical.byContradiction fun z => by rw [gtM_none.mpr z] at h; cases h
  · intro h
    cases e : gtM kvs k with
    | none => exact absurd h (gtM_none.mp e)
    | some v => rfl
theorem g_keIn {b : Bool} (r : KeysAt d G H n S) (hk : y = kV k) (hb : b = true ↔ S k) (q : Q (.bl b) H) : DInW Q y (.ref d) H := by
  obtain ⟨kvs, h, g, hl, hs⟩ := r
  refine ⟨d, _, rfl, .inl ⟨kvs, k, .inl h, hk, rfl⟩, ?_⟩
  have : (valV kvs k).isSome = b := by rw [Bool.eq_iff_iff, valV_keys, hb]; exact hs k
  rw [this]
  exact q
theorem g_keNi {b : Bool} (r : KeysAt d G H n S) (hk : y = kV k) (hb : b = true ↔ S k) (q : Q (.bl (!b)) H) : DNiW Q y (.ref d) H := by
  obtain ⟨kvs, h, g, hl, hs⟩ := r
  refine ⟨d, _, rfl, .inl ⟨kvs, k, .inl h, hk, rfl⟩, ?_⟩
  have : (valV kvs k).isSome = b := by rw [Bool.eq_iff_iff, valV_keys, hb]; exact hs k
  rw [this]
  exact q
theorem g_keNew (e : Ex G H) (q : ∀ p H', Nx [] G H G H' → H p = none → KeysAt p G H' 0 (fun _ => False) → Q (.ref p) H') : tDNewK σ H Q := g_new fun p hp => q p _ (Nx.own e hp) hp ⟨[], upd_same, e.free hp, Nat.le_refl _, by simp⟩
end
/-! ### {k: v for ..} -/
def DcW (J : It) (g : TG) (tt : TT) (tk tv : TE) (vs : List Nat) (σ : L2.St) (D : Addr) (Q : VK) (H1 : Hp) : Prop := ∃ W : Nat → Nat → Hp → Prop, (∃ m, W 0 m (upd H1 D (.dK []))) ∧ ∀ i m H, W i m H →
  (J.stop i H ∧ Q (.ref D) H) ∨ (J.go i H ∧ ∃ Nx : Hp → Prop, (∀ H', Nx H' → ∃ m', m' < m ∧ W (i + 1) m' H') ∧ ∀ x H', J.yld i H x H' → g x (wipe σ vs) H' fun σ2 H2 => wipe σ2 vs = wipe σ vs ∧ tt σ2 H2 fun b H3 =>
    if b = true then tk σ2 H3 fun y H4 => tv σ2 H4 fun z H5 => ∃ kvs k, y = kV k ∧ H5 D = some (.dK kvs) ∧ kvs.length < sizeLine ∧ Nx (upd H5 D (.dK (putK kvs k z))) else Nx H3)
theorem g_dc {wi : TI} {g : TG} {tt : TT} {tk tv : TE} {vs : List Nat} {σ : L2.St} {H : Hp} {Q : VK} (q : wi σ H fun J H1 => ∀ D, H1 D = none → DcW J g tt tk tv vs σ D Q H1) : tDc wi g tt tk tv vs σ H Q := q
/-- .. over one name -/
theorem g_dcC {K : PySem.W.Frag} {σ : L2.St} {G H : Hp} {Q : VK} {tk tv : TE} {tt : TT} {J : It} {M : List Addr} {ds : List PyData} {A : Addr} {j : Nat} (S : Src K M J G H ds) (e : Ex G H) (hA : H A = none) (hM : ∀ b ∈ M, H b ≠ none) (hz : ds.length < 100000) (Jv : Nat → List (Key × V) → Hp → Hp → Prop)
    (jA : ∀ i kvs G' H' o, Jv i kvs G' H' → Jv i kvs G' (upd H' A o)) (jN : ∀ i kvs G' H' G1 H1, Nx [] G' H' G1 H1 → Jv i kvs G' H' → Jv i kvs G1 H1) (j0 : Jv 0 [] G H)
    (hs : ∀ i d v kvs G' H', ds[i]? = some d → Dp K G' v d → Nx M G H G' H' → H' A ≠ none → Jv i kvs G' H' → ∀ (QE : V → V → Hp → Prop) (QN : Hp → Prop),
      (∀ y z k G4 H4, y = kV k → Nx M G' H' G4 H4 → Jv (i + 1) (putK kvs k z) G4 H4 → QE y z H4) → (∀ G3 H3, Nx M G' H' G3 H3 → Jv (i + 1) kvs G3 H3 → QN H3) →
      tt ((wipe σ [j]).set j (some v)) H' fun b H3 => if b = true then tk ((wipe σ [j]).set j (some v)) H3 fun y H4 => tv ((wipe σ [j]).set j (some v)) H4 fun z H5 => QE y z H5 else QN H3)
    (hd : ∀ G' H' kvs, Jv ds.length kvs G' H' → Nx M G H G' H' → G' A = none → H' A = some (.dK kvs) → kvs.length ≤ ds.length → Q (.ref A) H') : DcW J (gName j) tt tk tv [j] σ A Q H := by
  have st0 : Nx [] G H G (upd H A (.dK [])) := Nx.own e hA
  have hAM : A ∉ M := fun z => hM A z hA
  refine ⟨fun i m H' => m = ds.length - i ∧ i ≤ ds.length ∧ ∃ G' kvs, Nx M G H G' H' ∧ G' A = none ∧ H' A = some (.dK kvs) ∧ kvs.length ≤ i ∧ Jv i kvs G' H',
    ⟨ds.length, by simp, Nat.zero_le _, G, [], st0.pure, e.free hA, upd_same, Nat.le_refl _, jA _ _ _ _ _ j0⟩, ?_⟩
  rintro i m H' ⟨rfl, hi, G', kvs, n, gA, hys, hl, jv⟩
  by_cases hlt : i < ds.length
  · refine .inr ⟨S.go i G' H' n hlt, fun H'' => ∃ G'' kvs, Nx M G H G'' H'' ∧ G'' A = none ∧ H'' A = some (.dK kvs) ∧ kvs.length ≤ i + 1 ∧ Jv (i + 1) kvs G'' H'',
      fun H'' ⟨G'', kvs', r⟩ => ⟨ds.length - (i + 1), by omega, rfl, hlt, G'', kvs', r⟩, fun v H1 y => ?_⟩
    have hg : ds[i]? = some ds[i] := by simp [hlt]
    obtain ⟨G1, n1, d1⟩ := S.yld i _ G' H' v H1 n hg y
    have n2 : Nx M G H G1 H1 := n.trans n1.pure
    have gA1 : G1 A = none := n1.old A gA (by rw [hys]; exact fun z => nomatch z)
    have hys1 : H1 A = some (.dK kvs) := n1.fr A _ (by simp) hys
    refine ⟨wipe1, hs i _ v kvs G1 H1 hg d1 n2 (by rw [hys1]; exact fun z => nomatch z) (jN _ _ _ _ _ _ n1 jv) (fun y z H5 => ∃ kvs k, y = kV k ∧ H5 A = some (.dK kvs) ∧ kvs.length < sizeLine ∧ _) _ (fun y z k G4 H4 ey n4 jv' => ?_) (fun G3 H3 n3 jv' => ?_)⟩
    · have gA4 : G4 A = none := n4.old A gA1 (by rw [hys1]; exact fun z => nomatch z)
      have hys4 : H4 A = some (.dK kvs) := n4.fr A _ hAM hys1
      have n5 : Nx M G H G4 H4 := n2.trans n4
      have n6 : Nx [A] G4 H4 G4 (upd H4 A (.dK (putK kvs k z))) := Nx.set n4.gh gA4 (by simp)
      have n7 : Nx (A :: M) G H G4 (upd H4 A (.dK (putK kvs k z))) := (n5.mono fun _ z => List.mem_cons_of_mem _ z).trans (n6.mono fun b z => by simp at z; simp [z])
      exact ⟨kvs, k, ey, hys4, szl (by omega), G4, putK kvs k z, n7.drop hA, gA4, upd_same, Nat.le_trans (len_ptM (m := kvs)) (by omega), jA _ _ _ _ _ jv'⟩
    · exact ⟨G3, kvs, n2.trans n3, n3.old A gA1 (by rw [hys1]; exact fun z => nomatch z), n3.fr A _ hAM hys1, by omega, jv'⟩
  · have e' : i = ds.length := by omega
    subst e'
    exact .inl ⟨S.stop _ G' H' n (Nat.le_refl _), hd G' H' kvs jv n gA hys hl⟩
/-! ### {k: v} -/
def DiW (Q : VK) (p : Addr) (ps : List (V × V)) (H2 : Hp) : Prop := H2 p = some (.dK []) ∧ ∃ kvs : List (Key × V), ps = kvs.map (fun kv => (kV kv.1, kv.2)) ∧ kvs.length ≤ 15 ∧ Q (.ref p) (upd H2 p (.dK (mergeK [] kvs)))
section
variable {K : PySem.W.Frag} {σ : L2.St} {G H : Hp} {Q : VK} {trs : List (TE × TE)} {tk tv : TE} {p : Addr} {y : V} {R : List (V × V) → Hp → Prop} {k : Key}
theorem g_disp (q : ∀ p, H p = none → tPairs trs σ (upd H p (.dK [])) fun ps H2 => DiW Q p ps H2) : tDisp trs σ H Q := q
theorem g_pair (q : tk σ H fun x H1 => tv σ H1 fun y H2 => tPairs trs σ H2 fun ps H3 => R ((x, y) :: ps) H3) : tPairs ((tk, tv) :: trs) σ H R := q
theorem g_pair0 (q : R [] H) : tPairs [] σ H R := q
theorem g_di1 {x : V} (h : H p = some (.dK [])) (hx : x = kV k) (q : Q (.ref p) (upd H p (.dK [(k, y)]))) : DiW Q p [(x, y)] H := ⟨h, [(k, y)], by rw [hx]; rfl, by show 1 ≤ 15; decide, q⟩
end
/-! ### for k, v in d.items() -/
theorem unlock_nx {M : List Addr} {G H G' H' : Hp} {d : Addr} {u : HO} {od : Obj} (hd : H d = some u) (gd : G d = none) (hM : d ∉ M) (n : Nx M G (upd H d (.frz od u)) G' H') : H' d = some (.frz od u) ∧ G' d = none ∧ Nx M G H G' (upd H' d u) := by
  have h1 : H' d = some (.frz od u) := n.fr d _ hM upd_same
  have h2 : G' d = none := n.old d gd (by rw [upd_same]; exact fun z => nomatch z)
  have lv : ∀ b, H b ≠ none → (upd H d (.frz od u)) b ≠ none := fun b hb => by
    by_cases z : b = d
    · subst z; rw [upd_same]; exact fun w => nomatch w
    · rw [upd_ne z]; exact hb
  refine ⟨h1, h2, n.gg, n.gh.out h2, fun b g hb => n.old b g (lv b hb), fun b hb => ?_, fun b o hb ho => ?_⟩
  · by_cases z : b = d
    · subst z; rw [upd_same]; exact fun w => nomatch w
    · rw [upd_ne z]; exact n.live b (lv b hb)
  · by_cases z : b = d
    · subst z
      rw [hd] at ho
      cases ho
      exact upd_same
    · rw [upd_ne z]
      exact n.fr b o hb (by rw [upd_ne z]; exact ho)
def kD : Key → PyData
  | .inl i => .int i
  | .inr s => .str s
theorem kD_dp {K : PySem.W.Frag} {G : Hp} (k : Key) : Dp K G (kV k) (kD k) := by
  cases k with
  | inl i => exact .int i
  | inr s => exact .str s
def LockW (t : TS) (D : Ends) (σ : L2.St) (H : Hp) : Prop := ∃ d u, H d = some u ∧ Mut (some u) ∧ ∀ od, t ⟨fun σ' H' => H' d = some (.frz od u) ∧ D.nx σ' (upd H' d u), fun v H' => H' d = some (.frz od u) ∧ D.rt v (upd H' d u), fun σ' H' => H' d = some (.frz od u) ∧ D.bk σ' (upd H' d u), fun σ' H' => H' d = some (.frz od u) ∧ D.ct σ' (upd H' d u)⟩ σ (upd H d (.frz od u))
theorem g_lock {t : TS} {D : Ends} {σ : L2.St} {H : Hp} (q : LockW t D σ H) : tLock t D σ H := q
theorem g_iItems {td : TE} {σ : L2.St} {H : Hp} {R : It → Hp → Prop} (q : td σ H fun x H1 => ∃ d o kvs, x = .ref d ∧ H1 d = some (.frz o (.dK kvs)) ∧ R (Iti d o kvs) H1) : iItems td σ H R := q
/-- the walk over the entries of a dict that stands, by the entries of its data; the dict stays -/
theorem g_forItems {K : PySem.W.Frag} {σ : L2.St} {G H : Hp} {D : Ends} {i0 : Nat} {g : TG} {tb : TS} {M : List Addr} {d : Addr} {md : List (Key × PyData)} (r : DctAt K d G H md) (e : Ex G H) (hM : d ∉ M) (hv : σ[i0]? = some (some (.ref d))) (Pv : Nat → L2.St → Hp → Hp → Prop) (h0 : ∀ (od : Obj) (u : HO), Pv 0 σ G (upd H d (.frz od u)))
    (hs : ∀ i k x v σ' G' H' H0 G1 H1, md[i]? = some (k, x) → Nx M G H0 G' H' → Pv i σ' G' H' → Nx [] G' H' G1 H1 → Dp K G1 v (.tuple [kD k, x]) → ∀ R : L2.St → Hp → Prop, (∀ σ3 G3 H3, Nx M G H0 G3 H3 → Pv (i + 1) σ3 G3 H3 → R σ3 H3) → ∀ D' : Ends, D'.nx = R → D'.ct = R →
      g v σ' H1 fun σ2 H2 => tb D' σ2 H2)
    (hd : ∀ (σ' : L2.St) (G' H' : Hp) (od : Obj) (u : HO), Nx M G H G' (upd H' d u) → G' d = none → DctAt K d G' (upd H' d u) md → Pv md.length σ' G' H' → D.nx σ' (upd H' d u)) : tLock (tFor (iItems (tVar i0)) g tb) D σ H := by
  obtain ⟨kvs, h, gd, hk, dd⟩ := id r
  have hlen : kvs.length = md.length := by simpa using congrArg List.length hk
  refine ⟨d, _, h, trivial, fun od => ?_⟩
  show ∃ v, σ[i0]? = some (some v) ∧ _
  refine ⟨_, hv, d, od, kvs, rfl, upd_same, ?_⟩
  have st : Ex G (upd H d (.frz od (.dK kvs))) := e.out gd
  refine ⟨fun i m σ' H' => m = kvs.length - i ∧ i ≤ kvs.length ∧ ∃ G', Nx M G (upd H d (.frz od (.dK kvs))) G' H' ∧ Pv i σ' G' H', ⟨kvs.length, by simp, Nat.zero_le _, G, Nx.refl st, h0 _ _⟩, ?_⟩
  rintro i m σ' H' ⟨rfl, hi, G', n, p⟩
  obtain ⟨hf, gd', nu⟩ := unlock_nx h gd hM n
  by_cases hlt : i < kvs.length
  · refine .inr ⟨⟨hf, hlt⟩, fun σ3 H3 => ∃ G3, Nx M G (upd H d (.frz od (.dK kvs))) G3 H3 ∧ Pv (i + 1) σ3 G3 H3, fun σ3 H3 ⟨G3, n3, p3⟩ => ⟨kvs.length - (i + 1), by omega, rfl, hlt, G3, n3, p3⟩, fun v H1 y => ?_⟩
    obtain ⟨T, k, w, hkw, rfl, hT, rfl⟩ := y
    have hmi : md[i]? = some md[i] := by simp [← hlen, hlt]
    obtain ⟨k2, x2⟩ : Key × PyData := md[i]
    have hk1 : (kvs.map (·.1))[i]? = some k := by rw [List.getElem?_map, hkw]; rfl
    have hmk : ∃ x, md[i]? = some (k, x) ∧ Dp K G w x := by
      have h1 : (md.map (·.1))[i]? = some k := by rw [← hk]; exact hk1
      rw [List.getElem?_map] at h1
      obtain ⟨⟨k3, x3⟩, h3, h4⟩ := Option.map_eq_some_iff.mp h1
      simp only at h4
      subst h4
      obtain ⟨x4, h5, d5⟩ := dpAll_got dd (i := i) (v := w) (by rw [List.getElem?_map, hkw]; rfl)
      rw [List.getElem?_map, h3] at h5
      cases h5
      exact ⟨x3, h3, d5⟩
    obtain ⟨x, hx, dx⟩ := hmk
    have h2 := nx_tup (K := K) n.gh (xs := [kV k, w]) (ds := [kD k, x]) (.cons (kD_dp k) (.cons (dp_mono n.gg dx) .nil)) hT
    exact hs i k x _ σ' G' H' _ _ _ hx n p h2.1 h2.2 _ (fun σ3 G3 H3 n3 p3 => ⟨G3, n3, p3⟩) _ rfl rfl
  · have e' : i = md.length := by omega
    subst e'
    refine .inl ⟨⟨hf, by omega⟩, hf, hd σ' G' H' od _ nu gd' ⟨kvs, upd_same, gd', hk, dpAll_mono n.gg dd⟩ p⟩
/-! ### enumerate(list that stands) -/
section
variable {K : PySem.W.Frag} {G H : Hp} {p : Addr} {L : List PyData}
theorem g_walkEs {P : Addr → Prop} (r : LstAt K p G H L) (q : (∀ M, p ∉ M → Src K M (Ite K p) G H (prs 0 L)) → P p) : ∃ a xs, [V.ref p] = [V.ref a] ∧ SqL K H a xs ∧ P a := by
  obtain ⟨xs, h, g, da⟩ := r
  refine ⟨p, xs, rfl, .of h, q fun M hM => ?_⟩
  refine ⟨fun i G' H' n hi => ⟨xs, xs[i]'(by rw [dpAll_len da, ← prs_len 0 L]; exact hi), .of (n.fr p _ hM h), by rw [prs_len] at hi; simp [dpAll_len da, hi]⟩, fun i G' H' n hi => ⟨xs, .of (n.fr p _ hM h), by rw [dpAll_len da, ← prs_len 0 L]; exact hi⟩, fun i d G' H' x H'' n hi y => ?_⟩
  obtain ⟨T, u, rfl, hT, rfl, f⟩ := y
  have hx := f xs (.of (n.fr p _ hM h))
  rw [prs_get] at hi
  cases q : L[i]? with
  | none => rw [q] at hi; cases hi
  | some d0 =>
    rw [q] at hi
    cases hi
    obtain ⟨v, hv, dv⟩ := dpAll_get da q
    rw [hx] at hv
    cases hv
    have h2 := nx_tup (K := K) n.gh (xs := [.int ((i : Nat) : Int), u]) (ds := [.int ((0 + i : Nat) : Int), d0]) (by rw [Nat.zero_add]; exact .cons (.int _) (.cons (dp_mono n.gg dv) .nil)) hT
    exact ⟨_, h2.1, h2.2⟩
end
/-! ### a constant tuple of ints of the module -/
def tupB (K : PySem.W.Frag) (a : Addr) (ns : List Int) : Bool := match K.lookup a with
  | some ⟨.type "tuple", none, .seq its _, _⟩ => decide (its.toList.map (fun v => match v with | .int i _ => some i | _ => none) = ns.map some)
  | _ => false
end Y
namespace Y
open PySem PySem.Spec PyProof.Rows L2
theorem vals_ints : ∀ {ns : List Int} {vs : List Value}, vs.map (fun v => match v with | .int i _ => some i | _ => none) = ns.map some → Vals (ns.map V.int) vs
  | [], [], _ => .nil
  | [], _ :: _, h => by simp at h
  | _ :: _, [], h => by simp at h
  | n :: ns, v :: vs, h => by
    simp only [List.map_cons, List.cons.injEq] at h
    obtain ⟨h1, h2⟩ := h
    refine .cons ?_ (vals_ints h2)
    split at h1
    · cases h1
      exact ⟨_, rfl⟩
    · cases h1
theorem tupB_ok {K : PySem.W.Frag} {a : Addr} {ns : List Int} {G : Hp} (h : tupB K a ns = true) (hl : ns.length ≤ 100000) : Dp K G (.ref a) (.tuple (ns.map .int)) := by
  unfold tupB at h
  split at h
  · rename_i its n sl e
    have hv := vals_ints (of_decide_eq_true h)
    refine .tup (.inr ⟨_, its, n, e, rfl, rfl, ?_, hv⟩) (dpAll_ints ns)
    have := Paired.length hv
    rw [List.length_map] at this
    have hs : its.size = its.toList.length := Array.length_toList.symm
    rw [hs, ← this]
    exact szle hl
  · cases h
end Y
namespace Y
open PySem PySem.Spec PyProof.Rows L2
/-- name = {k: v for ..} on one line, the name a local -/
theorem ps_setDc {X : Cx} {i : Nat} {y : Str} {py : Pos} {kx vx tg iter : Expr} {ifs : List Expr} {scope : Scope} {own : List (Str × Nat)} {pos spos : Pos} {wi : TI} {g : TG} {tt : TT} {tk tv : TE} (hc : X.calm = true) (nd : X.N.Nodup) (hy : X.N[i]? = some y) (loc : X.env.scope.names.lookup y = some .local)
    (sw : swapsWith (.DictComp kx vx [⟨tg, iter, ifs, 0⟩] scope pos) (some (.Name y py)) spos.line X.env = pure true) (hi : PI X tg iter wi) (ok : BlkOk X.N X.env.scope scope own)
    (hg : ∀ (s : Shared) (H : Hp) (C : Addr) (cl : List (Str × Addr)) (fp : List Addr), PG (X.blk s H scope (compEnvC scope cl C X.env) fp) tg g) (ht : ∀ (s : Shared) (H : Hp) (C : Addr) (cl : List (Str × Addr)) (fp : List Addr), PTs (X.blk s H scope (compEnvC scope cl C X.env) fp) ifs tt)
    (hk : ∀ (s : Shared) (H : Hp) (C : Addr) (cl : List (Str × Addr)) (fp : List Addr), PE (X.blk s H scope (compEnvC scope cl C X.env) fp) kx tk)
    (he : ∀ (s : Shared) (H : Hp) (C : Addr) (cl : List (Str × Addr)) (fp : List Addr), PE (X.blk s H scope (compEnvC scope cl C X.env) fp) vx tv) (hs : ∀ x, foldedSetIterable iter X.env x = pure x := by intro _; rfl) :
    PS X (.Assign [.Name y py] (.DictComp kx vx [⟨tg, iter, ifs, 0⟩] scope pos) spos) (tAsg (tDc wi g tt tk tv (own.map (·.2))) (gName i)) := by
  constructor
  intro pins s σ H D I q0
  rw [exec_Assign_Name_used _ _ _ _ sw]
  refine wpAny_bind (wpAny_standAt (wpAny_bind ?_))
  show wpAny _ X.A (do let _ ← comprehension (.DictComp kx vx [⟨tg, iter, ifs, 0⟩] scope pos) scope X.env (firstIterPos [⟨tg, iter, ifs, 0⟩] pos) newDict false (eval iter X.env) (some (assign (.Name y py) X.env))) _ _ s
  have q1 : tDc wi g tt tk tv (own.map (·.2)) σ H (fun x H1 => gName i x σ H1 D.nx) := q0
  refine wpAny_bind (thn (dc_core (Qf := fun _ s' => SP X pins D .next s') hc nd I hi ok hg ht hk he hs q1 fun L C s' m H' J qq ns fr => ?_) fun _ s' z => wpAny_pure (wpAny_pure z))
  show wpAny _ _ (assign (.Name y py) X.env (.ref L)) _ _ _
  refine wpAny_assign_Name (store_ok2 (v := V.ref L) J nd hy (.inl loc) rfl (fun s2 J2 ⟨a, sb, at_⟩ => ?_) (.inr loc))
  obtain ⟨x0, x1, x2, x3, x4, x5⟩ := fr
  have away : C ≠ a := at_.elim (fun z => by rw [z]; exact x1) fun z w => x4 y a z w.symm
  exact ⟨m, ns.sameBut sb away, fun h3 sb3 => ⟨_, H', J2.turned (t' := s2.toks) (fun b o hb w => (sb3.2 b hb).trans w) x0 x1 x3 x4 x5, qq⟩⟩
theorem sw_trueD {kx vx : Expr} {gs : List Comprehension} {scope : Scope} {pos py : Pos} {y : Str} {l : Nat} {env : Env} (kf : env.scope.kind = .function) (loc : env.scope.names.lookup y = some .local) (hl : (py.line == pos.line) = true)
    (ha : (scope.names.any fun (n, k) => n == y && (k == .local || k == .cell)) = false) : swapsWith (.DictComp kx vx gs scope pos) (some (.Name y py)) l env = pure true := by
  have e1 : env.kindOf y = some .local := loc
  have e2 : env.blockKind = .function := by unfold Env.blockKind; rw [kf]; rfl
  unfold swapsWith
  simp only [e2, e1, ha, Expr.pos, hl]
  rfl
end Y
namespace Y
open PySem PySem.Spec PyProof.Rows L2
theorem g_rawGet {H : Hp} {Q : VK} {d : Addr} {kvs : List (Key × V)} {k : Key} {y v : V} (h : H d = some (.dK kvs)) (hk : y = kV k) (hv : valV kvs k = some v) (q : Q v H) : DGeW Q (.ref d) y H := ⟨d, v, rfl, .inl ⟨kvs, k, .inl h, hk, hv.symm⟩, q⟩
end Y

namespace Y
open PySem PySem.Spec PyProof.Rows L2
/-! ### min(xs, key=len) over a list of tuples: the first of the shortest -/
def rMinLen (K : PySem.W.Frag) : List V → Hp → VK → Prop := fun us H Q => ∃ (a : Addr) (vs : List V) (kf : Nat → Nat), us = [.ref a] ∧ SqL K H a vs ∧ 0 < vs.length ∧
  (∀ i x, vs[i]? = some x → ∃ t xs, x = .ref t ∧ SqT K H t xs ∧ xs.length = kf i) ∧ ∀ i x, vs[i]? = some x → (∀ j, j < vs.length → kf i ≤ kf j ∧ (j < i → kf i < kf j)) → Q x H
def tMinLen (K : PySem.W.Frag) (t : TA) : TE := fun σ H Q => t σ H fun vs H1 => rMinLen K vs H1 Q
section
variable {X : Cx} {pins : List (Addr × Obj)} {σ : List (Option V)} {H : Hp} {s : Shared} {h' : Heap} {m : Str → Option Value} {tk : Nat}
/-- all but this frame's names are kept, and these tell the same -/
theorem inv_same (I : Inv X pins σ H s) (F : Fr X.base X.env.locals s.heap m) (F' : Fr X.base X.env.locals h' m) (k : ∀ b o, b ≠ X.env.locals → s.heap.get? b = some o → h'.get? b = some o) : Inv X pins σ H { s with heap := h', toks := tk } := by
  refine I.step (g' := s.gens) (d' := s.drawn) (ch := []) (fun _ z => nomatch z) (fun b o hb _ _ e _ => k b o hb e) (fun b o hb _ _ e _ => ⟨o.slots, k b o hb e⟩) (fun _ _ _ _ n => n) (fun b o _ e => ?_) (fun _ _ e => e) (fun _ _ _ e => e) (fun _ ps e => ⟨#[], by simpa using e⟩) (fun m' hm => ?_) (fun a o e => ?_) I.bare
  · by_cases hb : b = X.env.locals
    · obtain ⟨o', _, _, ho, _⟩ := F'.ns
      exact ⟨o', hb ▸ ho⟩
    · exact ⟨o, k b o hb e⟩
  · have : m' = m := by
      obtain ⟨o, es, ep, e, d, _, f⟩ := hm
      obtain ⟨o', es', ep', e', d', _, f'⟩ := F.ns
      rw [e] at e'; cases e'
      rw [d] at d'; cases d'
      funext x
      rw [← f x, ← f' x]
    rw [this]
    exact F'.ns
  · refine (I.hok a o e).stay (fun b u c q => k b u (fun z => ?_) q) (fun _ q => q) fun _ _ q => q
    have hf := I.free
    rw [← z] at hf
    rcases c with c | c
    · rw [c, e] at hf; cases hf
    · rw [hf] at c; cases c
theorem vals_back {vs : List V} {us : List Value} {i : Nat} {v : Value} (r : Vals vs us) (h : us[i]? = some v) : ∃ x, vs[i]? = some x ∧ RelV x v := by
  have hi := (List.getElem?_eq_some_iff.mp h).1
  have hl := r.length
  have e : vs[i]? = some vs[i] := by simp [show i < vs.length by omega]
  obtain ⟨u, hu, ru⟩ := r.get e
  rw [h] at hu
  cases hu
  exact ⟨_, e, ru⟩
theorem min_len {us : List V} {ws : List Value} {Q : VK} (hc : X.calm = true) (I : Inv X pins σ H s) (r : Vals us ws) (h : rMinLen X.K us H Q) : wpAny (model X.prog X.w) X.A (call (.builtin "min") ws [(Str.ofString "key", .builtin "len")]) (EP X pins σ Q) X.xe s := by
  obtain ⟨a, vs, kf, rfl, hs, hne, ht, q⟩ := h
  obtain rfl := Vals.ref1 r
  obtain ⟨its, rv, hl, hz⟩ := I.list hs
  obtain ⟨m, F⟩ := I.fr
  have hlen : vs.length = its.length := rv.length
  have keep : ∀ {h : Heap} {more : List (Addr × Obj)}, Fr X.base X.env.locals h m → News X.base X.env.locals h (allNews X.base s.heap X.env.locals ++ more) → ∀ b o, b ≠ X.env.locals → s.heap.get? b = some o → h.get? b = some o := fun {h more} F' N' b o hb e => by
    cases qb : X.base.get? b with
    | some u =>
      have := I.bk b u qb
      rw [e] at this; cases this
      exact F'.keep b _ qb
    | none => exact (N' (b, o) (List.mem_append_left _ (mem_allNews hb qb e))).1
  have keep0 : ∀ {h : Heap}, Fr X.base X.env.locals h m → News X.base X.env.locals h (allNews X.base s.heap X.env.locals) → ∀ b o, b ≠ X.env.locals → s.heap.get? b = some o → h.get? b = some o := fun {h} F' N' => keep (more := []) F' (by rw [List.append_nil]; exact N')
  have notL : ∀ {b : Addr} {o : Obj} {es : Array Value} {n : Nat}, s.heap.get? b = some o → o.data = .seq es n → b ≠ X.env.locals := fun {b o es n} e d z => by
    obtain ⟨o', es', ep', e', d', _⟩ := F.ns
    rw [← z, e] at e'; cases e'
    rw [d] at d'; cases d'
  refine kmb_min (h₀ := X.base) (L := X.env.locals) (m := m) (news := allNews X.base s.heap X.env.locals) (vs := its) (fun i => (kf i : Int)) (I.ok.hd hc) F news_all (fun h F' N' => ?_) (by omega) (fun i v hv h tk own F' N' => ?_) fun i v h' tk' hv hb F' N' => ?_
  · obtain ⟨o, e, c, n, d⟩ := hl.isList
    exact ⟨o, keep0 F' N' _ _ (notL e d) e, c, n, d⟩
  · obtain ⟨x, hx, rx⟩ : ∃ x, vs[i]? = some x ∧ RelV x v := vals_back rv hv
    obtain ⟨t, xs, rfl, hT, hk⟩ := ht i x hx
    obtain ⟨jts, rj, ⟨o, e, c, n, d⟩, hz2⟩ := I.tuple hT
    cases rx
    have hjl : jts.length = kf i := by rw [← hk]; exact rj.length.symm
    have key : (kf i : Int) = ((jts.toArray.size : Nat) : Int) := by rw [List.size_toArray, hjl]
    rw [key]
    exact len_tuple (s := { s with heap := h, toks := tk }) (items := jts.toArray) ⟨o, keep F' N' _ _ (notL e d) e, c, n, d⟩ (by rw [List.size_toArray, hjl, ← hk]; have := hz2; rw [sizeLine_eq] at this; omega) (KskEnd.intro F' N' fun _ hp => hp)
  · obtain ⟨x, hx, rx⟩ : ∃ x, vs[i]? = some x ∧ RelV x v := vals_back rv hv
    refine ⟨x, H, inv_same I F F' (keep0 F' N'), rx, q i x hx fun j hj => ?_⟩
    have := hb j (by omega)
    exact ⟨by omega, fun z => by have := this.2 z; omega⟩
theorem pe_minLenK {K : PySem.W.Frag} {e : Expr} {p pl kp pos : Pos} {t : TA} (h : X.K = K) (hc : X.calm = true) (hg : Gl X "min") (hm : X.mg "min" = none) (hg2 : Gl X "len") (hm2 : X.mg "len" = none) (ha : PA X [e] t)
    (he : backTo pos (starEach [e] X.env) = (false, eval e X.env) :: backTo pos (starEach [] X.env) := by rfl) (hpl : (backTo pos (starEach [e] X.env)).any (·.1) = false := by rfl)
    (hall : (backToKw pos (keywordEach [⟨some (Str.ofString "key"), .Name "len" pl, kp⟩] X.env)).all (·.1.isSome) = true := by rfl) (hnone : (backToKw pos (keywordEach [⟨some (Str.ofString "key"), .Name "len" pl, kp⟩] X.env)).any (·.1.isNone) = false := by rfl) :
    PE X (.Call (.Name "min" p) [e] [⟨some (Str.ofString "key"), .Name "len" pl, kp⟩] pos) (tMinLen K t) := by
  subst h
  refine ⟨fun pins s σ H Q I h => ?_⟩
  refine wpAny_Call_Name_kw (ld_blt I hg hm (by rfl) ?_)
  refine PyProof.Rows.callWith_kw (thn (ha.run pos pins s σ H _ I h) fun us s1 ⟨vs, H1, I1, r1, q1⟩ => kws_cons (ld_blt I1 hg2 hm2 (by rfl) (kws_nil ?_))) he hpl hall hnone
  exact min_len hc I1 r1 q1
end
end Y
namespace Y
open PySem PySem.Spec PyProof.Rows L2
open RT
/-! ### comprehensions over any target, told items or items as they are -/
structure SrcP (M : List Addr) (J : It) (G H : Hp) (n : Nat) (P : Nat → Hp → V → Prop) : Prop where
  go : ∀ i G' H', Nx M G H G' H' → i < n → J.go i H'
  stop : ∀ i G' H', Nx M G H G' H' → n ≤ i → J.stop i H'
  yld : ∀ i G' H' x H'', Nx M G H G' H' → i < n → J.yld i H' x H'' → ∃ G'', Nx [] G' H' G'' H'' ∧ P i G'' x
section
variable {K : PySem.W.Frag} {σ : L2.St} {G H : Hp} {Q : VK} {te : TE} {tt : TT} {g : TG} {J : It} {M : List Addr} {ds : List PyData} {A : Addr} {n : Nat} {P : Nat → Hp → V → Prop} {js : List Nat}
theorem Src.p (S : Src K M J G H ds) : SrcP M J G H ds.length (fun i G x => ∃ d, ds[i]? = some d ∧ Dp K G x d) where
  go := S.go
  stop := S.stop
  yld := fun i G' H' x H'' nx hi y => by
    have hg : ds[i]? = some ds[i] := by simp [hi]
    obtain ⟨G'', n2, d⟩ := S.yld i _ G' H' x H'' nx hg y
    exact ⟨G'', n2, _, hg, d⟩
/-- the values of a list that stands, as they are -/
theorem src_raw {a : Addr} {vs : List V} (h : H a = some (.lst vs)) (ha : a ∉ M) : SrcP M (Itl K a) G H vs.length (fun i _ x => vs[i]? = some x) where
  go := fun i G' H' n hi => ⟨vs, vs[i], .of (n.fr a _ ha h), by simp [hi]⟩
  stop := fun i G' H' n hi => ⟨vs, .of (n.fr a _ ha h), hi⟩
  yld := fun i G' H' x H'' n hi y => by
    obtain ⟨rfl, f⟩ := y
    exact ⟨G', Nx.refl n.gh, f vs (.of (n.fr a _ ha h))⟩
theorem src_revT {a : Addr} {xs : List V} (hs : SqT K G a xs) (hd : DpAll K G xs ds) : Src K M (ItvT K a xs.length) G H ds.reverse where
  go := fun i G' H' n hi => by
    have hl := dpAll_len hd
    rw [List.length_reverse] at hi
    exact ⟨by omega, xs, xs[xs.length - 1 - i]'(by omega), n.gh.seqT (n.gg.seqT hs), by simp⟩
  stop := fun i G' H' n hi => by
    rw [List.length_reverse, ← dpAll_len hd] at hi
    exact hi
  yld := fun i d G' H' x H'' n hi y => by
    obtain ⟨rfl, f⟩ := y
    have hl := dpAll_len hd
    have hil : i < ds.length := by
      have := (List.getElem?_eq_some_iff.mp hi).1
      rwa [List.length_reverse] at this
    rw [List.getElem?_reverse hil] at hi
    have hx := f xs (n.gh.seqT (n.gg.seqT hs))
    rw [hl] at hx
    obtain ⟨v, hv, dv⟩ := dpAll_get hd hi
    rw [hx] at hv
    cases hv
    exact ⟨G', Nx.refl n.gh, dp_mono n.gg dv⟩
theorem g_lcP (S : SrcP M J G H n P) (e : Ex G H) (hA : H A = none) (hM : ∀ b ∈ M, H b ≠ none) (hz : n < sizeLine) (Jv : Nat → List V → Hp → Hp → Prop)
    (jA : ∀ i acc G' H' o, (H' A = none ∨ ∃ ys, H' A = some (.lst ys)) → Jv i acc G' H' → Jv i acc G' (upd H' A o)) (jN : ∀ i acc G' H' G1 H1, Nx [] G' H' G1 H1 → Jv i acc G' H' → Jv i acc G1 H1) (j0 : Jv 0 [] G H)
    (hs : ∀ i v acc G' H', i < n → P i G' v → Nx M G H G' H' → acc.length ≤ i → Jv i acc G' H' → ∀ (QE : VK) (QN : Hp → Prop),
      (∀ y G4 H4, Nx M G' H' G4 H4 → Jv (i + 1) (acc ++ [y]) G4 H4 → QE y H4) → (∀ G3 H3, Nx M G' H' G3 H3 → Jv (i + 1) acc G3 H3 → QN H3) →
      g v (wipe σ js) H' fun σ2 H2 => wipe σ2 js = wipe σ js ∧ tt σ2 H2 fun b H3 => if b = true then te σ2 H3 QE else QN H3)
    (hd : ∀ G' H' ys, Jv n ys G' H' → Nx M G H G' H' → G' A = none → H' A = some (.lst ys) → ys.length ≤ n → Q (.ref A) H') : LcW J g tt te js σ A Q H := by
  have st0 : Nx [] G H G (upd H A (.lst [])) := Nx.own e hA
  have hAM : A ∉ M := fun z => hM A z hA
  refine ⟨fun i m H' => m = n - i ∧ i ≤ n ∧ ∃ G' ys, Nx M G H G' H' ∧ G' A = none ∧ H' A = some (.lst ys) ∧ ys.length ≤ i ∧ Jv i ys G' H',
    ⟨n, by simp, Nat.zero_le _, G, [], st0.pure, e.free hA, upd_same, Nat.le_refl _, jA _ _ _ _ _ (.inl hA) j0⟩, ?_⟩
  rintro i m H' ⟨rfl, hi, G', ys, nx, gA, hys, hl, jv⟩
  by_cases hlt : i < n
  · refine .inr ⟨S.go i G' H' nx hlt, fun H'' => ∃ G'' ys, Nx M G H G'' H'' ∧ G'' A = none ∧ H'' A = some (.lst ys) ∧ ys.length ≤ i + 1 ∧ Jv (i + 1) ys G'' H'',
      fun H'' ⟨G'', ys', r⟩ => ⟨n - (i + 1), by omega, rfl, hlt, G'', ys', r⟩, fun v H1 y => ?_⟩
    obtain ⟨G1, n1, d1⟩ := S.yld i G' H' v H1 nx hlt y
    have n2 : Nx M G H G1 H1 := nx.trans n1.pure
    have gA1 : G1 A = none := n1.old A gA (by rw [hys]; exact fun z => nomatch z)
    have hys1 : H1 A = some (.lst ys) := n1.fr A _ (by simp) hys
    refine hs i v ys G1 H1 hlt d1 n2 hl (jN _ _ _ _ _ _ n1 jv) _ _ (fun y G4 H4 n4 jv' => ?_) (fun G3 H3 n3 jv' => ?_)
    · have gA4 : G4 A = none := n4.old A gA1 (by rw [hys1]; exact fun z => nomatch z)
      have hys4 : H4 A = some (.lst ys) := n4.fr A _ hAM hys1
      have n5 : Nx M G H G4 H4 := n2.trans n4
      have n6 : Nx [A] G4 H4 G4 (upd H4 A (.lst (ys ++ [y]))) := Nx.set n4.gh gA4 (by simp)
      have n7 : Nx (A :: M) G H G4 (upd H4 A (.lst (ys ++ [y]))) := (n5.mono fun _ z => List.mem_cons_of_mem _ z).trans (n6.mono fun b z => by simp at z; simp [z])
      exact ⟨ys, hys4, by omega, G4, ys ++ [y], n7.drop hA, gA4, upd_same, by simp; omega, jA _ _ _ _ _ (.inr ⟨_, hys4⟩) jv'⟩
    · exact ⟨G3, ys, n2.trans n3, n3.old A gA1 (by rw [hys1]; exact fun z => nomatch z), n3.fr A _ hAM hys1, by omega, jv'⟩
  · have e' : i = n := by omega
    subst e'
    exact .inl ⟨S.stop _ G' H' nx (Nat.le_refl _), hd G' H' ys jv nx gA hys hl⟩
/-- told items, any target -/
theorem g_lcPS {es : Nat → List PyData} (S : Src K M J G H ds) (e : Ex G H) (hA : H A = none) (hM : ∀ b ∈ M, H b ≠ none) (hz : ds.length < sizeLine) (e0 : es 0 = [])
    (hs : ∀ i d v acc G' H', ds[i]? = some d → Dp K G' v d → Nx M G H G' H' → DpAll K G' acc (es i) → ∀ (QE : VK) (QN : Hp → Prop),
      (∀ y G4 H4 d', Nx M G' H' G4 H4 → Dp K G4 y d' → es (i + 1) = es i ++ [d'] → QE y H4) → (∀ G3 H3, Nx M G' H' G3 H3 → es (i + 1) = es i → QN H3) →
      g v (wipe σ js) H' fun σ2 H2 => wipe σ2 js = wipe σ js ∧ tt σ2 H2 fun b H3 => if b = true then te σ2 H3 QE else QN H3)
    (hd : ∀ G' H', Nx M G H G' H' → LstAt K A G' H' (es ds.length) → Q (.ref A) H') : LcW J g tt te js σ A Q H := by
  refine g_lcP S.p e hA hM hz (fun i acc G' _ => DpAll K G' acc (es i)) (fun _ _ _ _ _ _ h => h) (fun _ _ _ _ _ _ n h => dpAll_mono n.gg h) (by rw [e0]; exact .nil) (fun i v acc G' H' hi hp n _ hj QE QN k1 k2 => ?_) fun G' H' ys hj n g h _ => hd G' H' n ⟨ys, h, g, hj⟩
  obtain ⟨d, hg, dv⟩ := hp
  exact hs i d v acc G' H' hg dv n hj QE QN (fun y G4 H4 d' n4 dy ee => k1 y G4 H4 n4 (by rw [ee]; exact dpAll_snoc (dpAll_mono n4.gg hj) dy)) fun G3 H3 n3 ee => k2 G3 H3 n3 (by rw [ee]; exact dpAll_mono n3.gg hj)
theorem wipe2 {i j : Nat} {a b : V} : wipe (((wipe σ [i, j]).set i (some a)).set j (some b)) [i, j] = wipe σ [i, j] := by
  show (((((σ.set j none).set i none).set i (some a)).set j (some b)).set j none).set i none = (σ.set j none).set i none
  rw [List.set_set, List.set_set]
  by_cases h : i = j
  · subst h; rw [List.set_set, List.set_set, List.set_set]
  · rw [List.set_comm _ _ (Ne.symm h), List.set_set, List.set_comm _ _ h, List.set_set]
end
theorem pi_revAK {X : Cx} {K : PySem.W.Frag} {tg e : Expr} {te : TE} {p pos : Pos} (h : X.K = K) (hg : Gl X "reversed") (hm : X.mg "reversed" = none) (he : PE X e te) (hs : starEach [e] X.env = (false, eval e X.env) :: starEach [] X.env := by rfl) : PI X tg (.Call (.Name "reversed" p) [e] [] pos) (iRevA K te) := h ▸ pi_revA hg hm he hs
theorem g_revT {K : PySem.W.Frag} {G H : Hp} {x : V} {ds : List PyData} {RL RT : Addr → List V → Prop} (e : Ex G H) (h : Dp K G x (.tuple ds)) (q : ∀ a xs, (∀ M, Src K M (ItvT K a xs.length) G H ds.reverse) → RT a xs) : ∃ (a : Addr) (xs : List V), x = .ref a ∧ ((SqL K H a xs ∧ RL a xs) ∨ (SqT K H a xs ∧ RT a xs)) := by
  obtain ⟨a, xs, rfl, hs, hd⟩ := dp_tup h
  exact ⟨a, xs, rfl, .inr ⟨e.seqT hs, q a xs fun M => src_revT hs hd⟩⟩
end Y
namespace Y
open PySem PySem.Spec PyProof.Rows L2 RT
theorem g_iRevA {K : PySem.W.Frag} {σ : L2.St} {H : Hp} {te : TE} {R : It → Hp → Prop} (q : te σ H fun v H1 => ∃ (a : Addr) (xs : List V), v = .ref a ∧ ((SqL K H1 a xs ∧ R (Itv K a xs.length) H1) ∨ (SqT K H1 a xs ∧ R (ItvT K a xs.length) H1))) : iRevA K te σ H R := q
theorem g_minLen {K : PySem.W.Frag} {σ : L2.St} {H : Hp} {t : TA} {Q : VK} (q : t σ H fun vs H1 => rMinLen K vs H1 Q) : tMinLen K t σ H Q := q
end Y
namespace Y
open PySem PySem.Spec PyProof.Rows L2
section
variable {K : PySem.W.Frag} {G H : Hp} {Q : VK} {p b : Addr} {L L' ds : List PyData} {vs xs : List V} {v : V} {i : Nat}
theorem dpAll_back (h : DpAll K G vs ds) (hi : vs[i]? = some v) : ∃ d, ds[i]? = some d ∧ Dp K G v d := by
  have hl := dpAll_len h
  have hi1 := (List.getElem?_eq_some_iff.mp hi).1
  have e : ds[i]? = some (ds[i]'(by omega)) := by simp [show i < ds.length by omega]
  obtain ⟨u, hu, du⟩ := dpAll_get h e
  rw [hi] at hu
  cases hu
  exact ⟨_, e, du⟩
theorem g_extLs (e : Ex G H) (r : LstAt K p G H L) (r2 : LstAt K b G H L') (hl : L.length + L'.length ≤ 100000) (q : ∀ H', Nx [p] G H G H' → LstAt K p G H' (L ++ L') → Q .non H') : rExtend (.ref p) [.ref b] H Q := by
  obtain ⟨xs, h, g, da⟩ := r
  obtain ⟨ys, h2, g2, db⟩ := r2
  exact g_ext h h2 (by rw [dpAll_len da, dpAll_len db]; exact szle hl) (q _ (Nx.set e g (by simp)) ⟨_, upd_same, g, dpAll_app da db⟩)
/-- a tuple of values as they are -/
theorem g_tupRaw (e : Ex G H) (hl : xs.length ≤ sizeLine) (q : ∀ p G' H', Nx [] G H G' H' → H p = none → SqT K G' p xs → Q (.ref p) H') : MkT xs H Q :=
  ⟨hl, fun p hp => q p (upd G p (.tup xs)) _ ((Nx.own e hp).know hp upd_same (e.free hp)) hp (.of upd_same)⟩
/-- the first of the shortest, told: its place -/
theorem g_minLs (h : H p = some (.lst vs)) (e : Ex G H) (d : DpAll K G vs ds) (ns : List (List PyData)) (hd : ds = ns.map .tuple) (hne : 0 < ds.length)
    (q : ∀ (i : Nat) (x : V) (w : List PyData), vs[i]? = some x → ns[i]? = some w → Dp K G x (.tuple w) → (∀ (j : Nat) (u : List PyData), ns[j]? = some u → w.length ≤ u.length ∧ (j < i → w.length < u.length)) → Q x H) : rMinLen K [.ref p] H Q := by
  subst hd
  have hl := dpAll_len d
  have key : ∀ i x, vs[i]? = some x → ∃ w, ns[i]? = some w ∧ Dp K G x (.tuple w) := fun i x hx => by
    obtain ⟨d', hd', dx⟩ := dpAll_back d hx
    rw [List.getElem?_map] at hd'
    obtain ⟨w, hw, rfl⟩ := Option.map_eq_some_iff.mp hd'
    exact ⟨w, hw, dx⟩
  refine ⟨p, vs, fun i => ((ns[i]?).getD []).length, rfl, .of h, by omega, fun i x hx => ?_, fun i x hx hb => ?_⟩
  · obtain ⟨w, hw, dx⟩ := key i x hx
    obtain ⟨t, xs, rfl, hs, da⟩ := dp_tup dx
    exact ⟨t, xs, rfl, e.seqT hs, by show xs.length = ((ns[i]?).getD []).length; rw [hw, dpAll_len da]; rfl⟩
  · obtain ⟨w, hw, dx⟩ := key i x hx
    refine q i x w hx hw dx fun j u hu => ?_
    have hj : j < vs.length := by
      have := (List.getElem?_eq_some_iff.mp hu).1
      rw [List.length_map] at hl
      omega
    have := hb j hj
    simp only [hw, hu, Option.getD_some] at this
    exact this
end
end Y
namespace Y
open PySem PySem.Spec PyProof.Rows L2
section
variable {K : PySem.W.Frag} {G H : Hp} {σ : L2.St} {R : L2.St → Hp → Prop} {t : Addr} {v1 v2 : V} {i j : Nat} {Q : VK}
theorem g_un2R (e : Ex G H) (h : SqT K G t [v1, v2]) (q : R ((σ.set i (some v1)).set j (some v2)) H) : gTup K 2 (gCons (gName i) (gCons (gName j) gNil)) (.ref t) σ H R :=
  ⟨t, _, rfl, e.seqT h, rfl, _, _, rfl, _, _, rfl, rfl, q⟩
end
def mergeM {κ α : Type} [DecidableEq κ] (md more : List (κ × α)) : List (κ × α) := more.foldl (fun acc kv => ptM acc kv.1 kv.2) md
section
variable {K : PySem.W.Frag} {G H : Hp} {Q : VK} {d o : Addr} {md more : List (Key × PyData)}
theorem merge_rel : ∀ {more : List (Key × PyData)} {ks : List (Key × V)} {kvs : List (Key × V)} {md : List (Key × PyData)}, kvs.map (·.1) = md.map (·.1) → DpAll K G (kvs.map (·.2)) (md.map (·.2)) → ks.map (·.1) = more.map (·.1) → DpAll K G (ks.map (·.2)) (more.map (·.2)) →
    (mergeK kvs ks).map (·.1) = (mergeM md more).map (·.1) ∧ DpAll K G ((mergeK kvs ks).map (·.2)) ((mergeM md more).map (·.2))
  | [], [], _, _, h1, h2, _, _ => ⟨h1, h2⟩
  | (k, x) :: more, (k', v) :: ks, kvs, md, h1, h2, h3, h4 => by
    simp only [List.map_cons, List.cons.injEq] at h3
    obtain ⟨rfl, h3⟩ := h3
    cases h4 with
    | cons a t =>
      obtain ⟨p1, p2⟩ := pt_rel (v := v) (x := x) k' a h1 h2
      exact merge_rel (kvs := putK kvs k' v) (md := ptM md k' x) p1 p2 h3 t
theorem mergeM_len : ∀ {more md : List (Key × PyData)}, (mergeM md more).length ≤ md.length + more.length
  | [], _ => by simp [mergeM]
  | p :: more, md => by
    have := mergeM_len (more := more) (md := ptM md p.1 p.2)
    have h2 := len_ptM (m := md) (k := p.1) (a := p.2)
    show (mergeM (ptM md p.1 p.2) more).length ≤ _
    rw [List.length_cons]
    omega
theorem gtM_merge {k : Key} : ∀ {more md : List (Key × PyData)}, gtM (mergeM md more) k = (gtM more.reverse k).or (gtM md k)
  | [], md => by simp [mergeM, gtM]
  | p :: more, md => by
    show gtM (mergeM (ptM md p.1 p.2) more) k = _
    rw [gtM_merge, gtM_ptM, List.reverse_cons, gtM_app, gtM_cons]
    by_cases h : p.1 = k
    · rw [if_pos h, if_pos h]
      cases gtM more.reverse k <;> rfl
    · rw [if_neg h, if_neg h]
      cases gtM more.reverse k <;> rfl
theorem g_updD (e : Ex G H) (r : DctAt K d G H md) (r2 : DctAt K o G H more) (hne : d ≠ o) (hl : md.length + more.length ≤ 100000) (q : ∀ H', Nx [d] G H G H' → DctAt K d G H' (mergeM md more) → Q .non H') : rUpd (.ref d) [.ref o] H Q := by
  obtain ⟨kvs, h, g, hk, dd⟩ := r
  obtain ⟨ks, h2, g2, hk2, dd2⟩ := r2
  have l1 : kvs.length = md.length := by simpa using congrArg List.length hk
  have l2 : ks.length = more.length := by simpa using congrArg List.length hk2
  obtain ⟨m1, m2⟩ := merge_rel hk dd hk2 dd2
  exact ⟨d, o, kvs, ks, rfl, rfl, h, h2, hne, by rw [l1, l2]; exact szle hl, q _ (Nx.set e g (by simp)) ⟨_, upd_same, g, m1, m2⟩⟩
end
end Y
namespace Y
open PySem PySem.Spec PyProof.Rows L2
theorem g_inSd {K : PySem.W.Frag} {G H : Hp} {Q : VK} {v : V} {ss : List Str} {t : Str} (e : Ex G H) (h : Dp K G v (.list (ss.map .str))) (q : Q (.bl (decide (t ∈ ss))) H) : rIn K false (.str t) v H Q := by
  obtain ⟨a, xs, rfl, hs, da⟩ := dp_lst h
  rw [dpAll_str_inv da] at hs
  exact g_inS (neg := false) (e.seqL hs) q
end Y

/-! ### == and != of things that are equal: scalars, tuples, lists, dicts with plain keys and with tuples as keys, nested -/
namespace YQ
open PySem PySem.SeqAt
section
variable {prog : Program} {w : World} {A : Around} {s : Shared}
/-- all pairs of two rows are equal -/
def AllEq (prog : Program) (w : World) (A : Around) (s : Shared) (us ws : Array Value) : Prop := ∀ j (h1 : j < us.size) (h2 : j < ws.size), EqP prog w A.in1 s us[j] ws[j] true
theorem ne_loop {p q : Addr} {us ws : Array Value} {m n : Nat} {d1 d2 : Option Addr} {s1 s2 : Array (Option Value)} (hsz : us.size = ws.size) :
    ∀ (k i : Nat), us.size = i + k → MeetsIn prog w (Builtin.«list.__eq__.loop» ⟨[.ref p, .ref q, rawInt i, rawInt 3], []⟩)
      (fun A R s => (s.heap.get? p = some { cls := .type "list", dict := d1, data := .seq us m, slots := s1 } ∧ s.heap.get? q = some { cls := .type "list", dict := d2, data := .seq ws n, slots := s2 }) ∧ AllEq prog w A s us ws ∧ R (.ok (.ret (.bool false))) s)
  | 0, i, hi => by
    rintro A R ⟨hp, g, d, tk, os⟩ ⟨⟨hl, hb⟩, _, z⟩
    wp_walk using AutoSeq1.wpAny_loadPart' hl, AutoSeq1.wpAny_loadPart' hb
    have a1 : us[((i : Nat) : Int).toNat]? = none := by simp; omega
    have a2 : ws[((i : Nat) : Int).toNat]? = none := by simp; omega
    rw [a1, a2]
    wp_walk using AutoSeq1.wpAny_loadPart' hl, AutoSeq1.wpAny_loadPart' hb
    have e : (us.size != ws.size) = false := by rw [hsz]; simp
    show R (.ok (.ret (.bool (us.size != ws.size)))) _
    rw [e]
    exact z
  | k + 1, i, hi => by
    rintro A R ⟨hp, g, d, tk, os⟩ ⟨⟨hl, hb⟩, he, z⟩
    wp_walk using AutoSeq1.wpAny_loadPart' hl, AutoSeq1.wpAny_loadPart' hb
    have l1 : i < us.size := by omega
    have l2 : i < ws.size := hsz ▸ l1
    have a1 : us[((i : Nat) : Int).toNat]? = some us[i] := by simp [l1]
    have a2 : ws[((i : Nat) : Int).toNat]? = some ws[i] := by simp [l2]
    rw [a1, a2]
    refine wpAny_bind (he i l1 l2 _ _ ?_)
    wp_walk
    have nx : (i : Int) + 1 = ((i + 1 : Nat) : Int) := rfl
    rw [nx]
    refine ⟨plainId_quiet MeetsSeq3.plain_eq_loop _, codeAny_builtin MeetsSeq3.entry_eq_loop ?_⟩
    rw [Around.under_plainId MeetsSeq3.plain_eq_loop _]
    exact ne_loop hsz k (i + 1) (by omega) A R _ ⟨⟨hl, hb⟩, he, z⟩
theorem list_ne {p q : Addr} {us ws : Array Value} {m n : Nat} {d1 d2 : Option Addr} {s1 s2 : Array (Option Value)} (hsz : us.size = ws.size) : MeetsIn prog w (Builtin.«list.__ne__» ⟨[.ref p, .ref q], []⟩)
      (fun A R s => (s.heap.get? p = some { cls := .type "list", dict := d1, data := .seq us m, slots := s1 } ∧ s.heap.get? q = some { cls := .type "list", dict := d2, data := .seq ws n, slots := s2 }) ∧ AllEq prog w A s us ws ∧ R (.ok (.ret (.bool false))) s) := by
  rintro A R ⟨hp, g, d, tk, os⟩ ⟨⟨hl, hb⟩, he, z⟩
  have sub := AutoSeq1.sub_list_list
  have same : ¬ (us.size != ws.size) = true := by rw [hsz]; simp
  wp_walk using AutoSeq1.wpAny_loadPart' hl, AutoSeq1.wpAny_loadPart' hb
  refine ⟨plainId_quiet MeetsSeq3.plain_eq_loop _, codeAny_builtin MeetsSeq3.entry_eq_loop ?_⟩
  rw [Around.under_plainId MeetsSeq3.plain_eq_loop _]
  exact ne_loop hsz us.size 0 (by omega) A R _ ⟨⟨hl, hb⟩, he, z⟩
theorem tup_ne {p q : Addr} {us ws : Array Value} {m n : Nat} {d1 d2 : Option Addr} {s1 s2 : Array (Option Value)} (hsz : us.size = ws.size) : MeetsIn prog w (Builtin.«tuple.__ne__» ⟨[.ref p, .ref q], []⟩)
      (fun A R s => (s.heap.get? p = some { cls := .type "tuple", dict := d1, data := .seq us m, slots := s1 } ∧ s.heap.get? q = some { cls := .type "tuple", dict := d2, data := .seq ws n, slots := s2 }) ∧ AllEq prog w A s us ws ∧ R (.ok (.ret (.bool false))) s) := by
  rintro A R ⟨hp, g, d, tk, os⟩ ⟨⟨hl, hb⟩, he, z⟩
  have sub := AutoSeq1.sub_tuple_tuple
  have zl : (us.toList.zip ws.toList).length = us.size := by simp [hsz]
  wp_walk using AutoSeq1.wpAny_loadPart' hl, AutoSeq1.wpAny_loadPart' hb, wpAny_forIn_list _ (fun todo b s' => b.1 = none ∧ s' = (⟨hp, g, d, tk, os⟩ : Shared) ∧ ∃ i, todo = (us.toList.zip ws.toList).drop i ∧ i ≤ us.size) _
  case turn =>
    rintro ⟨y, x⟩ todo b s' ⟨b1, rfl, i, hz, hi⟩
    have il : i < (us.toList.zip ws.toList).length := Classical.byContradiction fun z => by
      rw [List.drop_of_length_le (by omega)] at hz
      cases hz
    have l1 : i < us.size := zl ▸ il
    have l2 : i < ws.size := hsz ▸ l1
    rw [List.drop_eq_getElem_cons il] at hz
    injection hz with e1 e2
    have ey : y = us[i] := by simpa using congrArg Prod.fst e1
    have ex : x = ws[i] := by simpa using congrArg Prod.snd e1
    subst ey ex
    refine wpAny_bind (he i l1 l2 _ _ ?_)
    wp_walk
    exact ⟨rfl, rfl, i + 1, e2, l1⟩
  case fin =>
    rintro ⟨b1, b2⟩ s' ⟨hb1, rfl, i, hz, hi⟩
    simp only at hb1
    subst hb1
    wp_walk
    have e : (us.size != ws.size) = false := by rw [hsz]; simp
    show R (.ok (.ret (.bool (us.size != ws.size)))) _
    rw [e]
    exact z
  case h => exact ⟨rfl, rfl, 0, rfl, Nat.zero_le _⟩
/-- two rows, equal -/
theorem rcNe_list {p q : Addr} {us ws : Array Value} (hl : s.heap.IsList p us) (hb : s.heap.IsList q ws) (hsz : us.size = ws.size) (hu : A.units < cLine) (he : AllEq prog w A s us ws) (E Q : Value → Shared → Prop) (z : Q (.bool false) s) :
    wpAny (model prog w) A (richCompare .NotEq (.ref p) (.ref q)) Q E s := by
  obtain ⟨⟨c1, d1, a1, s1⟩, ho, h1, n, h2⟩ := hl
  obtain ⟨⟨c2, d2, a2, s2⟩, ho2, h3, n2, h4⟩ := hb
  simp only at h1 h2 h3 h4
  subst h1 h2 h3 h4
  exact wpAny_richCompare_same_room (op := .NotEq) ⟨_, ho, rfl⟩ ⟨_, ho2, rfl⟩ F.slot_list_ne (call_meetsIn F.slot_list_ne ⟨_, ho, rfl⟩ F.entry_list_ne (F.args_list_ne_2 _ _) (list_ne hsz) ⟨⟨ho, ho2⟩, he, (fun x => nomatch x), z⟩) hu
theorem rcNe_tup {p q : Addr} {us ws : Array Value} (hl : s.heap.IsTuple p us) (hb : s.heap.IsTuple q ws) (hsz : us.size = ws.size) (hu : A.units < cLine) (he : AllEq prog w A s us ws) (E Q : Value → Shared → Prop) (z : Q (.bool false) s) :
    wpAny (model prog w) A (richCompare .NotEq (.ref p) (.ref q)) Q E s := by
  obtain ⟨⟨c1, d1, a1, s1⟩, ho, h1, n, h2⟩ := hl
  obtain ⟨⟨c2, d2, a2, s2⟩, ho2, h3, n2, h4⟩ := hb
  simp only at h1 h2 h3 h4
  subst h1 h2 h3 h4
  exact wpAny_richCompare_same_room (op := .NotEq) ⟨_, ho, rfl⟩ ⟨_, ho2, rfl⟩ F.slot_tuple_ne (call_meetsIn F.slot_tuple_ne ⟨_, ho, rfl⟩ F.entry_tuple_ne (F.args_tuple_ne_2 _ _) (tup_ne hsz) ⟨⟨ho, ho2⟩, he, (fun x => nomatch x), z⟩) hu
theorem rcEq_tup {p q : Addr} {us ws : Array Value} (hl : s.heap.IsTuple p us) (hb : s.heap.IsTuple q ws) (hsz : us.size = ws.size) (hu : A.units < cLine) (he : AllEq prog w A s us ws) (E Q : Value → Shared → Prop) (z : Q (.bool true) s) :
    wpAny (model prog w) A (richCompare .Eq (.ref p) (.ref q)) Q E s :=
  GQ.rc_tupG hsz hu (fun _ s' => s' = s) hl hb (fun i h1 h2 s' e => by subst e; exact he i h1 h2 _ _ ⟨rfl, rfl⟩) (fun s' e => by subst e; exact z) rfl
theorem rcEq_list {p q : Addr} {us ws : Array Value} (hl : s.heap.IsList p us) (hb : s.heap.IsList q ws) (hsz : us.size = ws.size) (hu : A.units < cLine) (he : AllEq prog w A s us ws) (E Q : Value → Shared → Prop) (z : Q (.bool true) s) :
    wpAny (model prog w) A (richCompare .Eq (.ref p) (.ref q)) Q E s :=
  rcP_lists (e := fun _ => true) hl hb hsz hu he E Q (by rw [show ((List.range us.size).all fun _ => true) = true from List.all_eq_true.mpr fun _ _ => rfl]; exact z)
/-- dicts, by the walk over their pairs -/
theorem rcNe_dict_of {a b : Addr} (ta : s.TypeIs (.ref a) "dict") (tb : s.TypeIs (.ref b) "dict") (hu : A.units < cLine) (same : ∀ (nm : String) (E : Value → Shared → Prop) (Q : Bool → Shared → Prop), Q true s → wpAny (model prog w) A.in1 (Builtin.Dict.samePairs nm a b) Q E s) (E Q : Value → Shared → Prop) (z : Q (.bool false) s) :
    wpAny (model prog w) A (richCompare .NotEq (.ref a) (.ref b)) Q E s := by
  refine wpAny_richCompare_same_room (op := .NotEq) ta tb F.slot_dict_ne (wpAny_call_entry F.slot_dict_ne ta F.entry_dict_ne ?_ (F.args_dict_ne_2 _ _)) hu
  show wpAny _ _ (Builtin.Dict.dictSlotArgs "__ne__" ⟨[.ref a, .ref b], []⟩ >>= _) _ _ s
  refine wpAny_bind ?_
  unfold Builtin.Dict.dictSlotArgs
  refine wpAny_bind (wpAny_notOrdered_dict ta ?_)
  show wpAny _ _ (pure (Value.ref a, Value.ref b)) _ _ s
  refine wpAny_pure (wpAny_bind (wpAny_isInstance (T := "dict") tb F.sub_dict_dict ?_))
  simp only [Bool.not_true, Bool.false_eq_true, if_false]
  exact wpAny_bind (wpAny_pure (wpAny_bind (wpAny_pure (wpAny_bind (same _ _ _ (wpAny_pure ⟨_, rfl, (fun x => nomatch x), z⟩))))))
theorem rcEq_dict_of {a b : Addr} (ta : s.TypeIs (.ref a) "dict") (tb : s.TypeIs (.ref b) "dict") (hu : A.units < cLine) (same : ∀ (nm : String) (E : Value → Shared → Prop) (Q : Bool → Shared → Prop), Q true s → wpAny (model prog w) A.in1 (Builtin.Dict.samePairs nm a b) Q E s) (E Q : Value → Shared → Prop) (z : Q (.bool true) s) :
    wpAny (model prog w) A (richCompare .Eq (.ref a) (.ref b)) Q E s := by
  refine wpAny_richCompare_same_room (op := .Eq) ta tb F.slot_dict_eq (wpAny_call_entry F.slot_dict_eq ta F.entry_dict_eq ?_ (F.args_dict_eq_2 _ _)) hu
  show wpAny _ _ (Builtin.Dict.dictSlotArgs "__eq__" ⟨[.ref a, .ref b], []⟩ >>= _) _ _ s
  refine wpAny_bind ?_
  unfold Builtin.Dict.dictSlotArgs
  refine wpAny_bind (wpAny_notOrdered_dict ta ?_)
  show wpAny _ _ (pure (Value.ref a, Value.ref b)) _ _ s
  refine wpAny_pure (wpAny_bind (wpAny_isInstance (T := "dict") tb F.sub_dict_dict ?_))
  simp only [Bool.not_true, Bool.false_eq_true, if_false]
  exact wpAny_bind (wpAny_pure (wpAny_bind (wpAny_pure (wpAny_bind (same _ _ _ (wpAny_pure ⟨_, rfl, (fun x => nomatch x), z⟩))))))
/-- two dicts whose keys stand on the heap: every pair of the first has an equal one in the second -/
theorem samePairsH {K : Type} [DecidableEq K] {knd : HeapKind prog w K} {nm : String} {a b : Addr} {ka kb : List (K × Addr × Value)} {Q : Bool → Shared → Prop} {E : Value → Shared → Prop} (ha : (a == sysModules) = false) (hb : (b == sysModules) = false)
    (da : s.heap.DictOfH knd a ka) (db : s.heap.DictOfH knd b kb) (hr : knd.room A) (hl : ka.length = kb.length) (hit : ∀ x ∈ ka, ∃ (j : Nat) (p : Addr × Value), kb[j]? = some (x.1, p) ∧ EqP prog w A s x.2.2 p.2 true) (z : Q true s) :
    wpAny (model prog w) A (Builtin.Dict.samePairs nm a b) Q E s := by
  obtain ⟨oa, ea, na, hoa, _, hda, hka, hisa, _⟩ := da
  obtain ⟨ob, eb, nb, hob, _, hdb, hkb, hisb, hnb⟩ := db
  have la := size_of_entries hka
  have lb := size_of_entries hkb
  unfold Builtin.Dict.samePairs Builtin.Dict.showsAll
  rw [if_neg (by rw [ha]; exact Bool.false_ne_true), if_neg (by rw [hb]; exact Bool.false_ne_true)]
  refine wpAny_bind (wpAny_pure (wpAny_bind (wpAny_pure (wpAny_bind (wpAny_dictEntries hoa hda ?_)))))
  dsimp only
  refine wpAny_bind (wpAny_dictEntries hob hdb ?_)
  rw [if_neg (by rw [la, lb, hl]; simp)]
  refine wpAny_bind (wpAny_dictEpoch hoa hda (wpAny_bind ?_))
  rw [Std.Legacy.Range.forIn_eq_forIn_range']
  simp only [Std.Legacy.Range.size, Nat.sub_zero, Nat.add_sub_cancel, Nat.div_one]
  refine wpAny_forIn_list _ (fun todo st s' => s' = s ∧ st = (none, ()) ∧ ∃ i, i ≤ ea.size ∧ todo = List.range' i (ea.size - i)) _ ?_ ?_ _ _ ⟨rfl, rfl, 0, Nat.zero_le _, by simp⟩
  · rintro x todo st s' ⟨rfl, rfl, i, hi, hx⟩
    have il : i < ea.size := Classical.byContradiction fun q => by
      rw [Nat.sub_eq_zero_of_le (by omega)] at hx
      cases hx
    rw [show ea.size - i = (ea.size - (i + 1)) + 1 by omega, List.range'_succ] at hx
    injection hx with e1 e2
    subst e1
    have xl : x < ka.length := la ▸ il
    have hex : ea[x]? = some (entryOfKey knd ka[x]) := by rw [entry_at hka, List.getElem?_eq_getElem xl]; rfl
    obtain ⟨j0, p0, hj0, heq⟩ := hit ka[x] (List.getElem_mem xl)
    refine wpAny_bind (wpAny_dictEntries hoa hda ?_)
    rw [hex]
    refine wpAny_bind (wpAny_holding (wpAny_bind (wpAny_dictFind_heap hr (hisa _ (List.getElem_mem xl)) hob hdb hkb hisb hnb (fun no => (no j0 p0 hj0).elim) fun j p hj => ?_)))
    have epp : p = p0 := by
      have m1 := List.getElem?_eq_some_iff.mp hj
      have m2 := List.getElem?_eq_some_iff.mp hj0
      obtain ⟨l1, q1⟩ := m1
      obtain ⟨l2, q2⟩ := m2
      have : j = j0 := (List.getElem_inj (i := j) (j := j0) (h₀ := by rw [List.length_map]; exact l1) (h₁ := by rw [List.length_map]; exact l2) hnb).mp (by rw [List.getElem_map, List.getElem_map, q1, q2])
      subst this
      rw [q1] at q2
      exact congrArg Prod.snd q2
    subst epp
    refine wpAny_bind (wpAny_dictEntries hob hdb ?_)
    have hey : eb[j]? = some (entryOfKey knd (ka[x].1, p)) := by rw [entry_at hkb, hj]; rfl
    rw [hey]
    refine wpAny_holding (heq _ _ ?_)
    show wpAny _ _ (if (!true) = true then _ else _) _ _ _
    rw [if_neg (by decide)]
    refine wpAny_bind (wpAny_dictEpoch hoa hda ?_)
    rw [if_neg (by simp)]
    exact wpAny_pure ⟨rfl, rfl, x + 1, il, e2⟩
  · rintro st s' ⟨rfl, rfl, i, hi, hx⟩
    exact wpAny_pure z
end
end YQ
namespace Y
open PySem PySem.Spec PyProof.Rows L2
/-! ### the same over the abstract heap -/
/-- rows of equal things; dicts with equal things at the same keys -/
def EqR2 (K : PySem.W.Frag) (H : Hp) (F : V → V → Prop) (x y : V) : Prop :=
  (∃ a b xs ys, x = .ref a ∧ y = .ref b ∧ SqL K H a xs ∧ SqL K H b ys ∧ Paired F xs ys) ∨ (∃ a b xs ys, x = .ref a ∧ y = .ref b ∧ SqT K H a xs ∧ SqT K H b ys ∧ Paired F xs ys) ∨
    (∃ a b ks ls, x = .ref a ∧ y = .ref b ∧ H a = some (.dK ks) ∧ H b = some (.dK ls) ∧ ks.length = ls.length ∧ ∀ p ∈ ks, ∃ u, valV ls p.1 = some u ∧ F p.2 u) ∨
    ∃ a b ks ls, x = .ref a ∧ y = .ref b ∧ H a = some (.dT ks) ∧ H b = some (.dT ls) ∧ ks.length = ls.length ∧ ∀ p ∈ ks, ∃ u, valV ls p.1 = some u ∧ F p.2 u
/-- equal, nested below n -/
def EqW (K : PySem.W.Frag) (H : Hp) : Nat → V → V → Prop
  | 0 => fun _ _ => False
  | n + 1 => fun x y => (x = y ∧ flatB x = true) ∨ (∃ a, x = .ref a ∧ y = .ref a) ∨ EqR2 K H (EqW K H n) x y
section
variable {X : Cx} {pins : List (Addr × Obj)} {σ : L2.St} {H : Hp} {s : Shared} {A : Around}
theorem allEq_of {F : V → V → Prop} (ih : ∀ x y v u, F x y → RelV x v → RelV y u → SeqAt.EqP X.prog X.w A.in1 s v u true) {xs ys : List V} {us ws : List Value} (hp : Paired F xs ys) (r1 : Vals xs us) (r2 : Vals ys ws) : us.toArray.size = ws.toArray.size ∧ YQ.AllEq X.prog X.w A s us.toArray ws.toArray := by
  refine ⟨by rw [List.size_toArray, List.size_toArray, ← r1.length, ← r2.length]; exact Paired.length hp, fun j h1 h2 => ?_⟩
  have := items_run ih hp r1 r2 j (by simpa using h1) (by simpa using h2)
  simpa using this
theorem same_dK (I : Inv X pins σ H s) {F : V → V → Prop} {a b : Addr} {ks ls : List (Key × V)} (ih : ∀ x y v u, F x y → RelV x v → RelV y u → SeqAt.EqP X.prog X.w A s v u true) (ha : H a = some (.dK ks)) (hb : H b = some (.dK ls)) (hl : ks.length = ls.length) (hp : ∀ p ∈ ks, ∃ u, valV ls p.1 = some u ∧ F p.2 u) :
    (s.TypeIs (.ref a) "dict" ∧ s.TypeIs (.ref b) "dict") ∧ ∀ (nm : String) (E : Value → Shared → Prop) (Q : Bool → Shared → Prop), Q true s → wpAny (model X.prog X.w) A (Builtin.Dict.samePairs nm a b) Q E s := by
  obtain ⟨_, ya, va, ra, da⟩ := dk_of I.hok ha
  obtain ⟨_, yb, vb, rb, db⟩ := dk_of I.hok hb
  refine ⟨⟨da.typeIs, db.typeIs⟩, fun nm E Q q => PySem.W.samePairsP (r := true) ya yb da db (fun _ => hits_run ih rb ra hp) ?_⟩
  have e : va.length = vb.length := by rw [← ra.length, ← rb.length]; exact hl
  rw [e]
  simpa using q
theorem paired_get {α β : Type} {R : α → β → Prop} : ∀ {xs : List α} {ys : List β}, Paired R xs ys → ∀ {i : Nat} (h1 : i < xs.length) (h2 : i < ys.length), R xs[i] ys[i]
  | _, _, .cons h t, 0, _, _ => h
  | _, _, .cons h t, i + 1, h1, h2 => paired_get t (Nat.lt_of_succ_lt_succ h1) (Nat.lt_of_succ_lt_succ h2)
theorem atKey_some {κ α : Type} [DecidableEq κ] {xs : List (κ × α)} {k : κ} {p : α} (h : (xs.find? fun x => decide (x.1 = k)).map (·.2) = some p) : ∃ j : Nat, xs[j]? = some (k, p) := by
  obtain ⟨x, hx, rfl⟩ := Option.map_eq_some_iff.mp h
  obtain ⟨j, hj, e⟩ := List.getElem_of_mem (List.mem_of_find?_eq_some hx)
  have h1 := List.find?_some hx
  rw [decide_eq_true_eq] at h1
  exact ⟨j, by rw [List.getElem?_eq_getElem hj, e, ← h1]⟩
theorem same_dT (I : Inv X pins σ H s) {F : V → V → Prop} {a b : Addr} {ks ls : List (List Key × V)} (hr : (tupleKind (mixKind X.prog X.w)).room A) (ih : ∀ x y v u, F x y → RelV x v → RelV y u → SeqAt.EqP X.prog X.w A s v u true) (ha : H a = some (.dT ks)) (hb : H b = some (.dT ls)) (hl : ks.length = ls.length) (hp : ∀ p ∈ ks, ∃ u, valV ls p.1 = some u ∧ F p.2 u) :
    (s.TypeIs (.ref a) "dict" ∧ s.TypeIs (.ref b) "dict") ∧ ∀ (nm : String) (E : Value → Shared → Prop) (Q : Bool → Shared → Prop), Q true s → wpAny (model X.prog X.w) A (Builtin.Dict.samePairs nm a b) Q E s := by
  obtain ⟨_, ya, va, ra, da⟩ := dt_of I.hok ha
  obtain ⟨_, yb, vb, rb, db⟩ := dt_of I.hok hb
  refine ⟨⟨da.typeIs, db.typeIs⟩, fun nm E Q q => YQ.samePairsH ya yb da db hr (by rw [← Paired.length ra, ← Paired.length rb]; exact hl) (fun x hx => ?_) q⟩
  obtain ⟨i, hi, e⟩ := List.getElem_of_mem hx
  have hil : i < ks.length := by rw [Paired.length ra]; exact hi
  have hpr := paired_get ra hil hi
  rw [e] at hpr
  obtain ⟨h1, _, h3⟩ := hpr
  obtain ⟨u, hu, hF⟩ := hp ks[i] (List.getElem_mem hil)
  have rr : RelO (some u) ((atKey vb ks[i].1).map (·.2)) := by rw [← hu]; exact rb.val _
  obtain ⟨y, hy, ry⟩ := rr.some_of
  obtain ⟨q, hq, rfl⟩ := Option.map_eq_some_iff.mp hy
  obtain ⟨j, hj⟩ := atKey_some hq
  exact ⟨j, q, by rw [← h1]; exact hj, ih _ _ _ _ hF h3 ry⟩
end
section
variable {X : Cx} {pins : List (Addr × Obj)} {σ : L2.St} {H : Hp} {s : Shared}
theorem units_in1 {A : Around} : A.in1.units = A.units + 1 := rfl
theorem eqR2_run (I : Inv X pins σ H s) {A : Around} {F : V → V → Prop} (hu : A.units + 1 < cLine) (ih : ∀ x y v u, F x y → RelV x v → RelV y u → SeqAt.EqP X.prog X.w A.in1 s v u true) {x y : V} {v u : Value} (h : EqR2 X.K H F x y) (rx : RelV x v) (ry : RelV y u) (E Q : Value → Shared → Prop) :
    (Q (.bool true) s → wpAny (model X.prog X.w) A (richCompare .Eq v u) Q E s) ∧ (Q (.bool false) s → wpAny (model X.prog X.w) A (richCompare .NotEq v u) Q E s) := by
  have hu0 : A.units < cLine := by omega
  rcases h with ⟨a, b, xs, ys, rfl, rfl, ha, hb, hp⟩ | ⟨a, b, xs, ys, rfl, rfl, ha, hb, hp⟩ | ⟨a, b, ks, ls, rfl, rfl, ha, hb, hl, hp⟩ | ⟨a, b, ks, ls, rfl, rfl, ha, hb, hl, hp⟩
  all_goals
    cases (show v = Value.ref a from rx)
    cases (show u = Value.ref b from ry)
  · obtain ⟨us, r1, p1, _⟩ := I.list ha
    obtain ⟨ws, r2, p2, _⟩ := I.list hb
    obtain ⟨hsz, he⟩ := allEq_of ih hp r1 r2
    exact ⟨fun q => YQ.rcEq_list p1.isList p2.isList hsz hu0 he E Q q, fun q => YQ.rcNe_list p1.isList p2.isList hsz hu0 he E Q q⟩
  · obtain ⟨us, r1, p1, _⟩ := I.tuple ha
    obtain ⟨ws, r2, p2, _⟩ := I.tuple hb
    obtain ⟨hsz, he⟩ := allEq_of ih hp r1 r2
    exact ⟨fun q => YQ.rcEq_tup p1 p2 hsz hu0 he E Q q, fun q => YQ.rcNe_tup p1 p2 hsz hu0 he E Q q⟩
  · obtain ⟨⟨ta, tb⟩, same⟩ := same_dK I ih ha hb hl hp
    exact ⟨fun q => YQ.rcEq_dict_of ta tb hu0 same E Q q, fun q => YQ.rcNe_dict_of ta tb hu0 same E Q q⟩
  · obtain ⟨⟨ta, tb⟩, same⟩ := same_dT I (tupleKind_room_in1 hu) ih ha hb hl hp
    exact ⟨fun q => YQ.rcEq_dict_of ta tb hu0 same E Q q, fun q => YQ.rcNe_dict_of ta tb hu0 same E Q q⟩
theorem EqR2.refs {K : PySem.W.Frag} {F : V → V → Prop} {x y : V} (h : EqR2 K H F x y) : ∃ a b, x = .ref a ∧ y = .ref b := by
  rcases h with ⟨a, b, _, _, e1, e2, _⟩ | ⟨a, b, _, _, e1, e2, _⟩ | ⟨a, b, _, _, e1, e2, _⟩ | ⟨a, b, _, _, e1, e2, _⟩ <;> exact ⟨a, b, e1, e2⟩
theorem eqW_run (I : Inv X pins σ H s) : ∀ (n : Nat) (A : Around), A.units + n < cLine → ∀ (x y : V) (v u : Value), EqW X.K H n x y → RelV x v → RelV y u → SeqAt.EqP X.prog X.w A s v u true
  | 0, _, _, _, _, _, _, h, _, _ => (show False from h).elim
  | n + 1, A, hu, x, y, v, u, h, rx, ry => by
    rcases h with ⟨rfl, f⟩ | ⟨a, rfl, rfl⟩ | h
    · exact (eqAt_same rx ry f).eqP
    · cases (show v = Value.ref a from rx)
      cases (show u = Value.ref a from ry)
      exact (SeqAt.EqAt.same _).eqP
    · have step := fun E Q => (eqR2_run I (A := A) (by omega) (eqW_run I n A.in1 (by rw [units_in1]; omega)) h rx ry E Q).1
      obtain ⟨a, b, rfl, rfl⟩ := h.refs
      cases (show v = Value.ref a from rx)
      cases (show u = Value.ref b from ry)
      by_cases e : a = b
      · subst e
        exact (SeqAt.EqAt.same _).eqP
      · exact SeqAt.eqP_refs e step
end
section
variable {X : Cx}
/-- x == y, x != y of equal rows, dicts or scalars -/
def rEqW (K : PySem.W.Frag) : R2 := fun x y H Q => ∃ n, n ≤ 60 ∧ (EqR2 K H (EqW K H n) x y ∨ (x = y ∧ scal x y = true)) ∧ Q (.bl true) H
def rNeW (K : PySem.W.Frag) : R2 := fun x y H Q => ∃ n, n ≤ 60 ∧ (EqR2 K H (EqW K H n) x y ∨ (x = y ∧ scal x y = true)) ∧ Q (.bl false) H
theorem op_eqW {K : PySem.W.Frag} (hK : X.K = K) (hu : X.A.units + 64 < cLine) : OpR X (compareOp .Eq) (rEqW K) := by
  subst hK
  rintro pins s σ H x y v u Q I rx ry ⟨n, hn, h | ⟨rfl, h⟩, q⟩
  · exact (eqR2_run I (A := X.A) (by omega) (eqW_run I n X.A.in1 (by rw [units_in1]; omega)) h rx ry _ _).1 ⟨.bl true, H, I, rfl, q⟩
  · exact op_eq pins s σ H x x v u Q I rx ry ⟨h, by rw [decide_eq_true rfl]; exact q⟩
theorem op_neW {K : PySem.W.Frag} (hK : X.K = K) (hu : X.A.units + 64 < cLine) : OpR X (compareOp .NotEq) (rNeW K) := by
  subst hK
  rintro pins s σ H x y v u Q I rx ry ⟨n, hn, h | ⟨rfl, h⟩, q⟩
  · exact (eqR2_run I (A := X.A) (by omega) (eqW_run I n X.A.in1 (by rw [units_in1]; omega)) h rx ry _ _).2 ⟨.bl false, H, I, rfl, q⟩
  · exact op_ne pins s σ H x x v u Q I rx ry ⟨h, by rw [decide_eq_true rfl]; exact q⟩
end
end Y

/-! ### list(reversed(x)), x a list or a tuple -/
namespace YR
open PySem PySem.Spec PySem.Calls PyProof.Rows RT
theorem slot_hint : Slot "reversed" "__length_hint__" "reversed.__length_hint__" :=
  .of (owner := "reversed") (n := "__length_hint__") (by rw [typeLookup_type, builtinLookup_eq_fast]; kernel_rfl) (by decide +kernel) (by decide +kernel) (by decide +kernel)
    (by first | exact .inl (by decide +kernel) | exact .inr (by decide +kernel)) (by rw [isSubtype_type]; kernel_rfl)
theorem entry_hint : entryFor table "reversed.__length_hint__" = some Builtin.«reversed.__length_hint__» := entryFor_of_tree (by kernel_rfl)
theorem args_hint (a : Value) : argsOk "reversed.__length_hint__" ⟨[a], []⟩ := by
  unfold argsOk
  rw [signature?_of (id := "reversed.__length_hint__") (n := ['_', '_', 't', 'n', 'i', 'h', '_', 'h', 't', 'g', 'n', 'e', 'l', '_', '_']) (o := ['d', 'e', 's', 'r', 'e', 'v', 'e', 'r']) (by kernel_rfl) owner_rt]
  kernel_rfl
theorem nolen : typeLookup (.type "reversed") "__len__" = pure none := by rw [typeLookup_type, builtinLookup_eq_fast]; kernel_rfl
section
variable {prog : Program} {w : World} {A : Around} {E : Value → Shared → Prop} {s : Shared}
theorem hint_rt {it t : Addr} {i : Int} {items : Array Value} {Q : Bool → Shared → Prop} (hit : IsRt s.heap it t i) (ht : IsTup s.heap t items) (hi : i = (items.size : Int) - 1) (hz : items.size ≤ sizeLine) (h : ∀ (b : Bool) (tk : Nat), Q b { s with toks := tk }) :
    wpAny (model prog w) A (Builtin.List.listLengthHint (.ref it)) Q E s := by
  obtain ⟨o, ho, hc, hd⟩ := id hit
  rw [sizeLine_eq] at hz
  unfold Builtin.List.listLengthHint
  refine wpAny_bind (wpAny_specialOf hit.typeIs nolen ?_)
  show wpAny _ A (specialOf (Value.ref it) (Str.ofString "__length_hint__") >>= _) _ _ _
  refine wpAny_bind (wpAny_specialOf hit.typeIs slot_hint.lookup ?_)
  generalize hid : ("reversed.__length_hint__" : String) = id0
  wp_delta
  rw [show splitId id0 = some ("reversed", "__length_hint__") from by subst hid; decide +kernel]
  subst hid
  refine wpAny_bind (wpAny_isInstance (b := true) hit.typeIs (by rw [isSubtype_type]; kernel_rfl) ?_)
  refine wpAny_ite_split (fun q => absurd q (by decide)) (fun _ => ?_)
  refine wpAny_ite_split (fun q => absurd q (by decide +kernel)) (fun _ => ?_)
  refine wpAny_bind (wpAny_rule (wpAny_bind ?_))
  rw [slot_hint.bind (.ref it)]
  refine wpAny_pure (wpAny_bind (wpAny_attempt (wpAny_call_entry slot_hint hit.typeIs entry_hint ?_ (args_hint _))))
  unfold Builtin.«reversed.__length_hint__»
  refine wpAny_bind (wpAny_of_eq (a := Value.ref it) rfl ?_)
  refine wpAny_bind (wpAny_field ho hd (x := .ref t) rfl ?_)
  refine wpAny_ite_split (fun q => absurd q (by simp)) (fun _ => ?_)
  refine wpAny_bind (len_tuple (items := items) ht (by omega) ?_)
  refine wpAny_bind (wpAny_of_eq (a := some ((items.size : Nat) : Int)) rfl ?_)
  refine wpAny_bind (wpAny_field (s := { s with toks := s.toks + 1 + 1 }) ho hd (x := rawInt i) rfl ?_)
  subst hi
  show wpAny _ _ (if ((items.size : Nat) : Int) < (items.size : Int) - 1 + 1 then _ else _) _ _ _
  rw [if_neg (by omega)]
  unfold retInt
  refine wpAny_bind (wpAny_mkInt (wpAny_pure ⟨_, rfl, ?_⟩))
  show wpAny _ _ (asInt? (Value.int _ _) >>= _) _ _ _
  refine wpAny_bind (wpAny_of_eq (a := some ((items.size : Int) - 1 + 1)) rfl ?_)
  have e1 : (!Builtin.List.listFitsIndex ((items.size : Int) - 1 + 1)) = false := by
    unfold Builtin.List.listFitsIndex
    simp
    omega
  have e2 : Builtin.List.listTooLong ((items.size : Int) - 1 + 1).toNat = false := by
    unfold Builtin.List.listTooLong
    rw [sizeLine_eq]
    exact decide_eq_false (by omega)
  show wpAny _ _ (if (!Builtin.List.listFitsIndex ((items.size : Int) - 1 + 1)) = true then _ else if ((items.size : Int) - 1 + 1) < 0 then _ else if Builtin.List.listTooLong ((items.size : Int) - 1 + 1).toNat = true then _ else pure (((items.size : Int) - 1 + 1) != 0)) _ _ _
  rw [e1, e2, if_neg Bool.false_ne_true, if_neg (by omega), if_neg Bool.false_ne_true]
  exact wpAny_pure (h _ _)
end
section
variable {prog : Program} {w : World} {A : Around} {E : Value → Shared → Prop} {s : Shared} {T : String} {J : Addr} {fp wr : List Addr} {n : Nat} {P : Nat → Value → Prop} {St : Nat → Heap → Prop}
/-- list(an iterator that stands), from its start -/
theorem list_iter {Q : Value → Shared → Prop} (W : Walks prog w A.in1.in1 J fp wr n P St) (hT : ∀ (z : Shared) i, St i z.heap → z.TypeIs (.ref J) T) (n1 : (Value.type T == Value.type "list") = false) (n2 : (Value.type T == Value.type "tuple") = false)
    (hint : ∀ (z : Shared) (Q : Bool → Shared → Prop) (E : Value → Shared → Prop), St 0 z.heap → (∀ b tk, Q b { z with toks := tk }) → wpAny (model prog w) A.in1.in1 (Builtin.List.listLengthHint (.ref J)) Q E z) (st : St 0 s.heap) (hJ : J ∈ fp) (hfp : ∀ b ∈ fp, b < s.heap.objs.size) (hn : n ≤ sizeLine)
    (hQ : ∀ h' tk acc c, (∀ b o, b ∉ wr → s.heap.get? b = some o → h'.get? b = some o) → h'.get? s.heap.objs.size = some { cls := .type "list", dict := none, data := .seq acc c, slots := #[] } → ItemsOf P acc n → Q (.ref s.heap.objs.size) { s with heap := h', toks := tk }) :
    wpAny (model prog w) A (call (.type "list") [.ref J]) Q E s := by
  obtain ⟨S, hS⟩ : ∃ S, s.heap.objs.size = S := ⟨_, rfl⟩
  rw [hS] at hQ
  have nf : S ∉ fp := fun z => Nat.lt_irrefl S (by have := hfp S z; rwa [hS] at this)
  refine callType_codes (Q₁ := fun o z => o = .ref S ∧ z = { s with heap := s.heap.push { cls := .type "list", data := .seq #[] } }) F.called_list (F.typeCall_list_1 _) F.entry_list_init
    (code_list_new _ ⟨by rw [hS], rfl⟩) ?_
  rintro _ _ ⟨rfl, rfl⟩
  have g1 : (s.heap.push { cls := .type "list", data := .seq #[] }).get? S = some { cls := .type "list", data := .seq #[] } := by rw [← hS]; exact Heap.get?_push_size _ rfl
  have st1 : St 0 (s.heap.push { cls := .type "list", data := .seq #[] }) := W.frame 0 _ _ st fun b _ o e => Heap.get?_push_of_some _ e
  have old1 : ∀ b o, s.heap.get? b = some o → (s.heap.push { cls := .type "list", data := .seq #[] }).get? b = some o := fun b o e => Heap.get?_push_of_some _ e
  have ltS : ∀ b o, s.heap.get? b = some o → b ≠ S := fun b o e z => Nat.lt_irrefl S (by have := Heap.lt_size e; rwa [hS, z] at this)
  generalize s.heap.push { cls := .type "list", data := .seq #[] } = h1 at g1 st1 old1 ⊢
  refine ⟨⟨_, g1, rfl⟩, F.args_list_init_2 _ _, ?_⟩
  show wpAny _ _ (do let old ← Builtin.List.listItems (.ref S); Builtin.List.listUpdate (.ref S) (fun _ => #[]); letGo old.toList.reverse; Builtin.List.listExtendWith (.ref S) (.ref J) .none) _ _ _
  unfold Builtin.List.listItems
  refine wpAny_bind (wpAny_bind (wpAny_seqItems g1 rfl (wpAny_pure ?_)))
  refine wpAny_bind (wpAny_updateSeq g1 rfl ?_)
  have g2 := Heap.get?_update_self (Obj.mapSeq (fun _ => (#[] : Array Value))) g1 rfl
  have old2 : ∀ b o, b ≠ S → h1.get? b = some o → (h1.update S (Obj.mapSeq (fun _ => (#[] : Array Value)))).get? b = some o := fun b o nb e => (Heap.get?_update_other _ _ (Ne.symm nb)).trans e
  have st2 := W.frame 0 _ _ st1 fun b hb o e => old2 b o (fun z => nf (z ▸ hb)) e
  generalize h1.update S (Obj.mapSeq (fun _ => (#[] : Array Value))) = h2 at g2 old2 st2 ⊢
  refine wpAny_bind (wpAny_letGo ?_)
  have fin : ∀ (h3 : Heap) (c₁ tk : Nat), St 0 h3 → (∀ b o, b ≠ S → h2.get? b = some o → h3.get? b = some o) → h3.get? S = some { cls := .type "list", data := .seq #[] c₁ } →
      codeAny (model prog w) A.in1 (.builtin "list.extend.loop" ⟨[.ref S, .ref J, .none], []⟩) (wants (fun r z => r = .none ∧ Q (.ref S) z) E) { s with heap := h3, toks := tk } := by
    intro h3 c₁ tk st3 old3 g3
    refine codeAny_extend_loopS W.toS hn S nf .none n 0 _ #[] c₁ rfl (Nat.zero_le _) st3 g3 (ItemsOf.nil _) fun z acc c hm hz hacc => ⟨rfl, ?_⟩
    rw [Moved.eq_with hm]
    refine hQ z.heap z.toks acc c (fun b o hb e => hm.heap b o (fun hw => ?_) (old3 b o (ltS b o e) (old2 b o (ltS b o e) (old1 b o e)))) hz hacc
    rcases List.mem_cons.mp hw with e2 | e2
    · exact ltS b o e e2
    · exact hb e2
  unfold Builtin.List.listExtendWith
  refine wpAny_bind (wpAny_typeOf (hT _ 0 st2) ?_)
  have d1 : Builtin.List.listSameRef (.ref S) (.ref J) = false := by
    have : S ≠ J := fun z => nf (z ▸ hJ)
    simp [Builtin.List.listSameRef, this]
  simp only [d1, n1, n2, Bool.or_false, Bool.false_eq_true, if_false]
  refine wpAny_bind (W.self 0 _ _ _ st2 (wpAny_bind (wpAny_holding (hint _ _ _ st2 fun b tk => ?_))))
  refine wpAny_ite_split (fun _ => ?_) (fun _ => wpAny_pure ⟨plainId_quiet F.plain_extend_loop _, fin _ _ _ st2 (fun _ _ _ e => e) g2⟩)
  refine wpAny_bind (wpAny_rule (wpAny_bind ?_))
  show wpAny _ _ (updateSeq S (·.push .none) >>= fun _ => updateSeq S (·.pop)) _ _ _
  refine wpAny_bind (wpAny_updateSeq g2 rfl ?_)
  have g3 := Heap.get?_update_self (Obj.mapSeq (·.push Value.none)) g2 rfl
  refine wpAny_updateSeq (hz := by seq_fits) g3 rfl ?_
  have g4 := Heap.get?_update_self (Obj.mapSeq (·.pop)) g3 rfl
  refine wpAny_pure ⟨plainId_quiet F.plain_extend_loop _, fin _ _ _ (W.frame 0 _ _ st2 fun b hb o e => ?_) (fun b o nb e => ?_) g4⟩
  · have nb : b ≠ S := fun z => nf (z ▸ hb)
    exact (Heap.get?_update_other _ _ (Ne.symm nb)).trans ((Heap.get?_update_other _ _ (Ne.symm nb)).trans e)
  · exact (Heap.get?_update_other _ _ (Ne.symm nb)).trans ((Heap.get?_update_other _ _ (Ne.symm nb)).trans e)
end
end YR
namespace YR
open PySem PySem.Spec PySem.Calls PyProof.Rows RT L2
section
variable {prog : Program} {w : World} {A : Around} {E : Value → Shared → Prop} {s : Shared}
/-- the walk of reversed(a tuple) -/
theorem walks_rt {J t : Addr} {items : Array Value} (hh : A.handled = none) (hne : t ≠ J) (hz : items.size ≤ sizeLine) :
    Walks prog w A J [J, t] [J] items.size (fun i v => items[items.size - 1 - i]? = some v) (fun i h => i ≤ items.size ∧ IsRt h J t ((items.size : Int) - 1 - (i : Int)) ∧ IsTup h t items) where
  sub := by simp
  frame := fun i h h' ⟨a, b, c⟩ k => ⟨a, b.at fun o e => k J (by simp) o e, by
    obtain ⟨o, ho, r⟩ := c
    exact ⟨o, k t (by simp) o ho, r⟩⟩
  item := fun i s Q E hi ⟨a, b, c⟩ hQ => by
    have e1 : (items.size : Int) - 1 - (i : Int) = ((items.size - 1 - i : Nat) : Int) := by omega
    rw [e1] at b
    have hx : items[items.size - 1 - i]? = some items[items.size - 1 - i] := by simp [show items.size - 1 - i < items.size by omega]
    refine next_rt_item b c hx hz fun h' b' sb => hQ _ h' _ hx ⟨hi, ?_, ?_⟩ fun q o hq e => (sb.2 q (by simpa using hq)).trans e
    · have e2 : ((items.size - 1 - i : Nat) : Int) - 1 = (items.size : Int) - 1 - ((i + 1 : Nat) : Int) := by omega
      rw [← e2]
      exact b'
    · obtain ⟨o, ho, r⟩ := c
      exact ⟨o, (sb.2 t hne).trans ho, r⟩
  done := fun s Q E ⟨a, b, c⟩ hQ => by
    rw [show (items.size : Int) - 1 - (items.size : Int) = -1 by omega] at b
    exact next_rt_end hh b fun h' eb => hQ h' s.toks fun q o hq e => eb q o (by simpa using hq) e
  self := fun i s Q E ⟨a, b, c⟩ hQ => iter_rt b hQ
theorem hint_lr {J l : Addr} {i : Int} {Q : Bool → Shared → Prop} (hit : s.heap.IsRevIter J l i) (h : Q false s) : wpAny (model prog w) A (Builtin.List.listLengthHint (.ref J)) Q E s := by
  have hT : s.TypeIs (.ref J) "list_reverseiterator" := hit.typeIs
  unfold Builtin.List.listLengthHint
  refine wpAny_bind (wpAny_specialOf hT nolen_lri ?_)
  show wpAny _ A (specialOf (Value.ref J) (Str.ofString "__length_hint__") >>= _) _ _ _
  refine wpAny_bind (wpAny_specialOf hT hint_lri ?_)
  generalize hid : ("list_reverseiterator.__length_hint__" : String) = id0
  wp_delta
  rw [show splitId id0 = some ("list_reverseiterator", "__length_hint__") from by subst hid; decide +kernel]
  subst hid
  refine wpAny_bind (wpAny_isInstance (b := true) hT (by rw [isSubtype_type]; kernel_rfl) (wpAny_pure h))
end
end YR
namespace Y
open PySem PySem.Spec PySem.Calls PyProof.Rows L2 RT
/-- list(reversed(x)) -/
def rListRev (K : PySem.W.Frag) : V → Hp → VK → Prop := fun x H Q => ∃ (a : Addr) (xs : List V), x = .ref a ∧ (SqL K H a xs ∨ SqT K H a xs) ∧ ∀ p, H p = none → Q (.ref p) (upd H p (.lst xs.reverse))
def tListRev (K : PySem.W.Frag) (te : TE) : TE := fun σ H Q => te σ H fun x H1 => rListRev K x H1 Q
theorem pe_listRev {X : Cx} {K : PySem.W.Frag} {e : Expr} {te : TE} {p p2 pos pos2 : Pos} (hK : X.K = K) (hc : X.calm = true) (hg : Gl X "list") (hm : X.mg "list" = none) (hg2 : Gl X "reversed") (hm2 : X.mg "reversed" = none) (he : PE X e te) (hv : bootBuiltins "list" = some (.type "list") := by decide +kernel)
    (hs : starEach [e] X.env = (false, eval e X.env) :: starEach [] X.env := by rfl)
    (hs2 : starEach [.Call (.Name "reversed" p2) [e] [] pos2] X.env = (false, eval (.Call (.Name "reversed" p2) [e] [] pos2) X.env) :: starEach [] X.env := by rfl) :
    PE X (.Call (.Name "list" p) [.Call (.Name "reversed" p2) [e] [] pos2] [] pos) (tListRev K te) := by
  subst hK
  refine ⟨fun pins s σ H Q I h => ?_⟩
  refine Call_ (ld_blt I hg hm hv (PyProof.Rows.callWith_type1 (args_cons (Call_ (ld_blt I hg2 hm2 PyProof.Rows.boot_reversed (PyProof.Rows.callWith_type1 (args_cons (thn (he.run pins s σ H _ I h) fun u s1 ⟨x, H1, I1, rx, q1⟩ => args_nil ?_) hs) hs rfl))) hs2) hs2 rfl))
  obtain ⟨a, xs, ex, hsq, q⟩ := q1
  subst ex
  obtain rfl : u = Value.ref a := rx
  generalize hJ : s1.heap.objs.size = J
  have fJ : FpOk X pins H1 J := I1.fpOk (H' := H1) (by rw [hJ]; exact Nat.le_refl _) (I1.hok.fresh (by rw [hJ]; exact Nat.le_refl _))
  have fin : ∀ {s2 : Shared} {its : List Value} {h' : Heap} {tk c : Nat} {acc : Array Value}, Inv X pins σ H1 s2 → Vals xs its → xs.length ≤ sizeLine → (∀ b o, b ∉ [J] → s2.heap.get? b = some o → h'.get? b = some o) →
      h'.get? s2.heap.objs.size = some { cls := .type "list", dict := none, data := .seq acc c, slots := #[] } → ItemsOf (fun i v => its.toArray[its.toArray.size - 1 - i]? = some v) acc its.toArray.size → EP X pins σ Q (.ref s2.heap.objs.size) { s2 with heap := h', toks := tk } := by
    intro s2 its h' tk c acc I2 rv hz hk hg hi
    refine ⟨.ref _, upd H1 _ (.lst xs.reverse), I2.turnedNew (t' := tk) (ch := [J]) (fun b o hb e => hk b o hb e) (fun b hb => by simp at hb; subst hb; exact fJ) (Nat.le_refl _) (show ObjOk X.prog X.w _ _ _ (.lst xs.reverse) from ⟨by rw [List.length_reverse]; exact hz, acc.toList, c, vals_rev rv hi, ?_⟩), rfl, q _ (I2.hok.fresh (Nat.le_refl _))⟩
    rw [Array.toArray_toList]
    exact hg
  rcases hsq with hsq | hsq
  · obtain ⟨its, rv, p', hz⟩ := I1.list hsq
    have hl := p'.isList
    obtain ⟨ol, hol, _⟩ := id hl
    have hne : a ≠ J := by rw [← hJ]; exact Nat.ne_of_lt (Heap.lt_size hol)
    refine call_reversed_list hl (args_nil ?_)
    have I2 : Inv X pins σ H1 { s1 with heap := s1.heap.push (revObj a ((its.toArray.size : Int) - 1)) } := I1.kept (t' := s1.toks) fun b o e => Heap.get?_push_of_some _ e
    have hn : its.toArray.size ≤ sizeLine := by rw [List.size_toArray, ← rv.length]; exact hz
    rw [hJ]
    refine YR.list_iter (T := "list_reverseiterator") (Walks.listRev (A := X.A.in1.in1) (show X.A.in1.in1.handled = none from I1.ok.hd hc) J a hne its.toArray) (fun z i st => st.2.1.typeIs) (by decide) (by decide) (fun z Q E st h => YR.hint_lr st.2.1 (h false z.toks)) ⟨Nat.zero_le _, ⟨_, by rw [← hJ]; exact Heap.get?_push_size _ rfl, rfl, by simp [revObj]⟩, hl.push _⟩ (by simp) (fun b hb => ?_) hn (fun h' tk acc c hk hg hi => fin I2 rv hz hk hg hi)
    rw [Heap.size_push]
    simp only [List.mem_cons, List.not_mem_nil, or_false] at hb
    rcases hb with rfl | rfl
    · exact hJ ▸ Nat.lt_succ_self _
    · exact Nat.lt_succ_of_lt (Heap.lt_size hol)
  · obtain ⟨its, rv, p', hz⟩ := I1.tuple hsq
    have hl : IsTup s1.heap a its.toArray := p'
    obtain ⟨ol, hol, _⟩ := id hl
    have hne : a ≠ J := by rw [← hJ]; exact Nat.ne_of_lt (Heap.lt_size hol)
    have hn : its.toArray.size ≤ sizeLine := by rw [List.size_toArray, ← rv.length]; exact hz
    have ln := hn
    rw [sizeLine_eq] at ln
    refine call_reversed_tup hl (fun A E Q k => len_tuple hl (by omega) k) (args_nil ?_)
    have I2 : Inv X pins σ H1 { s1 with heap := s1.heap.push (rtObj a ((its.toArray.size : Int) - 1)), toks := s1.toks + 1 + 1 } := I1.kept (t' := s1.toks + 1 + 1) fun b o e => Heap.get?_push_of_some _ e
    rw [hJ]
    refine YR.list_iter (T := "reversed") (YR.walks_rt (A := X.A.in1.in1) (show X.A.in1.in1.handled = none from I1.ok.hd hc) hne hn) (fun z i st => st.2.1.typeIs) (by decide) (by decide) (fun z Q E st h => YR.hint_rt st.2.1 st.2.2 (by simp) hn h) ⟨Nat.zero_le _, ⟨_, by rw [← hJ]; exact Heap.get?_push_size _ rfl, rfl, by simp [rtObj]⟩, ?_⟩ (by simp) (fun b hb => ?_) hn (fun h' tk acc c hk hg hi => fin I2 rv hz hk hg hi)
    · obtain ⟨o, ho, r⟩ := hl
      exact ⟨o, Heap.get?_push_of_some _ ho, r⟩
    · rw [show (Shared.heap { s1 with heap := s1.heap.push (rtObj a ((its.toArray.size : Int) - 1)), toks := s1.toks + 1 + 1 }) = s1.heap.push (rtObj a ((its.toArray.size : Int) - 1)) from rfl, Heap.size_push]
      simp only [List.mem_cons, List.not_mem_nil, or_false] at hb
      rcases hb with rfl | rfl
      · exact hJ ▸ Nat.lt_succ_self _
      · exact Nat.lt_succ_of_lt (Heap.lt_size hol)
end Y
namespace Y
open PySem PySem.Spec PyProof.Rows L2
section
variable {K : PySem.W.Frag} {σ : L2.St} {G H : Hp} {Q : VK} {te : TE} {x : V} {ds : List PyData} {p : Addr}
theorem g_lrev (q : te σ H fun x H1 => rListRev K x H1 Q) : tListRev K te σ H Q := q
theorem dpAll_rev : ∀ {vs : List V} {ds : List PyData}, DpAll K G vs ds → DpAll K G vs.reverse ds.reverse
  | _, _, .nil => .nil
  | _, _, .cons a t => by
    rw [List.reverse_cons, List.reverse_cons]
    exact dpAll_snoc (dpAll_rev t) a
theorem g_lrevT (e : Ex G H) (h : Dp K G x (.tuple ds)) (q : ∀ p H', Nx [] G H G H' → H p = none → LstAt K p G H' ds.reverse → Q (.ref p) H') : rListRev K x H Q := by
  obtain ⟨a, xs, rfl, hs, hd⟩ := dp_tup h
  exact ⟨a, xs, rfl, .inr (e.seqT hs), fun p hp => q p _ (Nx.own e hp) hp ⟨_, upd_same, e.free hp, dpAll_rev hd⟩⟩
theorem g_lrevL (e : Ex G H) (h : Dp K G x (.list ds)) (q : ∀ p H', Nx [] G H G H' → H p = none → LstAt K p G H' ds.reverse → Q (.ref p) H') : rListRev K x H Q := by
  obtain ⟨a, xs, rfl, hs, hd⟩ := dp_lst h
  exact ⟨a, xs, rfl, .inl (e.seqL hs), fun p hp => q p _ (Nx.own e hp) hp ⟨_, upd_same, e.free hp, dpAll_rev hd⟩⟩
theorem g_lrevLs (e : Ex G H) (h : LstAt K p G H ds) (q : ∀ p H', Nx [] G H G H' → H p = none → LstAt K p G H' ds.reverse → Q (.ref p) H') : rListRev K (.ref p) H Q := by
  obtain ⟨xs, hs, g, hd⟩ := h
  exact ⟨p, xs, rfl, .inl (.of hs), fun p hp => q p _ (Nx.own e hp) hp ⟨_, upd_same, e.free hp, dpAll_rev hd⟩⟩
end
end Y

namespace Y
open PySem PySem.Spec PyProof.Rows L2
/-! ### equal things, told by their data -/
section
variable {K : PySem.W.Frag} {G H : Hp}
mutual
theorem eqW_dp : ∀ {v : V} {d : PyData}, Dp K H v d → ∀ {u : V} {n : Nat}, d.depth ≤ n → Dp K H u d → EqW K H (n + 1) v u
  | _, _, .non, u, n, _, h => .inl ⟨by cases h; rfl, rfl⟩
  | _, _, .bl b, u, n, _, h => .inl ⟨by cases h; rfl, rfl⟩
  | _, _, .int i, u, n, _, h => .inl ⟨by cases h; rfl, rfl⟩
  | _, _, .str x, u, n, _, h => .inl ⟨by cases h; rfl, rfl⟩
  | _, _, .lst hs hd, u, n, hn, h => by
    obtain ⟨b, ys, rfl, hs2, hd2⟩ := dp_lst h
    cases n with
    | zero => simp only [PyData.depth] at hn; omega
    | succ n => exact .inr (.inr (.inl ⟨_, _, _, _, rfl, rfl, hs, hs2, eqW_dpAll hd (by simp only [PyData.depth] at hn; omega) hd2⟩))
  | _, _, .tup hs hd, u, n, hn, h => by
    obtain ⟨b, ys, rfl, hs2, hd2⟩ := dp_tup h
    cases n with
    | zero => simp only [PyData.depth] at hn; omega
    | succ n => exact .inr (.inr (.inr (.inl ⟨_, _, _, _, rfl, rfl, hs, hs2, eqW_dpAll hd (by simp only [PyData.depth] at hn; omega) hd2⟩)))
theorem eqW_dpAll : ∀ {vs : List V} {ds : List PyData}, DpAll K H vs ds → ∀ {us : List V} {n : Nat}, PyData.depthAll ds ≤ n → DpAll K H us ds → Paired (EqW K H (n + 1)) vs us
  | _, _, .nil, us, n, _, h => by cases h; exact .nil
  | _, _, .cons a t, us, n, hn, h => by
    cases h with
    | cons b t2 =>
      simp only [PyData.depthAll] at hn
      exact .cons (eqW_dp a (by omega) b) (eqW_dpAll t (by omega) t2)
end
theorem EqW.same {n : Nat} {v : V} (h : flatB v = true) : EqW K H (n + 1) v v := .inl ⟨rfl, h⟩
theorem EqW.r {n : Nat} {v u : V} (h : EqR2 K H (EqW K H n) v u) : EqW K H (n + 1) v u := .inr (.inr h)
/-- two dicts of the same data -/
theorem eqR_dct {a b : Addr} {md : List (Key × PyData)} {n : Nat} (e : Ex G H) (r1 : DctAt K a G H md) (r2 : DctAt K b G H md) (hnd : (md.map (·.1)).Nodup) (hd : ∀ x ∈ md, x.2.depth ≤ n) : EqR2 K H (EqW K H (n + 1)) (.ref a) (.ref b) := by
  obtain ⟨ks, h1, _, k1, d1⟩ := r1
  obtain ⟨ls, h2, _, k2, d2⟩ := r2
  have l1 : ks.length = md.length := by simpa using congrArg List.length k1
  have l2 : ls.length = md.length := by simpa using congrArg List.length k2
  refine .inr (.inr (.inl ⟨a, b, ks, ls, rfl, rfl, h1, h2, by omega, fun p hp => ?_⟩))
  obtain ⟨i, hi, rfl⟩ := List.getElem_of_mem hp
  have him : i < md.length := by omega
  have ek : ks[i].1 = md[i].1 := by
    have := congrArg (fun l => l[i]?) k1
    simp [him, hi] at this
    exact this
  obtain ⟨x, hx, dx⟩ := dpAll_got d1 (i := i) (v := ks[i].2) (by simp [hi])
  have ex : x = md[i].2 := by simp [him] at hx; exact hx.symm
  subst ex
  have hg : gtM md ks[i].1 = some md[i].2 := by
    rw [ek]
    have key : ∀ (m : List (Key × PyData)) (i : Nat) (h : i < m.length), (m.map (·.1)).Nodup → gtM m m[i].1 = some m[i].2 := by
      intro m
      induction m with
      | nil => intro i h; simp at h
      | cons y m ih =>
        intro i h hn
        rw [List.map_cons, List.nodup_cons] at hn
        rw [gtM_cons]
        cases i with
        | zero => simp
        | succ i =>
          simp only [List.getElem_cons_succ]
          have hi2 : i < m.length := by simpa using h
          rw [if_neg (fun z => hn.1 (by rw [z]; exact List.mem_map_of_mem (List.getElem_mem hi2)))]
          exact ih i hi2 hn.2
    exact key md i him hnd
  obtain ⟨u, hu, du⟩ := (gt_rel ks[i].1 k2 d2).1 _ hg
  exact ⟨u, hu, eqW_dp (dp_mono e dx) (hd _ (List.getElem_mem him)) (dp_mono e du)⟩
theorem eqR_tup {a b : Addr} {xs ys : List V} {n : Nat} (e : Ex G H) (h1 : SqT K G a xs) (h2 : SqT K G b ys) (h : Paired (EqW K H n) xs ys) : EqR2 K H (EqW K H n) (.ref a) (.ref b) := .inr (.inl ⟨a, b, xs, ys, rfl, rfl, e.seqT h1, e.seqT h2, h⟩)
theorem g_neW {x y : V} {Q : VK} (n : Nat) (hn : n ≤ 60) (h : EqR2 K H (EqW K H n) x y) (q : Q (.bl false) H) : rNeW K x y H Q := ⟨n, hn, .inl h, q⟩
theorem g_eqW {x y : V} {Q : VK} (n : Nat) (hn : n ≤ 60) (h : EqR2 K H (EqW K H n) x y) (q : Q (.bl true) H) : rEqW K x y H Q := ⟨n, hn, .inl h, q⟩
theorem g_neWs {x : V} {Q : VK} (h : scal x x = true) (q : Q (.bl false) H) : rNeW K x x H Q := ⟨0, by omega, .inr ⟨rfl, h⟩, q⟩
theorem g_eqWs {x : V} {Q : VK} (h : scal x x = true) (q : Q (.bl true) H) : rEqW K x x H Q := ⟨0, by omega, .inr ⟨rfl, h⟩, q⟩
/-- rows that stand, of the same data -/
theorem eqR_lst {a b : Addr} {L : List PyData} {n : Nat} (e : Ex G H) (h1 : LstAt K a G H L) (h2 : LstAt K b G H L) (hd : PyData.depthAll L ≤ n) : EqR2 K H (EqW K H (n + 1)) (.ref a) (.ref b) := by
  obtain ⟨xs, x1, _, d1⟩ := h1
  obtain ⟨ys, y1, _, d2⟩ := h2
  exact .inl ⟨a, b, xs, ys, rfl, rfl, .of x1, .of y1, eqW_dpAll (dpAll_mono e d1) hd (dpAll_mono e d2)⟩
/-- items of a tuple of things that stand -/
theorem g_ixTR {Q : VK} {t : Addr} {xs : List V} {v : V} {i : Int} {k : Nat} (e : Ex G H) (h : SqT K G t xs) (hv : xs[k]? = some v) (hj : i = (k : Int)) (q : Q v H) : rIxT K (.ref t) (.int i) H Q := by
  subst hj
  exact ⟨t, xs, _, v, rfl, rfl, e.seqT h, atI_nat hv, q⟩
theorem g_lenTR {Q : VK} {t : Addr} {xs : List V} (e : Ex G H) (h : SqT K G t xs) (q : Q (.int (xs.length : Int)) H) : rLen K [.ref t] H Q := ⟨t, xs, rfl, .inr (e.seqT h), q⟩
end
end Y
namespace Y
open PySem PySem.Spec PyProof.Rows L2
/-! ### lists, known or standing -/
def LsV (K : PySem.W.Frag) (v : V) (G H : Hp) (L : List PyData) : Prop := ∃ p, v = .ref p ∧ (LstAt K p G H L ∨ Dp K G (.ref p) (.list L))
section
variable {K : PySem.W.Frag} {G H G' H' : Hp} {L : List PyData} {v : V} {p : Addr} {M : List Addr} {Q : VK} {t : Addr} {xs : List V}
theorem LstAt.lsv (r : LstAt K p G H L) : LsV K (.ref p) G H L := ⟨p, rfl, .inl r⟩
theorem LsV.of (h : Dp K G v (.list L)) : LsV K v G H L := by
  obtain ⟨a, vs, rfl, _⟩ := dp_lst h
  exact ⟨a, rfl, .inr h⟩
theorem LsV.go0 (r : LsV K v G H L) (n : Nx [] G H G' H') : LsV K v G' H' L := by
  obtain ⟨p, rfl, r | r⟩ := r
  · exact ⟨p, rfl, .inl (r.go n (by simp))⟩
  · exact ⟨p, rfl, .inr (dp_mono n.gg r)⟩
theorem g_walkV0 {P : Addr → Prop} (e : Ex G H) (r : LsV K v G H L) (q : ∀ p, v = .ref p → Src K [] (Itl K p) G H L → P p) : ∃ b, v = .ref b ∧ (∃ xs, SqL K H b xs) ∧ P b := by
  obtain ⟨p, rfl, r | r⟩ := r
  · exact g_walkLs r fun S => q p rfl (S [] (by simp))
  · obtain ⟨a, xs, ea, hs, hd⟩ := dp_lst r
    cases ea
    exact ⟨p, rfl, ⟨xs, e.seqL hs⟩, q p rfl (src_lst hs hd)⟩
theorem LsV.dp (r : LsV K v G H L) (e : Ex G H) : Dp K H v (.list L) := by
  obtain ⟨p, rfl, r | r⟩ := r
  · exact r.dp e
  · exact dp_mono e r
theorem tyT (h : SqT K H t xs) : TyX K H (.ref t) (.type "tuple") := by
  rcases h with (hs | ⟨o, hs⟩) | ⟨o, its, n, hs, hc, _⟩
  · exact .base (.tup hs)
  · exact .fTuple hs
  · exact .kTuple hs hc
theorem g_isiR (e : Ex G H) (h : SqT K G t xs) (q : Q (.bl true) H) : rIsi K [.ref t, .ty "tuple"] H Q :=
  ⟨.ref t, .ty "tuple", _, _, true, rfl, .ty "tuple", tyT (e.seqT h), kit_ty (by rfl), q⟩
end
end Y

namespace Y
open PySem PySem.Spec PyProof.Rows L2
/-! ### xs[i] op= e over a list -/
def rGetL (K : PySem.W.Frag) : V → V → Hp → VK → Prop := fun o i H Q => ∃ (p : Addr) (xs : List V) (j : Nat) (v : V), o = .ref p ∧ i = .int (j : Int) ∧ SqL K H p xs ∧ xs[j]? = some v ∧ Q v H
theorem get_list {X : Cx} {K : PySem.W.Frag} (hK : X.K = K) : PGet X (rGetL K) := by
  subst hK
  rintro pins s σ H o i ov iv Q I ro ri ⟨p, xs, j, v, rfl, rfl, hs, hv, q⟩
  cases ro
  obtain ⟨t, rfl⟩ := ri
  obtain ⟨its, r, pl, hz⟩ := I.list hs
  obtain ⟨u, hu, ru⟩ := r.get hv
  have hl := r.length
  have hn := line63
  have hj : j < xs.length := (List.getElem?_eq_some_iff.mp hv).1
  exact PySem.wpAny_getItem_list pl.isList (by omega) (by omega) (by simpa using hu) ⟨v, H, I, ru, q⟩
section
variable {K : PySem.W.Frag} {σ : L2.St} {G H : Hp} {Q : VK} {D : Ends} {to ti te : TE} {p : Addr} {L : List PyData} {d : PyData} {i j : Int}
theorem g_augS {tget : V → V → Hp → VK → Prop} {tip : TIp} {tset : TSet} (q : to σ H fun o H1 => ti σ H1 fun i H2 => tget o i H2 fun x H3 => te σ H3 fun y H4 => tip x y H4 fun z H5 => tset o i z H5 fun H6 => D.nx σ H6) : tAugS to ti te tget tip tset D σ H := q
theorem g_getLs {k : Nat} (r : LstAt K p G H L) (hi : L[k]? = some d) (hj : i = (k : Int)) (q : ∀ v, Dp K G v d → Q v H) : rGetL K (.ref p) (.int i) H Q := by
  obtain ⟨xs, h, g, da⟩ := r
  obtain ⟨v, hv, dv⟩ := dpAll_get da hi
  subst hj
  exact ⟨p, xs, k, v, rfl, rfl, .of h, hv, q v dv⟩
theorem g_ipI {f : Int → Int → Int} (q : Q (.int (f i j)) H) : ipI f (.int i) (.int j) H Q := ⟨i, j, rfl, rfl, q⟩
theorem g_au {i : Nat} {te : TE} {tip : TIp} {x : V} (hx : σ[i]? = some (some x)) (q : te σ H fun y H1 => tip x y H1 fun z H2 => D.nx (σ.set i (some z)) H2) : tAug i te tip D σ H := ⟨x, hx, q⟩
end
/-! ### sorted(a dict of ints), d.get(k), d.get(k, x) -/
def rSrtDI : List V → Hp → VK → Prop := fun xs H Q => ∃ (a : Addr) (kvs : List (Key × V)) (ks : List Int), xs = [.ref a] ∧ H a = some (.dK kvs) ∧ kvs.map (·.1) = ks.map Sum.inl ∧ ks.length < 64 ∧ ∀ (ys : List Int) (p : Addr), ys.Perm ks → ys.Pairwise (· ≤ ·) → H p = none → Q (.ref p) (upd H p (.lst (ys.map V.int)))
theorem call_srtDI {X : Cx} (hc : X.calm = true) : CallR X (.builtin "sorted") rSrtDI := fun pins s σ H xs us Q I r ⟨a, kvs, ks, e, h, q⟩ => call_sortedDI hc pins s σ H xs us Q I r ⟨a, kvs, ks, e, .inl h, q⟩
def DG1W (ty : TE) (σ : L2.St) (Q : VK) (x : V) (H1 : Hp) : Prop := ∃ a, x = .ref a ∧ IsD H1 a ∧ ty σ H1 fun y H2 => ∃ o, DGet H2 a y o ∧ Q (o.getD .non) H2
def DG2W (ty tx : TE) (σ : L2.St) (Q : VK) (x : V) (H1 : Hp) : Prop := ∃ a, x = .ref a ∧ IsD H1 a ∧ ty σ H1 fun y H2 => tx σ H2 fun z H3 => ∃ o, DGet H3 a y o ∧ Q (o.getD z) H3
section
variable {K : PySem.W.Frag} {σ : L2.St} {G H : Hp} {Q : VK} {td ty tx : TE} {d : Addr} {md : List (Key × PyData)} {k : Key} {y z : V}
theorem g_dg1 (q : td σ H fun x H1 => DG1W ty σ Q x H1) : tDGet1 td ty σ H Q := q
theorem g_dg2 (q : td σ H fun x H1 => DG2W ty tx σ Q x H1) : tDGet2 td ty tx σ H Q := q
theorem g_dg1W (r : DctAt K d G H md) (q : ty σ H fun y H2 => ∃ o, DGet H2 d y o ∧ Q (o.getD .non) H2) : DG1W ty σ Q (.ref d) H := by
  obtain ⟨kvs, h, _⟩ := r
  exact ⟨d, rfl, .inl ⟨kvs, .inl h⟩, q⟩
theorem g_dg2W (r : DctAt K d G H md) (q : ty σ H fun y H2 => tx σ H2 fun z H3 => ∃ o, DGet H3 d y o ∧ Q (o.getD z) H3) : DG2W ty tx σ Q (.ref d) H := by
  obtain ⟨kvs, h, _⟩ := r
  exact ⟨d, rfl, .inl ⟨kvs, .inl h⟩, q⟩
theorem g_dgR {z : V} (r : DctAt K d G H md) (hk : y = kV k) (q1 : ∀ x v, gtM md k = some x → Dp K G v x → Q v H) (q2 : gtM md k = none → Q z H) : ∃ o, DGet H d y o ∧ Q (o.getD z) H := by
  obtain ⟨kvs, h, g, he, dd⟩ := r
  refine ⟨valV kvs k, .inl ⟨kvs, k, .inl h, hk, rfl⟩, ?_⟩
  cases hg : gtM md k with
  | none =>
    rw [(gt_rel k he dd).2 hg]
    exact q2 hg
  | some x =>
    obtain ⟨v, hv, dv⟩ := (gt_rel k he dd).1 x hg
    rw [hv]
    exact q1 x v hg dv
theorem g_dgO {P : Option V → Prop} (r : DctAt K d G H md) (hk : y = kV k) (q1 : ∀ x v, gtM md k = some x → Dp K G v x → P (some v)) (q2 : gtM md k = none → P none) : ∃ o, DGet H d y o ∧ P o := by
  obtain ⟨kvs, h, g, he, dd⟩ := r
  refine ⟨valV kvs k, .inl ⟨kvs, k, .inl h, hk, rfl⟩, ?_⟩
  cases hg : gtM md k with
  | none =>
    rw [(gt_rel k he dd).2 hg]
    exact q2 hg
  | some x =>
    obtain ⟨v, hv, dv⟩ := (gt_rel k he dd).1 x hg
    rw [hv]
    exact q1 x v hg dv
end
section
variable {K : PySem.W.Frag} {G H : Hp} {Q : VK} {p : Addr} {L : List PyData} {v : V} {d : PyData} {M : List Addr} {G' H' : Hp}
/-- xs.pop() -/
theorem g_popLs (e : Ex G H) (r : LstAt K p G H (L ++ [d])) (q : ∀ v H', Dp K G v d → Nx [p] G H G H' → LstAt K p G H' L → Q v H') : rPop (.ref p) [] H Q := by
  obtain ⟨xs, h, g, da⟩ := r
  have hl := dpAll_len da
  rw [List.length_append, List.length_singleton] at hl
  obtain ⟨v, hv, dv⟩ := dpAll_get da (i := L.length) (d := d) (by simp)
  refine ⟨p, xs, v, rfl, rfl, h, by rw [hl]; simpa using hv, q v _ dv (Nx.set e g (by simp)) ⟨_, upd_same, g, ?_⟩⟩
  have := dpAll_take L.length da
  rw [List.take_left] at this
  rw [List.dropLast_eq_take, hl]
  simpa using this
theorem LsV.go (r : LsV K v G H L) (n : Nx M G H G' H') (hM : ∀ q ∈ M, v ≠ .ref q) : LsV K v G' H' L := by
  obtain ⟨p, rfl, r | r⟩ := r
  · exact ⟨p, rfl, .inl (r.go n fun z => hM p z rfl)⟩
  · exact ⟨p, rfl, .inr (dp_mono n.gg r)⟩
theorem g_lenV (e : Ex G H) (r : LsV K v G H L) (q : Q (.int (L.length : Int)) H) : rLen K [v] H Q := by
  obtain ⟨p, rfl, r | r⟩ := r
  · exact g_lenLs r q
  · exact g_lenL e r q
theorem g_ixV {i : Int} {k : Nat} (e : Ex G H) (r : LsV K v G H L) (hi : L[k]? = some d) (hj : i = (k : Int)) (q : ∀ v, Dp K G v d → Q v H) : rIxL K v (.int i) H Q := by
  obtain ⟨p, rfl, r | r⟩ := r
  · exact g_ixLs r hi hj q
  · exact g_ixL e r hi hj q
theorem g_walkVv {P : Addr → Prop} (e : Ex G H) (r : LsV K v G H L) (q : ∀ p, v = .ref p → (∀ M, (∀ q ∈ M, v ≠ .ref q) → Src K M (Itl K p) G H L) → P p) : ∃ b, v = .ref b ∧ (∃ xs, SqL K H b xs) ∧ P b := by
  obtain ⟨p, rfl, r | r⟩ := r
  · exact g_walkLs r fun S => q p rfl fun M hM => S M fun z => hM p z rfl
  · obtain ⟨a, xs, ea, hs, hd⟩ := dp_lst r
    cases ea
    exact ⟨p, rfl, ⟨xs, e.seqL hs⟩, q p rfl fun M _ => src_lst hs hd⟩
theorem g_walkEv {P : Addr → Prop} (e : Ex G H) (r : LsV K v G H L) (q : ∀ p, v = .ref p → (∀ M, (∀ q ∈ M, v ≠ .ref q) → Src K M (Ite K p) G H (prs 0 L)) → P p) : ∃ a xs, [v] = [V.ref a] ∧ SqL K H a xs ∧ P a := by
  obtain ⟨p, rfl, r | r⟩ := r
  · exact g_walkEs r fun S => q p rfl fun M hM => S M fun z => hM p z rfl
  · exact g_walkE e r fun a ea S => by cases ea; exact q p rfl fun M _ => S M
theorem g_walkVv0 {G0 H0 : Hp} {P : Addr → Prop} (r : LsV K v G0 H0 L) (n : Nx [] G0 H0 G H) (q : ∀ p, v = .ref p → (∀ M, (∀ q ∈ M, H0 q = none ∨ v ≠ .ref q) → Src K M (Itl K p) G H L) → P p) : ∃ b, v = .ref b ∧ (∃ xs, SqL K H b xs) ∧ P b := by
  obtain ⟨p, rfl, r | r⟩ := r
  · exact g_walkLs (r.go n (by simp)) fun S => q p rfl fun M hM => S M fun z => by
      rcases hM p z with h | h
      · exact r.live h
      · exact h rfl
  · obtain ⟨a, xs, ea, hs, hd⟩ := dp_lst (dp_mono n.gg r)
    cases ea
    exact ⟨p, rfl, ⟨xs, n.gh.seqL hs⟩, q p rfl fun M _ => src_lst hs hd⟩
theorem g_walkEv0 {G0 H0 : Hp} {P : Addr → Prop} (r : LsV K v G0 H0 L) (n : Nx [] G0 H0 G H) (q : ∀ p, v = .ref p → (∀ M, (∀ q ∈ M, H0 q = none ∨ v ≠ .ref q) → Src K M (Ite K p) G H (prs 0 L)) → P p) : ∃ a xs, [v] = [V.ref a] ∧ SqL K H a xs ∧ P a := by
  obtain ⟨p, rfl, r | r⟩ := r
  · exact g_walkEs (r.go n (by simp)) fun S => q p rfl fun M hM => S M fun z => by
      rcases hM p z with h | h
      · exact r.live h
      · exact h rfl
  · exact g_walkE n.gh (dp_mono n.gg r) fun a ea S => by cases ea; exact q p rfl fun M _ => S M
theorem g_listV (e : Ex G H) (r : LsV K v G H L) (q : ∀ p H', Nx [] G H G H' → H p = none → LstAt K p G H' L → Q (.ref p) H') : rListOf K [v] H Q := by
  obtain ⟨p, rfl, r | r⟩ := r
  · exact g_listL e r q
  · exact g_listM e r q
end
end Y
namespace Y
open PySem PySem.Spec PyProof.Rows L2
/-- a comprehension over told items or others; the list that is made stands meanwhile -/
theorem g_lcQ {K : PySem.W.Frag} {σ : L2.St} {G H : Hp} {Q : VK} {te : TE} {tt : TT} {g : TG} {J : It} {M : List Addr} {A : Addr} {n : Nat} {P : Nat → Hp → V → Prop} {js : List Nat} (S : SrcP M J G H n P) (e : Ex G H) (hA : H A = none) (hM : ∀ b ∈ M, H b ≠ none) (hz : n < sizeLine) (Jv : Nat → List V → Hp → Hp → Prop)
    (jA : ∀ i acc G' H' o, (H' A = none ∨ ∃ ys, H' A = some (.lst ys)) → Jv i acc G' H' → Jv i acc G' (upd H' A o)) (jN : ∀ i acc G' H' G1 H1, Nx [] G' H' G1 H1 → Jv i acc G' H' → Jv i acc G1 H1) (j0 : Jv 0 [] G H)
    (hs : ∀ i v acc G' H', i < n → P i G' v → Nx M G H G' H' → H' A ≠ none → acc.length ≤ i → Jv i acc G' H' → ∀ (QE : VK) (QN : Hp → Prop),
      (∀ y G4 H4, Nx M G' H' G4 H4 → Jv (i + 1) (acc ++ [y]) G4 H4 → QE y H4) → (∀ G3 H3, Nx M G' H' G3 H3 → Jv (i + 1) acc G3 H3 → QN H3) →
      g v (wipe σ js) H' fun σ2 H2 => wipe σ2 js = wipe σ js ∧ tt σ2 H2 fun b H3 => if b = true then te σ2 H3 QE else QN H3)
    (hd : ∀ G' H' ys, Jv n ys G' H' → Nx M G H G' H' → G' A = none → H' A = some (.lst ys) → ys.length ≤ n → Q (.ref A) H') : LcW J g tt te js σ A Q H := by
  have st0 : Nx [] G H G (upd H A (.lst [])) := Nx.own e hA
  have hAM : A ∉ M := fun z => hM A z hA
  refine ⟨fun i m H' => m = n - i ∧ i ≤ n ∧ ∃ G' ys, Nx M G H G' H' ∧ G' A = none ∧ H' A = some (.lst ys) ∧ ys.length ≤ i ∧ Jv i ys G' H',
    ⟨n, by simp, Nat.zero_le _, G, [], st0.pure, e.free hA, upd_same, Nat.le_refl _, jA _ _ _ _ _ (.inl hA) j0⟩, ?_⟩
  rintro i m H' ⟨rfl, hi, G', ys, nx, gA, hys, hl, jv⟩
  by_cases hlt : i < n
  · refine .inr ⟨S.go i G' H' nx hlt, fun H'' => ∃ G'' ys, Nx M G H G'' H'' ∧ G'' A = none ∧ H'' A = some (.lst ys) ∧ ys.length ≤ i + 1 ∧ Jv (i + 1) ys G'' H'',
      fun H'' ⟨G'', ys', r⟩ => ⟨n - (i + 1), by omega, rfl, hlt, G'', ys', r⟩, fun v H1 y => ?_⟩
    obtain ⟨G1, n1, d1⟩ := S.yld i G' H' v H1 nx hlt y
    have n2 : Nx M G H G1 H1 := nx.trans n1.pure
    have gA1 : G1 A = none := n1.old A gA (by rw [hys]; exact fun z => nomatch z)
    have hys1 : H1 A = some (.lst ys) := n1.fr A _ (by simp) hys
    refine hs i v ys G1 H1 hlt d1 n2 (by rw [hys1]; exact fun z => nomatch z) hl (jN _ _ _ _ _ _ n1 jv) _ _ (fun y G4 H4 n4 jv' => ?_) (fun G3 H3 n3 jv' => ?_)
    · have gA4 : G4 A = none := n4.old A gA1 (by rw [hys1]; exact fun z => nomatch z)
      have hys4 : H4 A = some (.lst ys) := n4.fr A _ hAM hys1
      have n5 : Nx M G H G4 H4 := n2.trans n4
      have n6 : Nx [A] G4 H4 G4 (upd H4 A (.lst (ys ++ [y]))) := Nx.set n4.gh gA4 (by simp)
      have n7 : Nx (A :: M) G H G4 (upd H4 A (.lst (ys ++ [y]))) := (n5.mono fun _ z => List.mem_cons_of_mem _ z).trans (n6.mono fun b z => by simp at z; simp [z])
      exact ⟨ys, hys4, by omega, G4, ys ++ [y], n7.drop hA, gA4, upd_same, by simp; omega, jA _ _ _ _ _ (.inr ⟨_, hys4⟩) jv'⟩
    · exact ⟨G3, ys, n2.trans n3, n3.old A gA1 (by rw [hys1]; exact fun z => nomatch z), n3.fr A _ hAM hys1, by omega, jv'⟩
  · have e' : i = n := by omega
    subst e'
    exact .inl ⟨S.stop _ G' H' nx (Nat.le_refl _), hd G' H' ys jv nx gA hys hl⟩
end Y
namespace Y
open PySem PySem.Spec PyProof.Rows L2
/-! ### zip of two lists, known or standing -/
def Seen (K : PySem.W.Frag) (M : List Addr) (G H : Hp) (v : V) (L : List PyData) : Prop := ∃ a xs, v = .ref a ∧ DpAll K G xs L ∧ ∀ G' H', Nx M G H G' H' → SqL K H' a xs
def zpD (L1 L2 : List PyData) : List PyData := (L1.zip L2).map fun p => .tuple [p.1, p.2]
section
variable {K : PySem.W.Frag} {G H G0 H0 : Hp} {L L1 L2 : List PyData} {v w : V} {M : List Addr}
theorem LsV.seen (r : LsV K v G0 H0 L) (n : Nx [] G0 H0 G H) (hM : ∀ q ∈ M, H0 q = none ∨ v ≠ .ref q) : Seen K M G H v L := by
  obtain ⟨p, rfl, r | r⟩ := r
  · obtain ⟨xs, h, g, d⟩ := r.go n (by simp)
    refine ⟨p, xs, rfl, d, fun G' H' n' => .of (n'.fr p _ (fun z => ?_) h)⟩
    rcases hM p z with q | q
    · exact r.live q
    · exact q rfl
  · obtain ⟨a, xs, ea, hs, hd⟩ := dp_lst (dp_mono n.gg r)
    cases ea
    exact ⟨p, xs, rfl, hd, fun G' H' n' => n'.gh.seqL (n'.gg.seqL hs)⟩
theorem g_walkZ {P : Addr → Addr → Prop} (e : Ex G H) (s1 : Seen K M G H v L1) (s2 : Seen K M G H w L2) (q : ∀ a b, Src K M (Itz K a b) G H (zpD L1 L2) → P a b) : ∃ a b xs ys, [v, w] = [V.ref a, V.ref b] ∧ SqL K H a xs ∧ SqL K H b ys ∧ P a b := by
  obtain ⟨a, xs, rfl, d1, f1⟩ := s1
  obtain ⟨b, ys, rfl, d2, f2⟩ := s2
  have l1 := dpAll_len d1
  have l2 := dpAll_len d2
  refine ⟨a, b, xs, ys, rfl, f1 _ _ (Nx.refl e), f2 _ _ (Nx.refl e), q a b ⟨fun i G' H' n hi => ?_, fun i G' H' n hi => ?_, fun i d G' H' x H'' n hi y => ?_⟩⟩
  · simp only [zpD, List.length_map, List.length_zip] at hi
    exact ⟨xs, ys, xs[i]'(by omega), ys[i]'(by omega), f1 _ _ n, f2 _ _ n, by simp, by simp⟩
  · simp only [zpD, List.length_map, List.length_zip] at hi
    refine ⟨xs, ys, f1 _ _ n, f2 _ _ n, ?_⟩
    rw [l1, l2]
    exact (by omega : L1.length ≤ i ∨ L2.length ≤ i)
  · obtain ⟨T, x1, y1, rfl, hT, rfl, g1, g2⟩ := y
    have hx := g1 _ (f1 _ _ n)
    have hy := g2 _ (f2 _ _ n)
    unfold zpD at hi
    rw [List.getElem?_map] at hi
    obtain ⟨⟨a1, b1⟩, hz, rfl⟩ := Option.map_eq_some_iff.mp hi
    obtain ⟨h1, h2⟩ := List.getElem?_zip_eq_some.mp hz
    obtain ⟨v1, hv1, dv1⟩ := dpAll_get d1 h1
    obtain ⟨v2, hv2, dv2⟩ := dpAll_get d2 h2
    rw [hx] at hv1
    rw [hy] at hv2
    cases hv1
    cases hv2
    have h2 := nx_tup (K := K) n.gh (xs := [x1, y1]) (ds := [a1, b1]) (.cons (dp_mono n.gg dv1) (.cons (dp_mono n.gg dv2) .nil)) hT
    exact ⟨_, h2.1, h2.2⟩
end
end Y
namespace Y
open PySem PySem.Spec PyProof.Rows L2
/-! ### ints of a list -/
theorem g_iZip {K : PySem.W.Frag} {ta : TA} {σ : L2.St} {H : Hp} {R : It → Hp → Prop} (q : ta σ H fun vs H1 => ∃ a b xs ys, vs = [.ref a, .ref b] ∧ SqL K H1 a xs ∧ SqL K H1 b ys ∧ R (Itz K a b) H1) : iZip K ta σ H R := q
theorem LstAt.ints {K : PySem.W.Frag} {p : Addr} {G H : Hp} {ns : List Int} (r : LstAt K p G H (ns.map .int)) : H p = some (.lst (ns.map V.int)) := by
  obtain ⟨vs, h, _, d⟩ := r
  rw [h, dpAll_ints_inv d]
theorem LsV.ints {K : PySem.W.Frag} {v : V} {G H : Hp} {ns : List Int} (r : LsV K v G H (ns.map .int)) (e : Ex G H) : ∃ p, v = .ref p ∧ SqL K H p (ns.map V.int) := by
  obtain ⟨p, rfl, r | r⟩ := r
  · exact ⟨p, rfl, .of r.ints⟩
  · obtain ⟨a, xs, ea, hs, hd⟩ := dp_lst r
    cases ea
    rw [← dpAll_ints_inv hd]
    exact ⟨p, rfl, e.seqL hs⟩
theorem inV_int {ns : List Int} {i : Int} : inV (.int i) (ns.map V.int) = decide (i ∈ ns) := by
  show (ns.map V.int).any (fun y => eqV y (.int i)) = _
  rw [List.any_map, Bool.eq_iff_iff, List.any_eq_true, decide_eq_true_eq]
  constructor
  · rintro ⟨x, hx, hx2⟩
    have : x = i := eq_of_beq hx2
    exact this ▸ hx
  · intro hx
    exact ⟨i, hx, beq_self_eq_true i⟩
theorem g_inIF {K : PySem.W.Frag} {G H : Hp} {Q : VK} {v : V} {ns : List Int} {i : Int} (e : Ex G H) (r : LsV K v G H (ns.map .int)) (q : Q (.bl (decide (i ∈ ns))) H) : rIn K false (.int i) v H Q := by
  obtain ⟨p, rfl, h⟩ := r.ints e
  refine ⟨p, _, rfl, .inl h, rfl, ?_, ?_⟩
  · rw [List.all_map]
    exact List.all_eq_true.mpr fun _ _ => rfl
  · rw [inV_int]
    exact q
theorem g_inIT {K : PySem.W.Frag} {G H : Hp} {Q : VK} {v : V} {ns : List Int} {i : Int} (e : Ex G H) (r : LsV K v G H (ns.map .int)) (q : Q (.bl (!decide (i ∈ ns))) H) : rIn K true (.int i) v H Q := by
  obtain ⟨p, rfl, h⟩ := r.ints e
  refine ⟨p, _, rfl, .inl h, rfl, ?_, ?_⟩
  · rw [List.all_map]
    exact List.all_eq_true.mpr fun _ _ => rfl
  · rw [inV_int]
    exact q
end Y

namespace L2
open PySem PySem.Spec PyProof.Rows
/-! ### set(xs) of a list of ints -/
/-- a set with nothing in it -/
abbrev bare (w : World) : Obj := { cls := .type "set", dict := none, data := .set #[] 0 (.fresh 0 0 (!w.params.followText "set-order")) }
abbrev laid (w : World) (s : Shared) : Shared := { s with heap := s.heap.push (bare w) }
section
variable {P : Program} {w : World} {A : Around} {E : Value → Shared → Prop} {s : Shared}
theorem set_of_ints {l : Addr} {xs : Array Value} (ns : List Int) {Q : Value → Shared → Prop} (nh : A.handled = none) (isl : s.heap.IsList l xs) (areI : IntsAre xs.toList ns) (few : ns.length + 1 < scanBound)
    (q : ∀ (h2 : Heap) (tk c : Nat), SetR w h2 s.heap.objs.size (fun j => decide (j ∈ ns)) c → c ≤ ns.length → (∀ b o, s.heap.get? b = some o → h2.get? b = some o) → Q (.ref s.heap.objs.size) { s with heap := h2, toks := tk }) :
    wpAny (model P w) A (call (.type "set") [.ref l]) Q E s := by
  have size : xs.size = ns.length := by have z := IntsAre.length areI; rwa [Array.length_toList] at z
  obtain ⟨cc, rest, mro⟩ := F.called_set.mro
  have made := F.called_set.made
  have sub := F.called_set.sub
  refine wpAny_call (codeAny_of_tree ?_)
  show wpAny _ _ (callAny (.type "set") _) _ _ _
  refine wpAny_pure ⟨Code.quiet_builtin _ (by decide +kernel), ?_⟩
  refine codeAny_builtin F.entry_type_call ?_
  rw [Around.under_plain (weight_type_call_type "set" [.ref l] []) rfl]
  have t1 := F.called_set.notType
  have t2 := F.called_set.canCreate
  have t3 := F.typeCall_set_1 (.ref l)
  repeat (any_goals (first | assumption | wp_step))
  refine codeAny_mono (code_set_led1 (.ref l) (E := E) (Q₁ := fun v s1 => v = .ref s.heap.objs.size ∧ s1 = laid w s) ⟨rfl, rfl⟩) fun r1 s1 done => ?_
  cases r1 with
  | error e => exact done
  | ok f1 =>
    cases f1 with
    | ret v =>
      obtain ⟨rfl, rfl⟩ := done
      have at0 : (laid w s).heap.get? s.heap.objs.size = some (bare w) := Heap.get?_push_size _ rfl
      have ty0 : Shared.TypeIs (laid w s) (.ref s.heap.objs.size) "set" := ⟨_, at0, rfl⟩
      have i1 := F.called_set.init.lookup
      have i2 := F.called_set.init.bind (.ref s.heap.objs.size)
      repeat (any_goals (first | assumption | wp_step))
      refine codeAny_mono (codeAny_call_builtin (R := wants (fun v s2 => v = .none ∧ ∃ h2 tk c, s2 = { s with heap := h2, toks := tk } ∧ SetR w h2 s.heap.objs.size (fun j => decide (j ∈ ns)) c ∧ c ≤ ns.length ∧ ∀ b o, s.heap.get? b = some o → h2.get? b = some o) E)
        F.called_set.init.plain F.entry_set_init (check_set_init_1 ty0 ?_)) fun r2 s2 done2 => ?_
      · obtain ⟨⟨lc, ld, ldata, lsl⟩, lat, lcls, lep, ldat⟩ := isl
        simp only at lcls ldat
        subst lcls ldat
        have lat2 : (laid w s).heap.get? l = some { cls := .type "list", dict := ld, data := .seq xs lep, slots := lsl } := Heap.get?_push_of_some _ lat
        have x1 := F.sub_list_set
        have x2 := F.sub_list_frozenset
        have x3 : (Value.type "list" == Value.type "dict") = false := by decide
        have isl2 : (laid w s).heap.IsList l xs := ⟨_, lat2, rfl, lep, rfl⟩
        unfold Builtin.«set.__init__» noKeywords Builtin.Frozenset.updateFrom
        generalize ep : pyIter = pi
        wp_walk
        subst ep
        refine wpAny_pyIter_list isl2 ?_
        refine wpAny_bind (wpAny_runValue ?_)
        have below : l < s.heap.objs.size := Heap.lt_size lat
        have nh3 : A.in1.in1.in1.handled = none := by simp [nh]
        have apart : l ≠ (laid w s).heap.objs.size := by
          rw [Heap.size_push]
          exact fun z => absurd below (Nat.not_lt.mpr (Nat.le_trans (Nat.le_succ _) (Nat.le_of_eq z.symm)))
        have out : s.heap.objs.size ∉ [(laid w s).heap.objs.size, l] := by
          rw [Heap.size_push]
          intro z
          simp only [List.mem_cons, List.not_mem_nil, or_false] at z
          rcases z with z | z
          · exact Nat.succ_ne_self _ z.symm
          · exact Nat.lt_irrefl _ (Nat.lt_of_le_of_lt (Nat.le_of_eq z) below)
        have each : ∀ (i : Nat) (v : Value), xs[i]? = some v → ∃ k t, ns[i]? = some k ∧ v = .int k t := fun i v hv => by
          have lt : i < ns.length := by rw [← size]; exact (Array.getElem?_eq_some_iff.mp hv).1
          obtain ⟨t, e⟩ := IntsAre.int_at areI i v (by rw [Array.getElem?_toList]; exact hv)
          exact ⟨ns[i], t, List.getElem?_eq_getElem lt, by rw [e, List.getD_eq_getElem?_getD, List.getElem?_eq_getElem lt] <;> rfl⟩
        refine set_update_ints ((Walks.list nh3 _ l apart xs).toS) s.heap.objs.size out ns size few each (xs.size - 0) 0 _ (by omega) (Nat.zero_le _) ⟨⟨_, Heap.get?_push_size _ rfl, rfl, rfl⟩, isl2.push _⟩ ?first ?last
        case first =>
          exact ⟨0, Nat.le_refl 0, setR_new_at (Heap.get?_push_of_some _ at0)⟩
        case last =>
          intro s3 c mv cle R3
          obtain ⟨h3, g3, d3, tk3, os3⟩ := s3
          obtain rfl : g3 = s.gens := mv.gens
          obtain rfl : d3 = s.drawn := mv.drawn
          obtain rfl : os3 = s.os := mv.os
          show wpAny _ _ _ _ _ _
          refine wpAny_pure ?_
          show wpAny _ _ (ret Value.none) _ _ _
          refine wpAny_pure ⟨rfl, h3, tk3, c, rfl, R3, by rw [← size]; exact cle, fun b o e => ?_⟩
          have lt : b < s.heap.objs.size := Heap.lt_size e
          refine mv.heap b o (fun z => ?_) (Heap.get?_push_of_some _ (Heap.get?_push_of_some _ e))
          rw [Heap.size_push] at z
          simp only [List.mem_cons, List.not_mem_nil, or_false] at z
          rcases z with z | z
          · exact Nat.lt_irrefl _ (Nat.lt_of_le_of_lt (Nat.le_of_eq z.symm) lt)
          · exact Nat.lt_irrefl _ (Nat.lt_of_le_of_lt (Nat.le_trans (Nat.le_succ _) (Nat.le_of_eq z.symm)) lt)
      · cases r2 with
        | error e => exact done2
        | ok f2 =>
          cases f2 with
          | ret v =>
            obtain ⟨rfl, h2, tk, c, rfl, R2, cle, keep⟩ := done2
            repeat (any_goals (first | assumption | wp_step))
            exact q _ _ _ R2 cle keep
          | _ => exact done2.elim
    | _ => exact done.elim
end
end L2
namespace Y
open PySem PySem.Spec PyProof.Rows L2
def rSetOfI (K : PySem.W.Frag) (w : World) : List V → Hp → VK → Prop := fun us H Q => ∃ (l : Addr) (ns : List Int), us = [.ref l] ∧ SqL K H l (ns.map V.int) ∧ ns.length ≤ 1000 ∧ ∀ a c, H a = none → c ≤ ns.length → Q (.ref a) (upd H a (SetO w a (fun j => decide (j ∈ ns)) c))
theorem call_setOfI {X : Cx} (hc : X.calm = true) : CallR X (.type "set") (rSetOfI X.K X.w) := by
  intro pins s σ H us ws Q I r h
  obtain ⟨l, ns, rfl, hl, few, q⟩ := h
  rw [Vals.ref1 r]
  obtain ⟨its, rv, pl, _⟩ := I.list hl
  refine L2.set_of_ints ns (I.ok.hd hc) pl.isList (by simpa using ints_of_vals rv) (by unfold scanBound; omega) fun h2 tk c R cle keep => ?_
  exact ⟨.ref s.heap.objs.size, _, I.laid (t' := tk) keep (Nat.le_refl _) (setO_new R), rfl, q _ c (I.hok.fresh (Nat.le_refl _)) cle⟩
end Y
namespace Y
open PySem PySem.Spec PyProof.Rows L2
theorem call_setOfIK {X : Cx} {K : PySem.W.Frag} {w : World} (hK : X.K = K) (hw : X.w = w) (hc : X.calm = true) : CallR X (.type "set") (rSetOfI K w) := hK ▸ hw ▸ call_setOfI hc
theorem call_srtSet {X : Cx} {w : World} (hw : X.w = w) (hc : X.calm = true) : CallR X (.builtin "sorted") (rSortedSet w) := hw ▸ cr_sortedSet hc
theorem lt_unique {xs ys : List Int} (hx : xs.Pairwise (· < ·)) (hy : ys.Pairwise (· < ·)) (h : ∀ k, k ∈ xs ↔ k ∈ ys) : xs = ys := by
  have nx : xs.Nodup := hx.imp fun h => by omega
  have ny : ys.Nodup := hy.imp fun h => by omega
  exact List.Perm.eq_of_pairwise (fun a b _ _ h1 h2 => by omega) hx hy ((List.perm_ext_iff_of_nodup nx ny).mpr h)
/-- set(xs), then sorted of it, the xs distinct and ascending -/
theorem g_setOfI {K : PySem.W.Frag} {w : World} {G H : Hp} {Q : VK} {v : V} {S : List Int} (e : Ex G H) (r : LsV K v G H (S.map .int)) (few : S.length ≤ 1000) (q : ∀ a c H', Nx [] G H G H' → H a = none → c ≤ S.length → H' a = some (SetO w a (fun j => decide (j ∈ S)) c) → Q (.ref a) H') : rSetOfI K w [v] H Q := by
  obtain ⟨p, rfl, h⟩ := r.ints e
  exact ⟨p, S, rfl, h, few, fun a c ha hc => q a c _ (Nx.own e ha) ha hc upd_same⟩
theorem g_srtSet {K : PySem.W.Frag} {w : World} {G H : Hp} {Q : VK} {a : Addr} {c : Nat} {S : List Int} (e : Ex G H) (h : H a = some (SetO w a (fun j => decide (j ∈ S)) c)) (hc : c < 64) (hs : S.Pairwise (· < ·)) (q : ∀ p H', Nx [] G H G H' → H p = none → LstAt K p G H' (S.map .int) → Q (.ref p) H') : rSortedSet w [.ref a] H Q := by
  refine ⟨a, _, c, rfl, h, hc, fun ns p h1 h2 _ hp => ?_⟩
  have en : ns = S := lt_unique h1 hs fun k => (h2 k).trans (by rw [decide_eq_true_eq])
  subst en
  exact q p _ (Nx.own e hp) hp ⟨_, upd_same, e.free hp, dpAll_ints ns⟩
end Y

set_option Elab.async false
set_option linter.all false
set_option maxRecDepth 100000
set_option maxHeartbeats 4000000
local macro_rules | `(tactic| walk_at "dp") => `(tactic| (first | assumption | exact L2.Dp.non | exact L2.Dp.bl _ | exact L2.Dp.int _ | exact L2.Dp.str _ | (refine Y.dp_mono (Y.Nx.gg (by assumption)) ?_; walk_at "dp")))
local macro_rules | `(tactic| walk_at "isi") => `(tactic| first
  | refine Y.g_isi (b := true) (by assumption) (by walk_at "dp") (by rfl) ?_
  | refine Y.g_isi (b := false) (by assumption) (by walk_at "dp") (by rfl) ?_)
local macro_rules | `(tactic| walk_at "s1") => `(tactic| (with_reducible first
  | exact Y.g_test ?_ | fail))
local macro_rules | `(tactic| walk_at "sx") => `(tactic| repeat' (first
  | ((with_reducible apply Y.g_var); focus (exact rfl))
  | (with_reducible first
      | refine Y.g_seq ?_ | refine Y.g_asg ?_ | refine Y.g_name ?_ | refine Y.g_ret ?_ | refine Y.g_drop ?_ | refine Y.g_next ?_ | refine Y.g_ifS ?_ | refine Y.g_ifE ?_
      | refine Y.g_c ?_ | refine Y.g_nil ?_ | refine Y.g_cons ?_ | refine Y.g_op ?_ | refine Y.g_un ?_ | refine Y.g_cb ?_ | refine Y.g_call ?_ | refine Y.g_call1 ?_ | refine Y.g_callS ?_
      | refine Y.g_test ?_ | refine Y.g_tB ?_ | refine Y.g_isbl ?_ | refine Y.g_and ?_ | refine Y.g_or ?_ | refine Y.g_not ?_ | refine Y.g_andV ?_ | refine Y.g_orV ?_ | refine Y.g_notV ?_
      | refine Y.g_chain ?_ | refine Y.g_isN ?_ | refine Y.g_notN ?_ | refine Y.g_I0 ?_ | refine Y.g_U ?_ | refine Y.g_eqII ?_ | refine Y.g_eqSS ?_ | refine Y.g_neII ?_ | refine Y.g_neSS ?_
      | refine Y.g_iT ?_ | refine Y.g_iF ?_ | refine Y.g_inT ?_ | refine Y.g_inF ?_ | refine Y.g_retN ?_
      | refine Y.g_tup ?_ | refine Y.g_lst ?_ | refine Y.g_bm ?_ | refine Y.g_bm0 ?_ | refine Y.g_yes ?_ | refine Y.g_sub ?_ | refine Y.g_sl ?_ | refine Y.g_noPart ?_ | refine Y.g_part ?_ | refine Y.g_isint ?_ | refine Y.g_for ?_ | refine Y.g_lc ?_ | refine Y.g_iTup ?_ | refine Y.g_iList ?_ | refine Y.g_iStr ?_ | refine Y.g_iRng1 ?_ | refine Y.g_iRng2 ?_ | refine Y.g_iEnum ?_ | refine Y.g_iEnT ?_
      | refine Y.g_meth ?_ | refine Y.g_methS ?_ | refine Y.g_fld ?_ | refine Y.g_sfd ?_ | refine Y.g_din ?_ | refine Y.g_dni ?_ | refine Y.g_dge ?_ | refine Y.g_dpu ?_ | refine Y.g_dde ?_ | refine Y.g_lvs ?_
      | refine Y.g_del ?_ | refine Y.g_abs ?_ | refine Y.g_int1 ?_ | refine Y.g_m1 ?_ | refine Y.g_dc ?_ | refine Y.g_disp ?_ | refine Y.g_pair ?_ | refine Y.g_pair0 ?_ | refine Y.g_tru ?_ | refine Y.g_cont ?_ | refine Y.g_brk ?_ | refine Y.g_isS ?_ | refine Y.g_fs ?_ | refine Y.g_js ?_ | refine Y.g_js0 ?_ | refine Y.g_fmt ?_ | refine Y.g_star ?_ | refine Y.g_inSign ?_ | refine Y.g_isB ?_ | refine Y.g_notB ?_ | refine Y.g_lrev ?_ | refine Y.g_augS ?_ | refine Y.g_ipI ?_ | refine Y.g_dg1 ?_ | refine Y.g_dg2 ?_ | refine Y.g_iZip ?_)))
local macro_rules | `(tactic| walk_at "len") => `(tactic| first | refine Y.g_lenT (by assumption) (by walk_at "dp") ?_ | refine Y.g_lenL (by assumption) (by walk_at "dp") ?_)
local macro_rules | `(tactic| walk_at "ix0") => `(tactic| first | refine Y.g_ixT (k := 0) (by assumption) (by walk_at "dp") (by rfl) (by rfl) ?_ | refine Y.g_ixL (k := 0) (by assumption) (by walk_at "dp") (by rfl) (by rfl) ?_)
local macro_rules | `(tactic| walk_at "ix1") => `(tactic| first | refine Y.g_ixT (k := 1) (by assumption) (by walk_at "dp") (by rfl) (by rfl) ?_ | refine Y.g_ixL (k := 1) (by assumption) (by walk_at "dp") (by rfl) (by rfl) ?_)
local macro_rules | `(tactic| walk_at "ix2") => `(tactic| first | refine Y.g_ixT (k := 2) (by assumption) (by walk_at "dp") (by rfl) (by rfl) ?_ | refine Y.g_ixL (k := 2) (by assumption) (by walk_at "dp") (by rfl) (by rfl) ?_)
local macro_rules | `(tactic| walk_at "da") => `(tactic| (repeat (first | exact L2.DpAll.nil | refine L2.DpAll.cons (by walk_at "dp") ?_)))

namespace A
open PySem PySem.Spec PyProof.Rows L2 Y
def topS (i : Nat) : Stmt := PySem.Challenge.pw_laidviews_k25_great_nets.main.body.getD i (.Pass ⟨0, 0, 0, 0⟩)
abbrev s_is_whole : Stmt := topS 4
theorem sc_is_whole : FnScope ["value"] ["value"] (defScope s_is_whole) := ⟨rfl, rfl, rfl, by decide +kernel, rfl, by decide +kernel, by decide +kernel⟩
def d_is_whole : He.DefD := ⟨("is_whole", none), "is_whole", "is_whole", defArgs s_is_whole, defBody s_is_whole, defScope s_is_whole, [], []⟩
abbrev s_is_within : Stmt := topS 5
theorem sc_is_within : FnScope ["value", "least", "greatest"] ["value", "least", "greatest"] (defScope s_is_within) := ⟨rfl, rfl, rfl, by decide +kernel, rfl, by decide +kernel, by decide +kernel⟩
def d_is_within : He.DefD := ⟨("is_within", none), "is_within", "is_within", defArgs s_is_within, defBody s_is_within, defScope s_is_within, [], []⟩
abbrev s__is_edge : Stmt := topS 10
theorem sc__is_edge : FnScope ["count", "edge", "one", "two", "room"] ["count", "edge"] (defScope s__is_edge) := ⟨rfl, rfl, rfl, by decide +kernel, rfl, by decide +kernel, by decide +kernel⟩
def d__is_edge : He.DefD := ⟨("_is_edge", none), "_is_edge", "_is_edge", defArgs s__is_edge, defBody s__is_edge, defScope s__is_edge, [], []⟩
abbrev s__left : Stmt := topS 13
theorem sc__left : FnScope ["edge", "amount", "forward"] ["edge", "amount", "forward"] (defScope s__left) := ⟨rfl, rfl, rfl, by decide +kernel, rfl, by decide +kernel, by decide +kernel⟩
def d__left : He.DefD := ⟨("_left", none), "_left", "_left", defArgs s__left, defBody s__left, defScope s__left, [], []⟩
abbrev s__steps_at : Stmt := topS 12
theorem sc__steps_at : FnScope ["count", "edges", "steps", "number", "edge", "_", "one", "two"] ["count", "edges"] (defScope s__steps_at) := ⟨rfl, rfl, rfl, by decide +kernel, rfl, by decide +kernel, by decide +kernel⟩
def d__steps_at : He.DefD := ⟨("_steps_at", none), "_steps_at", "_steps_at", defArgs s__steps_at, defBody s__steps_at, defScope s__steps_at, [], []⟩
abbrev s__distances : Stmt := topS 14
theorem sc__distances : FnScope ["start", "ahead", "steps", "edges", "flow", "distances", "found", "further", "node", "number", "forward", "other"] ["start", "ahead", "steps", "edges", "flow"] (defScope s__distances) := ⟨rfl, rfl, rfl, by decide +kernel, rfl, by decide +kernel, by decide +kernel⟩
def d__distances : He.DefD := ⟨("_distances", none), "_distances", "_distances", defArgs s__distances, defBody s__distances, defScope s__distances, [], []⟩
abbrev s__send : Stmt := topS 15
theorem sc__send : FnScope ["way", "edges", "flow", "amount", "number", "forward", "_"] ["way", "edges", "flow"] (defScope s__send) := ⟨rfl, rfl, rfl, by decide +kernel, rfl, by decide +kernel, by decide +kernel⟩
def d__send : He.DefD := ⟨("_send", none), "_send", "_send", defArgs s__send, defBody s__send, defScope s__send, [], []⟩
abbrev s__send_all : Stmt := topS 16
theorem sc__send_all : FnScope ["distances", "steps", "edges", "flow", "tried", "way", "node", "_", "number", "forward", "other"] ["distances", "steps", "edges", "flow"] (defScope s__send_all) := ⟨rfl, rfl, rfl, by decide +kernel, rfl, by decide +kernel, by decide +kernel⟩
def d__send_all : He.DefD := ⟨("_send_all", none), "_send_all", "_send_all", defArgs s__send_all, defBody s__send_all, defScope s__send_all, [], []⟩
abbrev s_Misused___init__ : Stmt := inClass (topS 2) 0
theorem sc_Misused___init__ : FnScope ["self", "why"] ["self", "why"] (defScope s_Misused___init__) := ⟨rfl, rfl, rfl, by decide +kernel, rfl, by decide +kernel, by decide +kernel⟩
def d_Misused___init__ : He.DefD := ⟨("Misused", some "__init__"), "__init__", "Misused.__init__", defArgs s_Misused___init__, defBody s_Misused___init__, defScope s_Misused___init__, [], []⟩
abbrev s_check_net : Stmt := topS 11
theorem sc_check_net : FnScope ["count", "edges", "edge"] ["count", "edges"] (defScope s_check_net) := ⟨rfl, rfl, rfl, by decide +kernel, rfl, by decide +kernel, by decide +kernel⟩
def d_check_net : He.DefD := ⟨("check_net", none), "check_net", "check_net", defArgs s_check_net, defBody s_check_net, defScope s_check_net, [], []⟩
abbrev s_greatest_flow : Stmt := topS 17
theorem sc_greatest_flow : FnScope ["count", "edges", "steps", "flow", "distances"] ["count", "edges"] (defScope s_greatest_flow) := ⟨rfl, rfl, rfl, by decide +kernel, rfl, by decide +kernel, by decide +kernel⟩
def d_greatest_flow : He.DefD := ⟨("greatest_flow", none), "greatest_flow", "greatest_flow", defArgs s_greatest_flow, defBody s_greatest_flow, defScope s_greatest_flow, [], []⟩
abbrev s__law_cost : Stmt := topS 23
theorem sc__law_cost : FnScope ["edges", "side", "one", "two", "room"] ["edges", "side"] (defScope s__law_cost) := ⟨rfl, rfl, rfl, by decide +kernel, rfl, by decide +kernel, by decide +kernel⟩
def d__law_cost : He.DefD := ⟨("_law_cost", none), "_law_cost", "_law_cost", defArgs s__law_cost, defBody s__law_cost, defScope s__law_cost, [], []⟩
abbrev s__law_draw : Stmt := topS 21
theorem sc__law_draw : FnScope ["state", "many", "taken", "place", "cell", "one", "two"] ["state", "many"] (defScope s__law_draw) := ⟨rfl, rfl, rfl, by decide +kernel, rfl, by decide +kernel, by decide +kernel⟩
def d__law_draw : He.DefD := ⟨("_law_draw", none), "_law_draw", "_law_draw", defArgs s__law_draw, defBody s__law_draw, defScope s__law_draw, [], []⟩
abbrev s__law_grid : Stmt := topS 27
theorem sc__law_grid : FnScope ["state", "wide", "high", "edges", "k"] ["state"] (defScope s__law_grid) := ⟨rfl, rfl, rfl, by decide +kernel, rfl, by decide +kernel, by decide +kernel⟩
def d__law_grid : He.DefD := ⟨("_law_grid", none), "_law_grid", "_law_grid", defArgs s__law_grid, defBody s__law_grid, defScope s__law_grid, [], []⟩
abbrev s__law_is_flow : Stmt := topS 25
theorem sc__law_is_flow : FnScope ["count", "edges", "flow", "gain", "k", "one", "two", "room", "node"] ["count", "edges", "flow"] (defScope s__law_is_flow) := ⟨rfl, rfl, rfl, by decide +kernel, rfl, by decide +kernel, by decide +kernel⟩
def d__law_is_flow : He.DefD := ⟨("_law_is_flow", none), "_law_is_flow", "_law_is_flow", defArgs s__law_is_flow, defBody s__law_is_flow, defScope s__law_is_flow, [], []⟩
abbrev s__law_left : Stmt := topS 28
theorem sc__law_left : FnScope ["edges", "flow", "side", "k", "one", "two", "room"] ["edges", "flow", "side"] (defScope s__law_left) := ⟨rfl, rfl, rfl, by decide +kernel, rfl, by decide +kernel, by decide +kernel⟩
def d__law_left : He.DefD := ⟨("_law_left", none), "_law_left", "_law_left", defArgs s__law_left, defBody s__law_left, defScope s__law_left, [], []⟩
abbrev s__law_net : Stmt := topS 22
theorem sc__law_net : FnScope ["state", "most", "many", "count", "edges", "k", "one", "two"] ["state", "most", "many"] (defScope s__law_net) := ⟨rfl, rfl, rfl, by decide +kernel, rfl, by decide +kernel, by decide +kernel⟩
def d__law_net : He.DefD := ⟨("_law_net", none), "_law_net", "_law_net", defArgs s__law_net, defBody s__law_net, defScope s__law_net, [], []⟩
abbrev s__law_worth : Stmt := topS 26
theorem sc__law_worth : FnScope ["edges", "flow", "total", "k"] ["edges", "flow"] (defScope s__law_worth) := ⟨rfl, rfl, rfl, by decide +kernel, rfl, by decide +kernel, by decide +kernel⟩
def d__law_worth : He.DefD := ⟨("_law_worth", none), "_law_worth", "_law_worth", defArgs s__law_worth, defBody s__law_worth, defScope s__law_worth, [], []⟩
abbrev s_narrow_side : Stmt := topS 18
theorem sc_narrow_side : FnScope ["count", "edges", "flow"] ["count", "edges", "flow"] (defScope s_narrow_side) := ⟨rfl, rfl, rfl, by decide +kernel, rfl, by decide +kernel, by decide +kernel⟩
def d_narrow_side : He.DefD := ⟨("narrow_side", none), "narrow_side", "narrow_side", defArgs s_narrow_side, defBody s_narrow_side, defScope s_narrow_side, [], []⟩
abbrev s_wide_side : Stmt := topS 19
theorem sc_wide_side : FnScope ["count", "edges", "flow", "leading", "node"] ["count", "edges", "flow"] (defScope s_wide_side) := ⟨rfl, rfl, rfl, by decide +kernel, rfl, by decide +kernel, by decide +kernel⟩
def d_wide_side : He.DefD := ⟨("wide_side", none), "wide_side", "wide_side", defArgs s_wide_side, defBody s_wide_side, defScope s_wide_side, [], []⟩
abbrev s_law : Stmt := topS 29
theorem sc_law : FnScope ["script", "state", "flow", "price", "narrow", "wide", "side", "count", "edges", "node"] ["script"] (defScope s_law) := ⟨rfl, rfl, rfl, by decide +kernel, rfl, by decide +kernel, by decide +kernel⟩
def d_law : He.DefD := ⟨("law", none), "law", "law", defArgs s_law, defBody s_law, defScope s_law, [], []⟩
def fn : List He.DefD := [d_is_whole, d_is_within, d__is_edge, d__left, d__steps_at, d__distances, d__send, d__send_all, d_Misused___init__, d_check_net, d_greatest_flow, d__law_cost, d__law_draw, d__law_grid, d__law_is_flow, d__law_left, d__law_net, d__law_worth, d_narrow_side, d_wide_side, d_law]
def fa : List He.Fa := [He.Fa.free "isinstance", He.Fa.free "bool", He.Fa.free "int", He.Fa.int "FEWEST_NODES" (2), He.Fa.glo "Misused", He.Fa.free "range", He.Fa.free "enumerate", He.Fa.free "min", He.Fa.free "len", He.Fa.int "SOURCE" (0), He.Fa.int "SINK" (1), He.Fa.free "sorted", He.Fa.free "abs", He.Fa.free "sum", He.Fa.free "list", He.Fa.free "set", He.Fa.glo "is_whole", He.Fa.glo "is_within", He.Fa.glo "_is_edge", He.Fa.glo "_left", He.Fa.glo "_steps_at", He.Fa.glo "_distances", He.Fa.glo "_send", He.Fa.glo "_send_all", He.Fa.glo "check_net", He.Fa.glo "greatest_flow", He.Fa.glo "_law_cost", He.Fa.glo "_law_draw", He.Fa.glo "_law_grid", He.Fa.glo "_law_is_flow", He.Fa.glo "_law_left", He.Fa.glo "_law_net", He.Fa.glo "_law_worth", He.Fa.glo "narrow_side", He.Fa.glo "wide_side", He.Fa.glo "law"]
def bxs (K : PySem.W.Frag) : List Bool := [exB K (He.ga K "Misused") "why"]
def bx (K : PySem.W.Frag) : Bool := (bxs K).all id
section
variable {P : Program} {w : World} {K : PySem.W.Frag} {mg : Str → Option Value} {base : Heap}
theorem ex_Misused (T : Tx fa fn bx K mg) : ExC K (He.ga K "Misused") "why" := exB_ok (Y.all_at T.more 0 rfl)
theorem F_is_whole (T : Tx fa fn bx K mg) : FunD K "is_whole" "is_whole" (defArgs s_is_whole) (defBody s_is_whole) (defScope s_is_whole) [] [] (He.ga K "is_whole") (fdOf K (He.ga K "is_whole")) := T.fn 0 rfl
theorem cal_is_whole (T : Tx fa fn bx K mg) : Cal K mg "is_whole" ["value"] := ⟨T.glo 16, (F_is_whole T).kp, (F_is_whole T).bindsN fun _ _ _ _ _ _ us hl => match us, hl with | [_], _ => rfl⟩
theorem F_is_within (T : Tx fa fn bx K mg) : FunD K "is_within" "is_within" (defArgs s_is_within) (defBody s_is_within) (defScope s_is_within) [] [] (He.ga K "is_within") (fdOf K (He.ga K "is_within")) := T.fn 1 rfl
theorem cal_is_within (T : Tx fa fn bx K mg) : Cal K mg "is_within" ["value", "least", "greatest"] := ⟨T.glo 17, (F_is_within T).kp, (F_is_within T).bindsN fun _ _ _ _ _ _ us hl => match us, hl with | [_, _, _], _ => rfl⟩
theorem F__is_edge (T : Tx fa fn bx K mg) : FunD K "_is_edge" "_is_edge" (defArgs s__is_edge) (defBody s__is_edge) (defScope s__is_edge) [] [] (He.ga K "_is_edge") (fdOf K (He.ga K "_is_edge")) := T.fn 2 rfl
theorem cal__is_edge (T : Tx fa fn bx K mg) : Cal K mg "_is_edge" ["count", "edge"] := ⟨T.glo 18, (F__is_edge T).kp, (F__is_edge T).bindsN fun _ _ _ _ _ _ us hl => match us, hl with | [_, _], _ => rfl⟩
theorem F__left (T : Tx fa fn bx K mg) : FunD K "_left" "_left" (defArgs s__left) (defBody s__left) (defScope s__left) [] [] (He.ga K "_left") (fdOf K (He.ga K "_left")) := T.fn 3 rfl
theorem cal__left (T : Tx fa fn bx K mg) : Cal K mg "_left" ["edge", "amount", "forward"] := ⟨T.glo 19, (F__left T).kp, (F__left T).bindsN fun _ _ _ _ _ _ us hl => match us, hl with | [_, _, _], _ => rfl⟩
theorem F__steps_at (T : Tx fa fn bx K mg) : FunD K "_steps_at" "_steps_at" (defArgs s__steps_at) (defBody s__steps_at) (defScope s__steps_at) [] [] (He.ga K "_steps_at") (fdOf K (He.ga K "_steps_at")) := T.fn 4 rfl
theorem cal__steps_at (T : Tx fa fn bx K mg) : Cal K mg "_steps_at" ["count", "edges"] := ⟨T.glo 20, (F__steps_at T).kp, (F__steps_at T).bindsN fun _ _ _ _ _ _ us hl => match us, hl with | [_, _], _ => rfl⟩
theorem F__distances (T : Tx fa fn bx K mg) : FunD K "_distances" "_distances" (defArgs s__distances) (defBody s__distances) (defScope s__distances) [] [] (He.ga K "_distances") (fdOf K (He.ga K "_distances")) := T.fn 5 rfl
theorem cal__distances (T : Tx fa fn bx K mg) : Cal K mg "_distances" ["start", "ahead", "steps", "edges", "flow"] := ⟨T.glo 21, (F__distances T).kp, (F__distances T).bindsN fun _ _ _ _ _ _ us hl => match us, hl with | [_, _, _, _, _], _ => rfl⟩
theorem F__send (T : Tx fa fn bx K mg) : FunD K "_send" "_send" (defArgs s__send) (defBody s__send) (defScope s__send) [] [] (He.ga K "_send") (fdOf K (He.ga K "_send")) := T.fn 6 rfl
theorem cal__send (T : Tx fa fn bx K mg) : Cal K mg "_send" ["way", "edges", "flow"] := ⟨T.glo 22, (F__send T).kp, (F__send T).bindsN fun _ _ _ _ _ _ us hl => match us, hl with | [_, _, _], _ => rfl⟩
theorem F__send_all (T : Tx fa fn bx K mg) : FunD K "_send_all" "_send_all" (defArgs s__send_all) (defBody s__send_all) (defScope s__send_all) [] [] (He.ga K "_send_all") (fdOf K (He.ga K "_send_all")) := T.fn 7 rfl
theorem cal__send_all (T : Tx fa fn bx K mg) : Cal K mg "_send_all" ["distances", "steps", "edges", "flow"] := ⟨T.glo 23, (F__send_all T).kp, (F__send_all T).bindsN fun _ _ _ _ _ _ us hl => match us, hl with | [_, _, _, _], _ => rfl⟩
theorem F_Misused___init__ (T : Tx fa fn bx K mg) : FunD K "__init__" "Misused.__init__" (defArgs s_Misused___init__) (defBody s_Misused___init__) (defScope s_Misused___init__) [] [] (He.ma K (He.ga K "Misused") "__init__") (fdOf K (He.ma K (He.ga K "Misused") "__init__")) := T.fn 8 rfl
theorem cal_Misused___init__ (T : Tx fa fn bx K mg) : CalM K (He.ma K (He.ga K "Misused") "__init__") ["self", "why"] := ⟨(F_Misused___init__ T).kp, (F_Misused___init__ T).bindsN fun _ _ _ _ _ _ us hl => match us, hl with | [_, _], _ => rfl⟩
theorem F_check_net (T : Tx fa fn bx K mg) : FunD K "check_net" "check_net" (defArgs s_check_net) (defBody s_check_net) (defScope s_check_net) [] [] (He.ga K "check_net") (fdOf K (He.ga K "check_net")) := T.fn 9 rfl
theorem cal_check_net (T : Tx fa fn bx K mg) : Cal K mg "check_net" ["count", "edges"] := ⟨T.glo 24, (F_check_net T).kp, (F_check_net T).bindsN fun _ _ _ _ _ _ us hl => match us, hl with | [_, _], _ => rfl⟩
theorem F_greatest_flow (T : Tx fa fn bx K mg) : FunD K "greatest_flow" "greatest_flow" (defArgs s_greatest_flow) (defBody s_greatest_flow) (defScope s_greatest_flow) [] [] (He.ga K "greatest_flow") (fdOf K (He.ga K "greatest_flow")) := T.fn 10 rfl
theorem cal_greatest_flow (T : Tx fa fn bx K mg) : Cal K mg "greatest_flow" ["count", "edges"] := ⟨T.glo 25, (F_greatest_flow T).kp, (F_greatest_flow T).bindsN fun _ _ _ _ _ _ us hl => match us, hl with | [_, _], _ => rfl⟩
theorem F__law_cost (T : Tx fa fn bx K mg) : FunD K "_law_cost" "_law_cost" (defArgs s__law_cost) (defBody s__law_cost) (defScope s__law_cost) [] [] (He.ga K "_law_cost") (fdOf K (He.ga K "_law_cost")) := T.fn 11 rfl
theorem cal__law_cost (T : Tx fa fn bx K mg) : Cal K mg "_law_cost" ["edges", "side"] := ⟨T.glo 26, (F__law_cost T).kp, (F__law_cost T).bindsN fun _ _ _ _ _ _ us hl => match us, hl with | [_, _], _ => rfl⟩
theorem F__law_draw (T : Tx fa fn bx K mg) : FunD K "_law_draw" "_law_draw" (defArgs s__law_draw) (defBody s__law_draw) (defScope s__law_draw) [] [] (He.ga K "_law_draw") (fdOf K (He.ga K "_law_draw")) := T.fn 12 rfl
theorem cal__law_draw (T : Tx fa fn bx K mg) : Cal K mg "_law_draw" ["state", "many"] := ⟨T.glo 27, (F__law_draw T).kp, (F__law_draw T).bindsN fun _ _ _ _ _ _ us hl => match us, hl with | [_, _], _ => rfl⟩
theorem F__law_grid (T : Tx fa fn bx K mg) : FunD K "_law_grid" "_law_grid" (defArgs s__law_grid) (defBody s__law_grid) (defScope s__law_grid) [] [] (He.ga K "_law_grid") (fdOf K (He.ga K "_law_grid")) := T.fn 13 rfl
theorem cal__law_grid (T : Tx fa fn bx K mg) : Cal K mg "_law_grid" ["state"] := ⟨T.glo 28, (F__law_grid T).kp, (F__law_grid T).bindsN fun _ _ _ _ _ _ us hl => match us, hl with | [_], _ => rfl⟩
theorem F__law_is_flow (T : Tx fa fn bx K mg) : FunD K "_law_is_flow" "_law_is_flow" (defArgs s__law_is_flow) (defBody s__law_is_flow) (defScope s__law_is_flow) [] [] (He.ga K "_law_is_flow") (fdOf K (He.ga K "_law_is_flow")) := T.fn 14 rfl
theorem cal__law_is_flow (T : Tx fa fn bx K mg) : Cal K mg "_law_is_flow" ["count", "edges", "flow"] := ⟨T.glo 29, (F__law_is_flow T).kp, (F__law_is_flow T).bindsN fun _ _ _ _ _ _ us hl => match us, hl with | [_, _, _], _ => rfl⟩
theorem F__law_left (T : Tx fa fn bx K mg) : FunD K "_law_left" "_law_left" (defArgs s__law_left) (defBody s__law_left) (defScope s__law_left) [] [] (He.ga K "_law_left") (fdOf K (He.ga K "_law_left")) := T.fn 15 rfl
theorem cal__law_left (T : Tx fa fn bx K mg) : Cal K mg "_law_left" ["edges", "flow", "side"] := ⟨T.glo 30, (F__law_left T).kp, (F__law_left T).bindsN fun _ _ _ _ _ _ us hl => match us, hl with | [_, _, _], _ => rfl⟩
theorem F__law_net (T : Tx fa fn bx K mg) : FunD K "_law_net" "_law_net" (defArgs s__law_net) (defBody s__law_net) (defScope s__law_net) [] [] (He.ga K "_law_net") (fdOf K (He.ga K "_law_net")) := T.fn 16 rfl
theorem cal__law_net (T : Tx fa fn bx K mg) : Cal K mg "_law_net" ["state", "most", "many"] := ⟨T.glo 31, (F__law_net T).kp, (F__law_net T).bindsN fun _ _ _ _ _ _ us hl => match us, hl with | [_, _, _], _ => rfl⟩
theorem F__law_worth (T : Tx fa fn bx K mg) : FunD K "_law_worth" "_law_worth" (defArgs s__law_worth) (defBody s__law_worth) (defScope s__law_worth) [] [] (He.ga K "_law_worth") (fdOf K (He.ga K "_law_worth")) := T.fn 17 rfl
theorem cal__law_worth (T : Tx fa fn bx K mg) : Cal K mg "_law_worth" ["edges", "flow"] := ⟨T.glo 32, (F__law_worth T).kp, (F__law_worth T).bindsN fun _ _ _ _ _ _ us hl => match us, hl with | [_, _], _ => rfl⟩
theorem F_narrow_side (T : Tx fa fn bx K mg) : FunD K "narrow_side" "narrow_side" (defArgs s_narrow_side) (defBody s_narrow_side) (defScope s_narrow_side) [] [] (He.ga K "narrow_side") (fdOf K (He.ga K "narrow_side")) := T.fn 18 rfl
theorem cal_narrow_side (T : Tx fa fn bx K mg) : Cal K mg "narrow_side" ["count", "edges", "flow"] := ⟨T.glo 33, (F_narrow_side T).kp, (F_narrow_side T).bindsN fun _ _ _ _ _ _ us hl => match us, hl with | [_, _, _], _ => rfl⟩
theorem F_wide_side (T : Tx fa fn bx K mg) : FunD K "wide_side" "wide_side" (defArgs s_wide_side) (defBody s_wide_side) (defScope s_wide_side) [] [] (He.ga K "wide_side") (fdOf K (He.ga K "wide_side")) := T.fn 19 rfl
theorem cal_wide_side (T : Tx fa fn bx K mg) : Cal K mg "wide_side" ["count", "edges", "flow"] := ⟨T.glo 34, (F_wide_side T).kp, (F_wide_side T).bindsN fun _ _ _ _ _ _ us hl => match us, hl with | [_, _, _], _ => rfl⟩
theorem F_law (T : Tx fa fn bx K mg) : FunD K "law" "law" (defArgs s_law) (defBody s_law) (defScope s_law) [] [] (He.ga K "law") (fdOf K (He.ga K "law")) := T.fn 20 rfl
theorem cal_law (T : Tx fa fn bx K mg) : Cal K mg "law" ["script"] := ⟨T.glo 35, (F_law T).kp, (F_law T).bindsN fun _ _ _ _ _ _ us hl => match us, hl with | [_], _ => rfl⟩
def isWhole (d : PyData) : Bool := match d with
  | .int _ => true
  | _ => false
def sp_is_whole (K : PySem.W.Frag) : Sp := fun vs H Q _ => ∃ G v d, vs = [v] ∧ Y.Ex G H ∧ Dp K G v d ∧ Q (.bl (isWhole d)) H
theorem ok_is_whole (T : Tx fa fn bx K mg) : FnOk P w K mg base CX0 1 (He.ga K "is_whole") (fdOf K (He.ga K "is_whole")) ["value"] (sp_is_whole K) := by
  refine FunD.ok (F_is_whole T) sc_is_whole (fun vs H Q E h => ?_) (fun cdv A outer s H vs Q E hr h => ?_)
  · obtain ⟨_, _, _, rfl, _⟩ := h
    rfl
  · obtain ⟨G, v, d, rfl, e, hd, q⟩ := h
    refine ⟨_, PSs.nox ((pss_one (ps_ret (pe_and (pe_callB (Y.call_isiK (K := K) rfl) (by rfl) (T.free 0) (by decide +kernel) (pa_cons (pv 0) (pa_cons (pe_bltn (v := .ty "int") (by rfl) (T.free 2) (by decide +kernel) rfl) pa_nil))) (pe_one (pe_not (pe_callB (Y.call_isiK (K := K) rfl) (by rfl) (T.free 0) (by decide +kernel) (pa_cons (pv 0) (pa_cons (pe_bltn (v := .ty "bool") (by rfl) (T.free 1) (by decide +kernel) rfl) pa_nil))))))))), ?_⟩
    cases d with
    | dict _ => exact (dp_nodict hd).elim
    | int i =>
      cases dp_int hd
      walk_at "sx"
      walk_at "isi"
      walk_at "sx"
      walk_at "isi"
      walk_at "sx"
      exact q
    | _ =>
      walk_at "sx"
      walk_at "isi"
      walk_at "sx"
      try (walk_at "isi"; walk_at "sx")
      exact q
def within (d : PyData) (lo hi : Int) : Bool := match d with
  | .int i => decide (lo ≤ i ∧ i ≤ hi)
  | _ => false
def sp_is_within (K : PySem.W.Frag) : Sp := fun vs H Q _ => ∃ G v d lo hi, vs = [v, .int lo, .int hi] ∧ Y.Ex G H ∧ Dp K G v d ∧ Q (.bl (within d lo hi)) H
theorem ok_is_within (T : Tx fa fn bx K mg) : FnOk P w K mg base CX0 2 (He.ga K "is_within") (fdOf K (He.ga K "is_within")) ["value", "least", "greatest"] (sp_is_within K) := by
  refine FunD.ok (F_is_within T) sc_is_within (fun vs H Q E h => ?_) (fun cdv A outer s H vs Q E hr h => ?_)
  · obtain ⟨_, _, _, _, _, rfl, _⟩ := h
    rfl
  · obtain ⟨G, v, d, lo, hi, rfl, e, hd, q⟩ := h
    refine ⟨_, PSs.nox ((pss_one (ps_ret (pe_and (Y.pe_callC (ok_is_whole T) (cal_is_whole T) (hr.mono (by decide)) (by rfl) pass0 (pa_cons (pv 0) pa_nil)) (pe_one (pe_chain op_le op_le (pv 1) (pv 0) (pv 2))))))), ?_⟩
    walk_at "sx"
    refine ⟨G, v, d, rfl, e, hd, ?_⟩
    cases d with
    | dict _ => exact (dp_nodict hd).elim
    | int i =>
      cases dp_int hd
      refine ⟨true, rfl, ?_⟩
      walk_at "sx"
      refine g_dec (fun h1 => ?_) (fun h1 => ?_) <;> walk_at "sx" <;> exact q_bl q (by simp [within, h1])
    | _ =>
      refine ⟨false, rfl, ?_⟩
      walk_at "sx"
      exact q
abbrev Tri := Int × Int × Int
def triD (t : Tri) : PyData := .tuple [.int t.1, .int t.2.1, .int t.2.2]
def okEdge (c : Int) (t : Tri) : Bool := decide (0 ≤ t.1 ∧ t.1 ≤ c - 1) && decide (0 ≤ t.2.1 ∧ t.2.1 ≤ c - 1) && !decide (t.1 = t.2.1) && decide (0 ≤ t.2.2)
def sp__is_edge (K : PySem.W.Frag) : Sp := fun vs H Q _ => ∃ G v c t, vs = [.int c, v] ∧ Y.Ex G H ∧ Dp K G v (triD t) ∧ Q (.bl (okEdge c t)) H
theorem ok__is_edge (T : Tx fa fn bx K mg) : FnOk P w K mg base CX0 3 (He.ga K "_is_edge") (fdOf K (He.ga K "_is_edge")) ["count", "edge"] (sp__is_edge K) := by
  refine FunD.ok (F__is_edge T) sc__is_edge (fun vs H Q E h => ?_) (fun cdv A outer s H vs Q E hr h => ?_)
  · obtain ⟨_, _, _, _, rfl, _⟩ := h
    rfl
  · obtain ⟨G, v, c, t, rfl, e, hd, q⟩ := h
    refine ⟨_, PSs.nox ((pss_cons (ps_asg (pv 1) (Y.pg_tupK (K := K) (n := 3) rfl rfl (pgs_cons (pg_name (i := 2) sc__is_edge.nd rfl (Or.inl rfl)) (pgs_cons (pg_name (i := 3) sc__is_edge.nd rfl (Or.inl rfl)) (pgs_cons (pg_name (i := 4) sc__is_edge.nd rfl (Or.inl rfl)) pgs_nil)))))
      (pss_cons (ps_if (PW.pt (pw_or (pt_not (pt_val (Y.pe_callC (ok_is_within T) (cal_is_within T) (hr.mono (by decide)) (by rfl) pass0 (pa_cons (pv 2) (pa_cons pe_int (pa_cons (pe_op op_sub (pv 0) pe_int) pa_nil)))))) (pw_or (pt_not (pt_val (Y.pe_callC (ok_is_within T) (cal_is_within T) (hr.mono (by decide)) (by rfl) pass0 (pa_cons (pv 3) (pa_cons pe_int (pa_cons (pe_op op_sub (pv 0) pe_int) pa_nil)))))) (pw_or1 (pt_cmpR op_eq (pv 2) (pv 3) (nomark _))))))
      (pss_one (ps_ret pe_bl))
      pss_nil)
      (pss_one (ps_ret (pe_and (Y.pe_callC (ok_is_whole T) (cal_is_whole T) (hr.mono (by decide)) (by rfl) pass0 (pa_cons (pv 4) pa_nil)) (pe_one (pe_cmpR op_ge (pv 4) pe_int (nomark _))))))))), ?_⟩
    unfold okEdge at q
    walk_at "sx"
    refine g_un3 e hd fun v1 v2 v3 d1 d2 d3 => ?_
    cases dp_int d1
    cases dp_int d2
    cases dp_int d3
    walk_at "sx"
    refine ⟨G, _, .int t.1, 0, c - 1, rfl, e, .int _, ?_⟩
    refine ⟨_, rfl, ?_⟩
    refine g_nbool (fun (h1 : decide (0 ≤ t.1 ∧ t.1 ≤ c - 1) = false) => ?_) (fun (h1 : decide (0 ≤ t.1 ∧ t.1 ≤ c - 1) = true) => ?_)
    · walk_at "sx"
      exact q_bl q (by rw [h1]; rfl)
    walk_at "sx"
    refine ⟨G, _, .int t.2.1, 0, c - 1, rfl, e, .int _, ?_⟩
    refine ⟨_, rfl, ?_⟩
    refine g_nbool (fun (h2 : decide (0 ≤ t.2.1 ∧ t.2.1 ≤ c - 1) = false) => ?_) (fun (h2 : decide (0 ≤ t.2.1 ∧ t.2.1 ≤ c - 1) = true) => ?_)
    · walk_at "sx"
      exact q_bl q (by rw [h2]; simp)
    walk_at "sx"
    refine g_dec (fun h3 => ?_) (fun h3 => ?_)
    · walk_at "sx"
      exact q_bl q (by simp [h3])
    walk_at "sx"
    refine ⟨G, _, .int t.2.2, rfl, e, .int _, ?_⟩
    refine ⟨true, rfl, ?_⟩
    walk_at "sx"
    exact q_bl q (by rw [h1, h2]; simp [h3])
/-! nets, flows, sides -/
abbrev Edg := Nat × Nat × Int
abbrev NStp := Nat × Bool × Nat
structure NetOk (n : Nat) (es : List Edg) : Prop where
  two : 2 ≤ n
  nl : n ≤ 999
  len : es.length ≤ 999
  ed : ∀ e ∈ es, e.1 < n ∧ e.2.1 < n ∧ e.1 ≠ e.2.1 ∧ 0 ≤ e.2.2
def nsL (v i : Nat) (e : Edg) : List NStp := (if e.1 = v then [(i, true, e.2.1)] else []) ++ (if e.2.1 = v then [(i, false, e.1)] else [])
def nsFrom (v : Nat) : Nat → List Edg → List NStp
  | _, [] => []
  | k, e :: r => nsL v k e ++ nsFrom v (k + 1) r
def nsOf (es : List Edg) (v : Nat) : List NStp := nsFrom v 0 es
def lft (e : Edg) (a : Int) (f : Bool) : Int := if f = true then e.2.2 - a else e.2.2 + a
def lftAt (es : List Edg) (fl : List Int) (i : Nat) (f : Bool) : Int := lft ((es[i]?).getD (0, 0, 0)) ((fl[i]?).getD 0) f
def netAt (es : List Edg) (fl : List Int) (v : Nat) : Int := ((es.zip fl).map fun p => (if p.1.1 = v then p.2 else 0) - (if p.1.2.1 = v then p.2 else 0)).sum
structure IsFl (n : Nat) (es : List Edg) (fl : List Int) : Prop where
  len : fl.length = es.length
  cap : ∀ p ∈ es.zip fl, -p.1.2.2 ≤ p.2 ∧ p.2 ≤ p.1.2.2
  even : ∀ v, 2 ≤ v → v < n → netAt es fl v = 0
def cutOut (es : List Edg) (fl : List Int) (S : Nat → Bool) : Int := ((es.zip fl).map fun p => if S p.1.1 = true ∧ S p.1.2.1 = false then p.2 else if S p.1.2.1 = true ∧ S p.1.1 = false then -p.2 else 0).sum
def sideCost (es : List Edg) (S : Nat → Bool) : Int := (es.map fun e => if S e.1 = S e.2.1 then 0 else e.2.2).sum
section
variable {n : Nat} {es : List Edg} {fl : List Int} {S : Nat → Bool} {v u i : Nat} {x : NStp}
theorem nsL_mem {e : Edg} : x ∈ nsL v i e ↔ x.1 = i ∧ ((e.1 = v ∧ x.2.1 = true ∧ e.2.1 = x.2.2) ∨ (e.2.1 = v ∧ x.2.1 = false ∧ e.1 = x.2.2)) := by
  obtain ⟨a, f, w⟩ := x
  unfold nsL
  rw [List.mem_append]
  constructor
  · rintro (h | h)
    · split at h
      · simp only [List.mem_cons, Prod.mk.injEq, List.not_mem_nil, or_false] at h
        obtain ⟨rfl, rfl, rfl⟩ := h
        exact ⟨rfl, .inl ⟨by assumption, rfl, rfl⟩⟩
      · cases h
    · split at h
      · simp only [List.mem_cons, Prod.mk.injEq, List.not_mem_nil, or_false] at h
        obtain ⟨rfl, rfl, rfl⟩ := h
        exact ⟨rfl, .inr ⟨by assumption, rfl, rfl⟩⟩
      · cases h
  · rintro ⟨h1, ⟨h2, h3, h4⟩ | ⟨h2, h3, h4⟩⟩ <;> simp only at h1 h2 h3 h4 <;> subst h1 h3 h4
    · exact .inl (by rw [if_pos h2]; simp)
    · exact .inr (by rw [if_pos h2]; simp)
theorem nsFrom_mem : ∀ {k : Nat} {es : List Edg}, x ∈ nsFrom v k es ↔ ∃ e, k ≤ x.1 ∧ es[x.1 - k]? = some e ∧ ((e.1 = v ∧ x.2.1 = true ∧ e.2.1 = x.2.2) ∨ (e.2.1 = v ∧ x.2.1 = false ∧ e.1 = x.2.2))
  | k, [] => by simp [nsFrom]
  | k, e :: r => by
    rw [nsFrom, List.mem_append, nsL_mem, nsFrom_mem (k := k + 1) (es := r)]
    constructor
    · rintro (⟨h1, h2⟩ | ⟨e', h1, h2, h3⟩)
      · exact ⟨e, by omega, by rw [h1, Nat.sub_self]; rfl, h2⟩
      · refine ⟨e', by omega, ?_, h3⟩
        rw [show x.1 - k = (x.1 - (k + 1)) + 1 by omega, List.getElem?_cons_succ]
        exact h2
    · rintro ⟨e', h1, h2, h3⟩
      by_cases hk : x.1 = k
      · rw [hk, Nat.sub_self] at h2
        simp only [List.getElem?_cons_zero, Option.some.injEq] at h2
        subst h2
        exact .inl ⟨hk, h3⟩
      · refine .inr ⟨e', by omega, ?_, h3⟩
        rw [show x.1 - k = (x.1 - (k + 1)) + 1 by omega, List.getElem?_cons_succ] at h2
        exact h2
theorem ns_mem : x ∈ nsOf es v ↔ ∃ e, es[x.1]? = some e ∧ ((e.1 = v ∧ x.2.1 = true ∧ e.2.1 = x.2.2) ∨ (e.2.1 = v ∧ x.2.1 = false ∧ e.1 = x.2.2)) := by
  unfold nsOf
  rw [nsFrom_mem]
  simp
theorem ns_in (ok : NetOk n es) (h : x ∈ nsOf es v) : v < n ∧ x.2.2 < n ∧ x.2.2 ≠ v ∧ x.1 < es.length := by
  obtain ⟨e, he, h⟩ := ns_mem.mp h
  obtain ⟨h1, h2, h3, _⟩ := ok.ed e (List.mem_of_getElem? he)
  have hl := (List.getElem?_eq_some_iff.mp he).1
  rcases h with ⟨rfl, _, h⟩ | ⟨rfl, _, h⟩
  · exact ⟨h1, h ▸ h2, fun z => h3 (by rw [h, z]), hl⟩
  · exact ⟨h2, h ▸ h1, fun z => h3 (by rw [h, z]), hl⟩
/-- the step back -/
theorem ns_back (h : x ∈ nsOf es v) : (x.1, !x.2.1, v) ∈ nsOf es x.2.2 := by
  obtain ⟨e, he, h⟩ := ns_mem.mp h
  refine ns_mem.mpr ⟨e, he, ?_⟩
  rcases h with ⟨h1, h2, h3⟩ | ⟨h1, h2, h3⟩
  · exact .inr ⟨h3, by simp [h2], h1⟩
  · exact .inl ⟨h3, by simp [h2], h1⟩
theorem nsFrom_app : ∀ {k : Nat} {es rs : List Edg}, nsFrom v k (es ++ rs) = nsFrom v k es ++ nsFrom v (k + es.length) rs
  | k, [], rs => by simp [nsFrom]
  | k, e :: r, rs => by
    rw [List.cons_append, nsFrom, nsFrom, nsFrom_app (k := k + 1), List.append_assoc, List.length_cons]
    congr 3
    omega
theorem ns_snoc {e : Edg} (h : es[i]? = some e) : nsOf (es.take (i + 1)) v = nsOf (es.take i) v ++ nsL v i e := by
  have hi := (List.getElem?_eq_some_iff.mp h).1
  rw [List.take_add_one, h]
  unfold nsOf
  rw [nsFrom_app]
  have : (es.take i).length = i := by rw [List.length_take]; omega
  rw [this]
  simp [nsFrom]
theorem nsL_len {e : Edg} (h : e.1 ≠ e.2.1) : (nsL v i e).length ≤ 1 := by
  unfold nsL
  by_cases h1 : e.1 = v
  · by_cases h2 : e.2.1 = v
    · exact absurd (h1.trans h2.symm) h
    · simp [h1, h2]
  · by_cases h2 : e.2.1 = v <;> simp [h1, h2]
theorem nsFrom_len : ∀ {k : Nat} {es : List Edg}, (∀ e ∈ es, e.1 ≠ e.2.1) → (nsFrom v k es).length ≤ es.length
  | _, [], _ => Nat.le_refl _
  | k, e :: r, h => by
    rw [nsFrom, List.length_append, List.length_cons]
    have h1 := nsL_len (v := v) (i := k) (h e (by simp))
    have h2 := nsFrom_len (k := k + 1) (es := r) fun e' he => h e' (by simp [he])
    omega
theorem ns_len (ok : NetOk n es) : (nsOf es v).length ≤ es.length := nsFrom_len fun e he => (ok.ed e he).2.2.1
theorem zip_at {e : Edg} {a : Int} (h1 : es[i]? = some e) (h2 : fl[i]? = some a) : (e, a) ∈ es.zip fl := List.mem_of_getElem? (i := i) (by rw [List.getElem?_zip_eq_some]; exact ⟨h1, h2⟩)
theorem zip_of {p : Edg × Int} (h : p ∈ es.zip fl) : ∃ i : Nat, es[i]? = some p.1 ∧ fl[i]? = some p.2 := by
  obtain ⟨i, hi⟩ := List.mem_iff_getElem?.mp h
  rw [List.getElem?_zip_eq_some] at hi
  exact ⟨i, hi⟩
theorem lft_at {e : Edg} {a : Int} {f : Bool} (h1 : es[i]? = some e) (h2 : fl[i]? = some a) : lftAt es fl i f = lft e a f := by
  unfold lftAt
  rw [h1, h2]
  rfl
theorem fl_at (hl : fl.length = es.length) {e : Edg} (h : es[i]? = some e) : ∃ a, fl[i]? = some a := by
  have := (List.getElem?_eq_some_iff.mp h).1
  exact ⟨_, List.getElem?_eq_getElem (by omega)⟩
/-! sums over nodes -/
theorem sum_pick {a : Int} : ∀ {n x : Nat}, ((List.range n).map fun v => if S v = true then (if x = v then a else 0) else 0).sum = if x < n ∧ S x = true then a else 0
  | 0, x => by simp
  | n + 1, x => by
    rw [List.range_succ, List.map_append, List.sum_append, sum_pick]
    simp only [List.map_cons, List.map_nil, List.sum_cons, List.sum_nil]
    by_cases h1 : x = n
    · subst h1
      by_cases h2 : S x = true <;> simp [h2]
    · by_cases h2 : x < n
      · by_cases h3 : S x = true <;> by_cases h4 : S n = true <;> simp [h1, h2, h3, h4] <;> omega
      · have : ¬ x < n + 1 := by omega
        by_cases h4 : S n = true <;> simp [h1, h2, this, h4]
theorem sum_add {f g : Nat → Int} : ∀ {l : List Nat}, (l.map fun v => f v + g v).sum = (l.map f).sum + (l.map g).sum
  | [] => rfl
  | x :: r => by
    simp only [List.map_cons, List.sum_cons, sum_add (l := r)]
    omega
theorem sum_sub {f g : Nat → Int} : ∀ {l : List Nat}, (l.map fun v => f v - g v).sum = (l.map f).sum - (l.map g).sum
  | [] => rfl
  | x :: r => by
    simp only [List.map_cons, List.sum_cons, sum_sub (l := r)]
    omega
theorem map_sum_congr {f g : Nat → Int} : ∀ {l : List Nat}, (∀ x ∈ l, f x = g x) → (l.map f).sum = (l.map g).sum
  | [], _ => rfl
  | x :: r, h => by
    simp only [List.map_cons, List.sum_cons]
    rw [h x (by simp), map_sum_congr fun y hy => h y (by simp [hy])]
theorem sum_zero : ∀ {l : List Nat}, (l.map fun _ => (0 : Int)).sum = 0
  | [] => rfl
  | x :: r => by simp only [List.map_cons, List.sum_cons, sum_zero (l := r)]; rfl
theorem net_cons {e : Edg} {a : Int} : netAt (e :: es) (a :: fl) v = ((if e.1 = v then a else 0) - (if e.2.1 = v then a else 0)) + netAt es fl v := by
  unfold netAt
  simp
theorem cut_cons {e : Edg} {a : Int} : cutOut (e :: es) (a :: fl) S = (if S e.1 = true ∧ S e.2.1 = false then a else if S e.2.1 = true ∧ S e.1 = false then -a else 0) + cutOut es fl S := by
  unfold cutOut
  simp
theorem sum_net : ∀ {es : List Edg} {fl : List Int}, (∀ e ∈ es, e.1 < n ∧ e.2.1 < n) → ((List.range n).map fun v => if S v = true then netAt es fl v else 0).sum = cutOut es fl S
  | [], fl, _ => by
    have : ∀ v, (if S v = true then netAt [] fl v else 0) = (0 : Int) := fun v => by simp [netAt]
    rw [map_sum_congr (g := fun _ => 0) fun v _ => this v, sum_zero]
    simp [cutOut]
  | e :: es, [], _ => by
    have : ∀ v, (if S v = true then netAt (e :: es) [] v else 0) = (0 : Int) := fun v => by simp [netAt]
    rw [map_sum_congr (g := fun _ => 0) fun v _ => this v, sum_zero]
    simp [cutOut]
  | e :: es, a :: fl, h => by
    have ih := sum_net (es := es) (fl := fl) fun x hx => h x (by simp [hx])
    obtain ⟨h1, h2⟩ := h e (by simp)
    have split : ∀ v, (if S v = true then netAt (e :: es) (a :: fl) v else 0) = ((if S v = true then (if e.1 = v then a else 0) else 0) - (if S v = true then (if e.2.1 = v then a else 0) else 0)) + (if S v = true then netAt es fl v else 0) := fun v => by
      by_cases hs : S v = true
      · simp only [hs, if_true]
        exact net_cons
      · simp [hs]
    rw [map_sum_congr fun v _ => split v, sum_add, sum_sub, sum_pick, sum_pick, ih, cut_cons]
    cases hs1 : S e.1 <;> cases hs2 : S e.2.1 <;> simp [h1, h2] <;> omega
theorem sum_one {f : Nat → Int} : ∀ {n : Nat}, 1 ≤ n → (∀ v, 0 < v → v < n → f v = 0) → ((List.range n).map f).sum = f 0
  | 1, _, _ => by simp [List.range_succ]
  | n + 2, _, h => by
    rw [List.range_succ, List.map_append, List.sum_append, sum_one (by omega) fun v h1 h2 => h v h1 (by omega)]
    simp [h (n + 1) (by omega) (by omega)]
/-- the worth is what leaves any side -/
theorem worth_cut (ok : NetOk n es) (F : IsFl n es fl) (h0 : S 0 = true) (h1 : S 1 = false) : netAt es fl 0 = cutOut es fl S := by
  rw [← sum_net (n := n) (S := S) fun e he => ⟨(ok.ed e he).1, (ok.ed e he).2.1⟩]
  have hn := ok.two
  rw [sum_one (by omega) fun v hv hn => ?_]
  · rw [if_pos h0]
  · by_cases hv1 : v = 1
    · subst hv1
      simp [h1]
    · simp [F.even v (by omega) hn]
theorem cut_le : ∀ {es : List Edg} {fl : List Int}, (∀ p ∈ es.zip fl, -p.1.2.2 ≤ p.2 ∧ p.2 ≤ p.1.2.2) → (∀ e ∈ es, 0 ≤ e.2.2) → cutOut es fl S ≤ sideCost es S
  | [], _, _, _ => by simp [cutOut, sideCost]
  | e :: es, [], _, h => by
    have : ∀ l : List Edg, (∀ e ∈ l, 0 ≤ e.2.2) → 0 ≤ sideCost l S := fun l => by
      induction l with
      | nil => intro _; simp [sideCost]
      | cons x l ih =>
        intro h
        have h1 := h x (by simp)
        have h2 := ih fun y hy => h y (by simp [hy])
        unfold sideCost at h2 ⊢
        simp only [List.map_cons, List.sum_cons]
        split <;> omega
    have := this (e :: es) h
    simpa [cutOut] using this
  | e :: es, a :: fl, hc, h => by
    have ih := cut_le (es := es) (fl := fl) (fun p hp => hc p (by simp [hp])) fun x hx => h x (by simp [hx])
    have h1 := hc (e, a) (by simp)
    simp only at h1
    rw [cut_cons]
    unfold sideCost at ih ⊢
    simp only [List.map_cons, List.sum_cons]
    cases hs1 : S e.1 <;> cases hs2 : S e.2.1 <;> simp <;> omega
/-- no flow is worth more than a side costs -/
theorem worth_le (ok : NetOk n es) (F : IsFl n es fl) (h0 : S 0 = true) (h1 : S 1 = false) : netAt es fl 0 ≤ sideCost es S := by
  rw [worth_cut ok F h0 h1]
  exact cut_le F.cap fun e he => (ok.ed e he).2.2.2
/-- filled outward -/
def Sat (es : List Edg) (fl : List Int) (S : Nat → Bool) : Prop := ∀ p ∈ es.zip fl, (S p.1.1 = true → S p.1.2.1 = false → p.2 = p.1.2.2) ∧ (S p.1.2.1 = true → S p.1.1 = false → p.2 = -p.1.2.2)
theorem cut_sat : ∀ {es : List Edg} {fl : List Int}, fl.length = es.length → Sat es fl S → cutOut es fl S = sideCost es S
  | [], _, _, _ => by simp [cutOut, sideCost]
  | e :: es, [], hl, _ => by simp at hl
  | e :: es, a :: fl, hl, hs => by
    have ih := cut_sat (es := es) (fl := fl) (by simpa using hl) fun p hp => hs p (by simp [hp])
    have h1 := hs (e, a) (by simp)
    simp only at h1
    rw [cut_cons, ih]
    unfold sideCost
    simp only [List.map_cons, List.sum_cons]
    cases hs1 : S e.1 <;> cases hs2 : S e.2.1 <;> simp [hs1, hs2] at h1 ⊢ <;> omega
theorem sat_cut : ∀ {es : List Edg} {fl : List Int}, fl.length = es.length → (∀ p ∈ es.zip fl, -p.1.2.2 ≤ p.2 ∧ p.2 ≤ p.1.2.2) → (∀ e ∈ es, 0 ≤ e.2.2) → cutOut es fl S = sideCost es S → Sat es fl S
  | [], _, _, _, _, _ => fun p hp => by simp at hp
  | e :: es, [], hl, _, _, _ => by simp at hl
  | e :: es, a :: fl, hl, hc, h, he => by
    have hc' : ∀ p ∈ es.zip fl, -p.1.2.2 ≤ p.2 ∧ p.2 ≤ p.1.2.2 := fun p hp => hc p (by simp [hp])
    have h' : ∀ x ∈ es, 0 ≤ x.2.2 := fun x hx => h x (by simp [hx])
    have le := @cut_le S es fl hc' h'
    have h1 := hc (e, a) (by simp)
    simp only at h1
    rw [cut_cons] at he
    unfold sideCost at he
    simp only [List.map_cons, List.sum_cons] at he
    have hle : cutOut es fl S ≤ (es.map fun e => if S e.1 = S e.2.1 then 0 else e.2.2).sum := le
    have key : cutOut es fl S = sideCost es S ∧ (S e.1 = true → S e.2.1 = false → a = e.2.2) ∧ (S e.2.1 = true → S e.1 = false → a = -e.2.2) := by
      unfold sideCost
      cases hs1 : S e.1 <;> cases hs2 : S e.2.1 <;> simp [hs1, hs2] at he ⊢ <;> omega
    have ih := sat_cut (es := es) (fl := fl) (by simpa using hl) hc' h' key.1
    intro p hp
    rw [List.zip_cons_cons, List.mem_cons] at hp
    rcases hp with rfl | hp
    · exact key.2
    · exact ih p hp
/-! what can be reached over edges that are not filled -/
inductive Rc (es : List Edg) (fl : List Int) (ah : Bool) (s : Nat) : Nat → Prop
  | base : Rc es fl ah s s
  | step {u : Nat} {x : NStp} (h : Rc es fl ah s u) (hx : x ∈ nsOf es u) (hl : 0 < lftAt es fl x.1 (x.2.1 == ah)) : Rc es fl ah s x.2.2
theorem sat_closed (F : IsFl n es fl) (h : ∀ u, S u = true → ∀ x ∈ nsOf es u, 0 < lftAt es fl x.1 x.2.1 → S x.2.2 = true) : Sat es fl S := by
  intro p hp
  obtain ⟨i, h1, h2⟩ := zip_of hp
  have hc := F.cap p hp
  refine ⟨fun a b => ?_, fun a b => ?_⟩
  · have hx : (i, true, p.1.2.1) ∈ nsOf es p.1.1 := ns_mem.mpr ⟨p.1, h1, .inl ⟨rfl, rfl, rfl⟩⟩
    have := h _ a _ hx
    rw [lft_at h1 h2] at this
    simp only [lft, if_true, b] at this
    have : ¬ 0 < p.1.2.2 - p.2 := fun z => by have := this z; cases this
    omega
  · have hx : (i, false, p.1.1) ∈ nsOf es p.1.2.1 := ns_mem.mpr ⟨p.1, h1, .inr ⟨rfl, rfl, rfl⟩⟩
    have := h _ a _ hx
    rw [lft_at h1 h2] at this
    simp only [lft, Bool.false_eq_true, if_false, b] at this
    have : ¬ 0 < p.1.2.2 + p.2 := fun z => by have := this z; cases this
    omega
theorem closed_sat (F : IsFl n es fl) (h : Sat es fl S) (hu : S u = true) (hx : x ∈ nsOf es u) (hl : 0 < lftAt es fl x.1 x.2.1) : S x.2.2 = true := by
  obtain ⟨e, he, hc⟩ := ns_mem.mp hx
  obtain ⟨a, ha⟩ := fl_at F.len he
  have hs := h _ (zip_at he ha)
  simp only at hs
  rw [lft_at he ha] at hl
  refine Classical.byContradiction fun hf => ?_
  have hf : S x.2.2 = false := by simpa using hf
  rcases hc with ⟨h1, h2, h3⟩ | ⟨h1, h2, h3⟩
  · rw [h1, h3] at hs
    have := hs.1 hu hf
    simp only [lft, h2, if_true] at hl
    omega
  · rw [h1, h3] at hs
    have := hs.2 hu hf
    simp only [lft, h2, Bool.false_eq_true, if_false] at hl
    omega
/-- a side of the flow's worth is closed under steps -/
theorem least_closed (ok : NetOk n es) (F : IsFl n es fl) (h0 : S 0 = true) (h1 : S 1 = false) (hc : sideCost es S = netAt es fl 0) : Sat es fl S := sat_cut F.len F.cap (fun e he => (ok.ed e he).2.2.2) (by rw [← worth_cut ok F h0 h1, hc])
theorem closed_least (ok : NetOk n es) (F : IsFl n es fl) (h0 : S 0 = true) (h1 : S 1 = false) (h : Sat es fl S) : sideCost es S = netAt es fl 0 := by rw [worth_cut ok F h0 h1, cut_sat F.len h]
/-- reached the other way round -/
theorem rc_back {s t : Nat} (h : Rc es fl true s v) : Rc es fl false v t → Rc es fl false s t → True := fun _ _ => trivial
theorem rc_one {ah : Bool} {s : Nat} (hx : x ∈ nsOf es s) (hl : 0 < lftAt es fl x.1 (x.2.1 == ah)) (h : Rc es fl ah x.2.2 v) : Rc es fl ah s v := by
  induction h with
  | base => exact .step .base hx hl
  | step _ hx2 hl2 ih => exact .step ih hx2 hl2
theorem rc_rev {s : Nat} (h : Rc es fl true s v) : Rc es fl false v s := by
  induction h with
  | base => exact .base
  | @step u0 x0 h hx hl ih =>
    refine rc_one (ns_back hx) ?_ ih
    have : ((!x0.2.1) == false) = (x0.2.1 == true) := by cases x0.2.1 <;> rfl
    show 0 < lftAt es fl x0.1 ((!x0.2.1) == false)
    rw [this]
    exact hl
theorem rc_rev' {s : Nat} (h : Rc es fl false s v) : Rc es fl true v s := by
  induction h with
  | base => exact .base
  | @step u0 x0 h hx hl ih =>
    refine rc_one (ns_back hx) ?_ ih
    have : ((!x0.2.1) == true) = (x0.2.1 == false) := by cases x0.2.1 <;> rfl
    show 0 < lftAt es fl x0.1 ((!x0.2.1) == true)
    rw [this]
    exact hl
theorem rc_in (ok : NetOk n es) {ah : Bool} {s : Nat} (hs : s < n) (h : Rc es fl ah s v) : v < n := by
  cases h with
  | base => exact hs
  | step _ hx _ => exact (ns_in ok hx).2.1
/-- the narrow side: what is reached from the source -/
theorem narrow_ok (ok : NetOk n es) (F : IsFl n es fl) (hn : ¬ Rc es fl true 0 1) (hS : ∀ v, S v = true ↔ Rc es fl true 0 v) : sideCost es S = netAt es fl 0 ∧ ∀ T : Nat → Bool, T 0 = true → T 1 = false → sideCost es T = netAt es fl 0 → ∀ v, S v = true → T v = true := by
  have s0 : S 0 = true := (hS 0).mpr .base
  have s1 : S 1 = false := by
    cases h : S 1 with
    | false => rfl
    | true => exact absurd ((hS 1).mp h) hn
  have sat : Sat es fl S := sat_closed F fun u hu x hx hl => (hS _).mpr (.step ((hS u).mp hu) hx (by rw [beq_true]; exact hl))
  refine ⟨closed_least ok F s0 s1 sat, fun T t0 t1 hT v hv => ?_⟩
  have tc := least_closed ok F t0 t1 hT
  have h := (hS v).mp hv
  induction h with
  | base => exact t0
  | step h hx hl ih => exact closed_sat F tc (ih ((hS _).mpr h)) hx (by rw [beq_true] at hl; exact hl)
/-- the wide side: what does not reach the sink -/
theorem wide_ok (ok : NetOk n es) (F : IsFl n es fl) (hn : ¬ Rc es fl true 0 1) (hS : ∀ v, S v = true ↔ ¬ Rc es fl false 1 v) : sideCost es S = netAt es fl 0 ∧ ∀ T : Nat → Bool, T 0 = true → T 1 = false → sideCost es T = netAt es fl 0 → ∀ v, T v = true → S v = true := by
  have s0 : S 0 = true := (hS 0).mpr fun h => hn (rc_rev' h)
  have s1 : S 1 = false := by
    cases h : S 1 with
    | false => rfl
    | true => exact absurd .base ((hS 1).mp h)
  have sat : Sat es fl S := sat_closed F fun u hu x hx hl => (hS _).mpr fun h => (hS u).mp hu (by
    have := ns_back hx
    refine .step h this ?_
    have e : ((!x.2.1) == false) = x.2.1 := by cases x.2.1 <;> rfl
    show 0 < lftAt es fl x.1 ((!x.2.1) == false)
    rw [e]
    exact hl)
  refine ⟨closed_least ok F s0 s1 sat, fun T t0 t1 hT v hv => (hS v).mpr fun h => ?_⟩
  have tc := least_closed ok F t0 t1 hT
  have h2 := rc_rev' h
  have key : ∀ w, Rc es fl true v w → T w = true := fun w hw => by
    induction hw with
    | base => exact hv
    | step h hx hl ih => exact closed_sat F tc ih hx (by rw [beq_true] at hl; exact hl)
  have := key 1 h2
  rw [t1] at this
  cases this
end
/-! the distances; what is sent over a way -/
def nsD (x : NStp) : PyData := .tuple [.int (x.1 : Int), .bool x.2.1, .int (x.2.2 : Int)]
def edD (e : Edg) : PyData := .tuple [.int (e.1 : Int), .int (e.2.1 : Int), .int e.2.2]
abbrev Dst := List (Nat × Nat)
structure Bfs (n : Nat) (es : List Edg) (fl : List Int) (ah : Bool) (s : Nat) (md : Dst) : Prop where
  nd : (md.map (·.1)).Nodup
  lt : ∀ p ∈ md, p.1 < n
  st : gtM md s = some 0
  st0 : ∀ v, gtM md v = some 0 → v = s
  pred : ∀ v k, gtM md v = some (k + 1) → ∃ u x, gtM md u = some k ∧ x ∈ nsOf es u ∧ x.2.2 = v ∧ 0 < lftAt es fl x.1 (x.2.1 == ah)
structure BfsC (n : Nat) (es : List Edg) (fl : List Int) (ah : Bool) (s : Nat) (md : Dst) : Prop extends Bfs n es fl ah s md where
  closed : ∀ u k, gtM md u = some k → ∀ x ∈ nsOf es u, 0 < lftAt es fl x.1 (x.2.1 == ah) → x.2.2 ∈ md.map (·.1)
section
variable {n : Nat} {es : List Edg} {fl : List Int} {ah : Bool} {s v u : Nat} {md : Dst} {x : NStp}
theorem gtN_mem {k : Nat} (h : gtM md v = some k) : (v, k) ∈ md := by
  unfold gtM at h
  obtain ⟨p, hp, rfl⟩ := Option.map_eq_some_iff.mp h
  have h1 := List.find?_some hp
  rw [decide_eq_true_eq] at h1
  have := List.mem_of_find?_eq_some hp
  rw [← h1]
  exact this
theorem gtN_key (h : v ∈ md.map (·.1)) : ∃ k, gtM md v = some k := by
  cases e : gtM md v with
  | some k => exact ⟨k, rfl⟩
  | none => exact absurd h (gtM_none.mp e)
theorem gtN_of {k : Nat} (h : gtM md v = some k) : v ∈ md.map (·.1) := List.mem_map.mpr ⟨_, gtN_mem h, rfl⟩
theorem Bfs.below (B : Bfs n es fl ah s md) : ∀ {k v : Nat}, gtM md v = some k → ∀ j, j ≤ k → ∃ u, gtM md u = some j
  | 0, v, h, j, hj => ⟨v, by rw [h]; congr 1; omega⟩
  | k + 1, v, h, j, hj => by
    by_cases e : j = k + 1
    · exact ⟨v, by rw [h, e]⟩
    · obtain ⟨u, _, hu, _⟩ := B.pred v k h
      exact B.below hu j (by omega)
theorem Bfs.len (B : Bfs n es fl ah s md) : md.length ≤ n := by
  have := nodup_le (ys := List.range n) B.nd fun v hv => by
    obtain ⟨p, hp, rfl⟩ := List.mem_map.mp hv
    exact List.mem_range.mpr (B.lt p hp)
  rwa [List.length_map, List.length_range] at this
theorem Bfs.dlt (B : Bfs n es fl ah s md) {k : Nat} (h : gtM md v = some k) : k < n := by
  have := nodup_le (xs := List.range (k + 1)) (ys := md.map (·.2)) List.nodup_range fun j hj => by
    obtain ⟨u, hu⟩ := B.below h j (by have := List.mem_range.mp hj; omega)
    exact List.mem_map.mpr ⟨_, gtN_mem hu, rfl⟩
  rw [List.length_range, List.length_map] at this
  have := B.len
  omega
theorem Bfs.rc (B : Bfs n es fl ah s md) : ∀ {k v : Nat}, gtM md v = some k → Rc es fl ah s v
  | 0, v, h => by rw [B.st0 v h]; exact .base
  | k + 1, v, h => by
    obtain ⟨u, x, hu, hx, rfl, hl⟩ := B.pred v k h
    exact .step (B.rc hu) hx hl
theorem BfsC.iff (B : BfsC n es fl ah s md) : v ∈ md.map (·.1) ↔ Rc es fl ah s v := by
  constructor
  · intro h
    obtain ⟨k, hk⟩ := gtN_key h
    exact B.rc hk
  · intro h
    induction h with
    | base => exact gtN_of B.st
    | step _ hx hl ih =>
      obtain ⟨k, hk⟩ := gtN_key ih
      exact B.closed _ k hk _ hx hl
end
/-! ways -/
inductive Chn (es : List Edg) (s : Nat) : List NStp → Nat → Prop
  | nil : Chn es s [] s
  | snoc {w : List NStp} {u : Nat} {x : NStp} (h : Chn es s w u) (hx : x ∈ nsOf es u) : Chn es s (w ++ [(x.1, x.2.1, u)]) x.2.2
def put1 (amt : Int) (fl : List Int) (w : NStp) : List Int := fl.set w.1 ((fl[w.1]?).getD 0 + if w.2.1 = true then amt else -amt)
def sendW (amt : Int) (fl : List Int) (way : List NStp) : List Int := way.foldl (put1 amt) fl
section
variable {n : Nat} {es : List Edg} {fl : List Int} {s v u i : Nat} {way : List NStp} {x : NStp} {amt : Int}
theorem send_len : (sendW amt fl way).length = fl.length := by
  unfold sendW
  induction way generalizing fl with
  | nil => rfl
  | cons w r ih =>
    rw [List.foldl_cons, ih]
    unfold put1
    rw [List.length_set]
theorem send_snoc {w : NStp} : sendW amt fl (way ++ [w]) = put1 amt (sendW amt fl way) w := by
  unfold sendW
  rw [List.foldl_append]
  rfl
theorem net_set : ∀ {es : List Edg} {fl : List Int} {i : Nat} {e : Edg} {a b : Int}, es[i]? = some e → fl[i]? = some a → netAt es (fl.set i b) v = netAt es fl v + ((if e.1 = v then b - a else 0) - (if e.2.1 = v then b - a else 0))
  | [], _, _, _, _, _, h, _ => by simp at h
  | _ :: _, [], _, _, _, _, _, h => by simp at h
  | e0 :: es, a0 :: fl, 0, e, a, b, h1, h2 => by
    simp only [List.getElem?_cons_zero, Option.some.injEq] at h1 h2
    subst h1 h2
    rw [List.set_cons_zero, net_cons, net_cons]
    by_cases c1 : e0.1 = v <;> by_cases c2 : e0.2.1 = v <;> simp [c1, c2] <;> omega
  | e0 :: es, a0 :: fl, i + 1, e, a, b, h1, h2 => by
    simp only [List.getElem?_cons_succ] at h1 h2
    rw [List.set_cons_succ, net_cons, net_cons, net_set h1 h2]
    omega
/-- what a way changes at each node -/
theorem net_send (hl : fl.length = es.length) (h : Chn es s way u) : netAt es (sendW amt fl way) v = netAt es fl v + ((if s = v then amt else 0) - (if u = v then amt else 0)) := by
  induction h with
  | nil =>
    show netAt es fl v = _
    omega
  | @snoc w u x h hx ih =>
    obtain ⟨e, he, hc⟩ := ns_mem.mp hx
    obtain ⟨a, ha⟩ := fl_at (fl := sendW amt fl w) (by rw [send_len]; exact hl) he
    rw [send_snoc]
    unfold put1
    simp only
    rw [net_set he ha, ha, ih]
    rcases hc with ⟨h1, h2, h3⟩ | ⟨h1, h2, h3⟩
    · rw [h1, h3]
      simp only [h2, if_true, Option.getD_some]
      by_cases c1 : u = v <;> by_cases c2 : x.2.2 = v <;> simp [c1, c2] <;> omega
    · rw [h1, h3]
      simp only [h2, Bool.false_eq_true, if_false, Option.getD_some]
      by_cases c1 : u = v <;> by_cases c2 : x.2.2 = v <;> simp [c1, c2] <;> omega
theorem send_off : ∀ {way : List NStp} {fl : List Int}, (∀ w ∈ way, w.1 ≠ i) → (sendW amt fl way)[i]? = fl[i]?
  | [], _, _ => rfl
  | w :: r, fl, h => by
    show (sendW amt (put1 amt fl w) r)[i]? = _
    rw [send_off fun y hy => h y (by simp [hy])]
    unfold put1
    rw [List.getElem?_set_ne (h w (by simp))]
theorem send_on : ∀ {way : List NStp} {fl : List Int} {a : Int} {w : NStp}, (way.map (·.1)).Nodup → w ∈ way → fl[w.1]? = some a → (sendW amt fl way)[w.1]? = some (a + if w.2.1 = true then amt else -amt)
  | y :: r, fl, a, w, hn, hm, ha => by
    rw [List.map_cons, List.nodup_cons] at hn
    show (sendW amt (put1 amt fl y) r)[w.1]? = _
    rcases List.mem_cons.mp hm with rfl | hm
    · rw [send_off fun z hz e => hn.1 (by rw [← e]; exact List.mem_map_of_mem hz)]
      unfold put1
      rw [List.getElem?_set_self (List.getElem?_eq_some_iff.mp ha).1, ha]
      rfl
    · have hne : y.1 ≠ w.1 := fun e => hn.1 (by rw [e]; exact List.mem_map_of_mem hm)
      refine send_on hn.2 hm ?_
      unfold put1
      rw [List.getElem?_set_ne hne]
      exact ha
/-- left over an edge, behind a sending -/
theorem lft_off (h : ∀ w ∈ way, w.1 ≠ i) {f : Bool} : lftAt es (sendW amt fl way) i f = lftAt es fl i f := by
  unfold lftAt
  rw [send_off h]
theorem lft_on (hl : fl.length = es.length) (hn : (way.map (·.1)).Nodup) {w : NStp} (hm : w ∈ way) (hi : w.1 < es.length) {f : Bool} : lftAt es (sendW amt fl way) w.1 f = lftAt es fl w.1 f + if f = w.2.1 then -amt else amt := by
  have ha : fl[w.1]? = some fl[w.1] := by simp [show w.1 < fl.length by omega]
  unfold lftAt
  rw [send_on hn hm ha, ha]
  simp only [Option.getD_some]
  unfold lft
  cases hf : f <;> cases hw : w.2.1 <;> simp <;> omega
/-- a flow stays one -/
theorem send_flow (ok : NetOk n es) (F : IsFl n es fl) (h : Chn es 0 way 1) (hn : (way.map (·.1)).Nodup) (hp : 0 ≤ amt) (hle : ∀ w ∈ way, amt ≤ lftAt es fl w.1 w.2.1) (hi : ∀ w ∈ way, w.1 < es.length) : IsFl n es (sendW amt fl way) where
  len := by rw [send_len]; exact F.len
  cap := fun p hp' => by
    obtain ⟨i, h1, h2⟩ := zip_of hp'
    obtain ⟨a, ha⟩ := fl_at F.len h1
    have hc := F.cap _ (zip_at h1 ha)
    simp only at hc
    by_cases hw : ∃ w ∈ way, w.1 = i
    · obtain ⟨w, hw, rfl⟩ := hw
      have hl := hle w hw
      rw [lft_at h1 ha] at hl
      rw [send_on hn hw ha] at h2
      have h2 := Option.some.inj h2
      rw [← h2]
      unfold lft at hl
      cases hwf : w.2.1 <;> simp [hwf] at hl ⊢ <;> omega
    · rw [send_off fun w hw' e => hw ⟨w, hw', e⟩, ha] at h2
      cases h2
      exact hc
  even := fun v h1 h2 => by
    rw [net_send F.len h, F.even v h1 h2, if_neg (by omega), if_neg (by omega)]
    omega
theorem chn_in (ok : NetOk n es) (hs : s < n) (h : Chn es s way u) : u < n ∧ ∀ w ∈ way, w.1 < es.length ∧ w.2.2 < n := by
  induction h with
  | nil => exact ⟨hs, by simp⟩
  | snoc h hx ih =>
    have hi := ns_in ok hx
    refine ⟨hi.2.1, fun w hw => ?_⟩
    rcases List.mem_append.mp hw with hw | hw
    · exact ih.2 w hw
    · simp only [List.mem_cons, List.not_mem_nil, or_false] at hw
      subst hw
      exact ⟨hi.2.2.2, ih.1⟩
end
/-! the walk of _send_all: what holds, and what falls -/
def trAt (tr : List Nat) (v : Nat) : Nat := (tr[v]?).getD 0
/-- a step leads one further and takes something -/
def admB (md : Dst) (es : List Edg) (fl : List Int) (v : Nat) (x : NStp) : Bool := match gtM md v with
  | some k => decide (gtM md x.2.2 = some (k + 1)) && decide (0 < lftAt es fl x.1 x.2.1)
  | none => false
def curB (md : Dst) (es : List Edg) (fl : List Int) (tr : List Nat) (v : Nat) : Bool := match (nsOf es v)[trAt tr v]? with
  | some x => admB md es fl v x
  | none => false
def mTried (n : Nat) (es : List Edg) (tr : List Nat) : Nat := ((List.range n).map fun v => (nsOf es v).length - trAt tr v).sum
def mCur (n : Nat) (md : Dst) (es : List Edg) (fl : List Int) (tr : List Nat) : Nat := ((List.range n).filter (curB md es fl tr)).length
def mAll (n : Nat) (md : Dst) (es : List Edg) (fl : List Int) (tr : List Nat) (way : List NStp) : Nat := mTried n es tr * ((n + 2) * (n + 2)) + mCur n md es fl tr * (n + 2) + (n + 1 - way.length)
/-- the way to a node, by the steps that are tried now -/
structure WayOk (n : Nat) (md : Dst) (es : List Edg) (fl : List Int) (tr : List Nat) (way : List NStp) (v : Nat) : Prop where
  chn : Chn es 0 way v
  dst : gtM md v = some way.length
  stp : ∀ (k i : Nat) (f : Bool) (u : Nat), way[k]? = some (i, f, u) → u ≠ 1 ∧ gtM md u = some k ∧ ∃ w, (nsOf es u)[trAt tr u]? = some (i, f, w) ∧ gtM md w = some (k + 1) ∧ 0 < lftAt es fl i f
structure TrOk (n : Nat) (es : List Edg) (tr : List Nat) : Prop where
  len : tr.length = n
  le : ∀ v, v < n → trAt tr v ≤ (nsOf es v).length
  sink : trAt tr 1 = 0
/-- as long as nothing was sent -/
def Dead (md : Dst) (es : List Edg) (fl : List Int) (tr : List Nat) : Prop := ∀ u j x, j < trAt tr u → (nsOf es u)[j]? = some x → admB md es fl u x = false ∨ trAt tr x.2.2 = (nsOf es x.2.2).length
section
variable {n : Nat} {es : List Edg} {fl : List Int} {md : Dst} {tr : List Nat} {way : List NStp} {v u i : Nat} {x : NStp} {amt : Int}
theorem tr_set {k w : Nat} (h : v < tr.length) : trAt (tr.set v k) w = if v = w then k else trAt tr w := by
  unfold trAt
  by_cases e : v = w
  · subst e
    rw [List.getElem?_set_self h, if_pos rfl]
    rfl
  · rw [List.getElem?_set_ne e, if_neg e]
theorem sum_le' {f g : Nat → Nat} : ∀ {l : List Nat}, (∀ x ∈ l, f x ≤ g x) → (l.map f).sum ≤ (l.map g).sum
  | [], _ => Nat.le_refl _
  | x :: r, h => by
    simp only [List.map_cons, List.sum_cons]
    have := h x (by simp)
    have := sum_le' (l := r) fun y hy => h y (by simp [hy])
    omega
theorem sum_lt' {f g : Nat → Nat} : ∀ {l : List Nat}, (∀ x ∈ l, f x ≤ g x) → (∃ x ∈ l, f x < g x) → (l.map f).sum < (l.map g).sum
  | [], _, h => by obtain ⟨_, h, _⟩ := h; cases h
  | x :: r, h, ⟨y, hy, hl⟩ => by
    simp only [List.map_cons, List.sum_cons]
    have h1 := h x (by simp)
    have hr : ∀ z ∈ r, f z ≤ g z := fun z hz => h z (by simp [hz])
    rcases List.mem_cons.mp hy with rfl | hy
    · have := sum_le' hr
      omega
    · have := sum_lt' hr ⟨y, hy, hl⟩
      omega
theorem filter_le {p q : Nat → Bool} : ∀ {l : List Nat}, (∀ x ∈ l, p x = true → q x = true) → (l.filter p).length ≤ (l.filter q).length
  | [], _ => Nat.le_refl _
  | x :: r, h => by
    have ih := filter_le (p := p) (q := q) (l := r) fun y hy => h y (by simp [hy])
    by_cases hp : p x = true
    · rw [List.filter_cons_of_pos hp, List.filter_cons_of_pos (h x (by simp) hp), List.length_cons, List.length_cons]
      omega
    · rw [List.filter_cons_of_neg hp]
      by_cases hq : q x = true
      · rw [List.filter_cons_of_pos hq, List.length_cons]
        omega
      · rw [List.filter_cons_of_neg hq]
        exact ih
theorem filter_lt {p q : Nat → Bool} : ∀ {l : List Nat}, (∀ x ∈ l, p x = true → q x = true) → (∃ x ∈ l, q x = true ∧ p x = false) → (l.filter p).length < (l.filter q).length
  | [], _, h => by obtain ⟨_, h, _⟩ := h; cases h
  | x :: r, h, ⟨y, hy, h1, h2⟩ => by
    have hr : ∀ z ∈ r, p z = true → q z = true := fun z hz => h z (by simp [hz])
    rcases List.mem_cons.mp hy with rfl | hy
    · rw [List.filter_cons_of_neg (by rw [h2]; simp), List.filter_cons_of_pos h1, List.length_cons]
      have := filter_le hr
      omega
    · have ih := filter_lt hr ⟨y, hy, h1, h2⟩
      by_cases hp : p x = true
      · rw [List.filter_cons_of_pos hp, List.filter_cons_of_pos (h x (by simp) hp), List.length_cons, List.length_cons]
        omega
      · rw [List.filter_cons_of_neg hp]
        by_cases hq : q x = true
        · rw [List.filter_cons_of_pos hq, List.length_cons]
          omega
        · rw [List.filter_cons_of_neg hq]
          exact ih
theorem mCur_le : mCur n md es fl tr ≤ n := by
  unfold mCur
  have := List.length_filter_le (curB md es fl tr) (List.range n)
  rwa [List.length_range] at this
theorem mTried_bump (t : TrOk n es tr) (hv : v < n) (hlt : trAt tr v < (nsOf es v).length) : mTried n es (tr.set v (trAt tr v + 1)) < mTried n es tr := by
  unfold mTried
  have hvl : v < tr.length := by rw [t.len]; exact hv
  refine sum_lt' (fun x _ => ?_) ⟨v, List.mem_range.mpr hv, ?_⟩
  · rw [tr_set hvl]
    split
    · rename_i e
      subst e
      omega
    · exact Nat.le_refl _
  · rw [tr_set hvl, if_pos rfl]
    omega
/-- a number in three parts falls -/
theorem fall1 {a a' c c' l l' B : Nat} (h : a' < a) (hc : c' + 2 ≤ B) (hl : l' < B) : a' * (B * B) + c' * B + l' < a * (B * B) + c * B + l := by
  have h1 : (a' + 1) * (B * B) ≤ a * (B * B) := Nat.mul_le_mul_right _ h
  rw [Nat.succ_mul] at h1
  have h2 : (c' + 2) * B ≤ B * B := Nat.mul_le_mul_right _ hc
  rw [Nat.add_mul] at h2
  omega
theorem fall2 {a c c' l l' B : Nat} (h : c' < c) (hl : l' < B) : a * (B * B) + c' * B + l' < a * (B * B) + c * B + l := by
  have h1 : (c' + 1) * B ≤ c * B := Nat.mul_le_mul_right _ h
  rw [Nat.succ_mul] at h1
  omega
theorem mAll_bump {fl' : List Int} {way' : List NStp} (t : TrOk n es tr) (hv : v < n) (hlt : trAt tr v < (nsOf es v).length) : mAll n md es fl' (tr.set v (trAt tr v + 1)) way' < mAll n md es fl tr way := by
  unfold mAll
  have := mCur_le (n := n) (md := md) (es := es) (fl := fl') (tr := tr.set v (trAt tr v + 1))
  exact fall1 (mTried_bump t hv hlt) (by omega) (by omega)
theorem mAll_go (h : way.length ≤ n) {w : NStp} : mAll n md es fl tr (way ++ [w]) < mAll n md es fl tr way := by
  unfold mAll
  rw [List.length_append, List.length_singleton]
  omega
theorem WayOk.len (W : WayOk n md es fl tr way v) (B : Bfs n es fl' ah s md) : way.length < n := B.dlt W.dst
/-- the edges of a way are different -/
theorem WayOk.nd (W : WayOk n md es fl tr way v) : (way.map (·.1)).Nodup := by
  have key : ∀ (k j : Nat) (a b : NStp), way[k]? = some a → way[j]? = some b → a.1 = b.1 → k = j := by
    rintro k j ⟨i, f, u⟩ ⟨i', g, w⟩ hk hj e
    simp only at e
    subst e
    obtain ⟨_, d1, y, hy, d2, _⟩ := W.stp k i f u hk
    obtain ⟨_, d3, z, hz, d4, _⟩ := W.stp j i g w hj
    obtain ⟨e1, he1, c1⟩ := ns_mem.mp (List.mem_of_getElem? hy)
    obtain ⟨e2, he2, c2⟩ := ns_mem.mp (List.mem_of_getElem? hz)
    simp only at he1 he2 c1 c2
    rw [he1] at he2
    cases he2
    rcases c1 with ⟨a1, a2, a3⟩ | ⟨a1, a2, a3⟩ <;> rcases c2 with ⟨b1, b2, b3⟩ | ⟨b1, b2, b3⟩
    · rw [← a1, b1, d3] at d1
      exact (Option.some.inj d1).symm
    · rw [← a1, b3, d4] at d1
      rw [← a3, b1, d3] at d2
      have := Option.some.inj d1
      have := Option.some.inj d2
      omega
    · rw [← a1, b3, d4] at d1
      rw [← a3, b1, d3] at d2
      have := Option.some.inj d1
      have := Option.some.inj d2
      omega
    · rw [← a1, b1, d3] at d1
      exact (Option.some.inj d1).symm
  have gen : ∀ l : List NStp, (∀ (k j : Nat) (a b : NStp), l[k]? = some a → l[j]? = some b → a.1 = b.1 → k = j) → (l.map (·.1)).Nodup := by
    intro l
    induction l with
    | nil => intro _; simp
    | cons x r ih =>
      intro h
      rw [List.map_cons, List.nodup_cons]
      refine ⟨fun hm => ?_, ih fun k j a b hk hj e => ?_⟩
      · obtain ⟨y, hy, e⟩ := List.mem_map.mp hm
        obtain ⟨j, hj⟩ := List.mem_iff_getElem?.mp hy
        have := h 0 (j + 1) x y rfl (by simpa using hj) e.symm
        omega
      · have := h (k + 1) (j + 1) a b (by simpa using hk) (by simpa using hj) e
        omega
  exact gen way key
theorem WayOk.start (hst : gtM md 0 = some 0) : WayOk n md es fl tr [] 0 := ⟨.nil, by simpa using hst, fun k i f u h => by simp at h⟩
/-- one step on -/
theorem WayOk.go (W : WayOk n md es fl tr way v) (h1 : v ≠ 1) (hx : (nsOf es v)[trAt tr v]? = some x) (ha : admB md es fl v x = true) : WayOk n md es fl tr (way ++ [(x.1, x.2.1, v)]) x.2.2 := by
  unfold admB at ha
  rw [W.dst] at ha
  simp only [Bool.and_eq_true, decide_eq_true_eq] at ha
  refine ⟨.snoc W.chn (List.mem_of_getElem? hx), by rw [List.length_append]; exact ha.1, fun k i f u hk => ?_⟩
  by_cases hl : k < way.length
  · rw [List.getElem?_append_left hl] at hk
    exact W.stp k i f u hk
  · have hkl := (List.getElem?_eq_some_iff.mp hk).1
    rw [List.length_append, List.length_singleton] at hkl
    have : k = way.length := by omega
    subst this
    rw [List.getElem?_append_right (Nat.le_refl _), Nat.sub_self] at hk
    simp only [List.getElem?_cons_zero, Option.some.injEq, Prod.mk.injEq] at hk
    obtain ⟨rfl, rfl, rfl⟩ := hk
    exact ⟨h1, W.dst, x.2.2, hx, ha.1, ha.2⟩
/-- one step back, behind a node that has nothing left -/
theorem WayOk.pop {i0 : Nat} {f0 : Bool} (W : WayOk n md es fl tr (way ++ [(i0, f0, u)]) v) (hu : u < tr.length) : WayOk n md es fl (tr.set u (trAt tr u + 1)) way u ∧ u ≠ 1 ∧ trAt tr u < (nsOf es u).length ∧ ∃ x, (nsOf es u)[trAt tr u]? = some x ∧ x.2.2 = v := by
  have hlast : (way ++ [(i0, f0, u)])[way.length]? = some (i0, f0, u) := by simp
  obtain ⟨h1, h2, w, hw, h3, h4⟩ := W.stp _ _ _ _ hlast
  have hlt := (List.getElem?_eq_some_iff.mp hw).1
  have hv : w = v := by
    have c := W.chn
    generalize hwy : way ++ [(i0, f0, u)] = way' at c
    cases c with
    | nil => simp at hwy
    | @snoc w' u' x' h hx =>
      have e := List.append_inj' hwy rfl
      obtain ⟨e1, e2⟩ := e
      simp only [List.cons.injEq, Prod.mk.injEq, and_true] at e2
      obtain ⟨rfl, rfl, rfl⟩ := e2
      obtain ⟨ed, hed, c1⟩ := ns_mem.mp (List.mem_of_getElem? hw)
      obtain ⟨ed', hed', c2⟩ := ns_mem.mp hx
      simp only at hed hed' c1 c2
      rw [hed] at hed'
      cases hed'
      rcases c1 with ⟨a1, a2, a3⟩ | ⟨a1, a2, a3⟩ <;> rcases c2 with ⟨b1, b2, b3⟩ | ⟨b1, b2, b3⟩
      · rw [← a3, b3]
      · rw [a2] at b2; cases b2
      · rw [a2] at b2; cases b2
      · rw [← a3, b3]
  subst hv
  refine ⟨⟨?_, h2, fun k i f y hk => ?_⟩, h1, hlt, _, hw, rfl⟩
  · have c := W.chn
    generalize hwy : way ++ [(i0, f0, u)] = way' at c
    cases c with
    | nil => simp at hwy
    | @snoc w' u' x' h hx =>
      obtain ⟨e1, e2⟩ := List.append_inj' hwy rfl
      simp only [List.cons.injEq, Prod.mk.injEq, and_true] at e2
      obtain ⟨_, _, rfl⟩ := e2
      subst e1
      exact h
  · have hkl := (List.getElem?_eq_some_iff.mp hk).1
    obtain ⟨a1, a2, z, hz, a3⟩ := W.stp k i f y (by rw [List.getElem?_append_left hkl]; exact hk)
    refine ⟨a1, a2, z, ?_, a3⟩
    rw [tr_set hu, if_neg]
    · exact hz
    · rintro rfl
      rw [h2] at a2
      have := Option.some.inj a2
      omega
/-- another try at the node itself -/
theorem WayOk.bump (W : WayOk n md es fl tr way v) (hv : v < tr.length) {k : Nat} : WayOk n md es fl (tr.set v k) way v := by
  refine ⟨W.chn, W.dst, fun j i f y hj => ?_⟩
  have hjl := (List.getElem?_eq_some_iff.mp hj).1
  obtain ⟨a1, a2, z, hz, a3⟩ := W.stp j i f y hj
  refine ⟨a1, a2, z, ?_, a3⟩
  rw [tr_set hv, if_neg]
  · exact hz
  · rintro rfl
    have := W.dst
    rw [a2] at this
    have := Option.some.inj this
    omega
theorem TrOk.bump (t : TrOk n es tr) (hv : v < n) (h1 : v ≠ 1) (hlt : trAt tr v < (nsOf es v).length) : TrOk n es (tr.set v (trAt tr v + 1)) := by
  have hvl : v < tr.length := by rw [t.len]; exact hv
  refine ⟨by rw [List.length_set]; exact t.len, fun w hw => ?_, ?_⟩
  · rw [tr_set hvl]
    split
    · rename_i e
      subst e
      omega
    · exact t.le w hw
  · rw [tr_set hvl, if_neg h1]
    exact t.sink
theorem Dead.bump (D : Dead md es fl tr) (hv : v < tr.length) (hx : (nsOf es v)[trAt tr v]? = some x) (h : admB md es fl v x = false ∨ trAt tr x.2.2 = (nsOf es x.2.2).length) (hne : x.2.2 ≠ v) : Dead md es fl (tr.set v (trAt tr v + 1)) := by
  intro u j y hj hy
  have keep : ∀ z, trAt tr z = (nsOf es z).length → z ≠ v → trAt (tr.set v (trAt tr v + 1)) z = (nsOf es z).length := fun z hz hzv => by rw [tr_set hv, if_neg (Ne.symm hzv)]; exact hz
  have full : trAt tr v < (nsOf es v).length := (List.getElem?_eq_some_iff.mp hx).1
  rw [tr_set hv] at hj
  have old : j < trAt tr u → admB md es fl u y = false ∨ trAt (tr.set v (trAt tr v + 1)) y.2.2 = (nsOf es y.2.2).length := fun hj => by
    rcases D u j y hj hy with h | h
    · exact .inl h
    · refine .inr (keep _ h fun e => ?_)
      rw [e] at h
      omega
  split at hj
  · rename_i e
    subst e
    by_cases hl : j < trAt tr v
    · exact old hl
    · have : j = trAt tr v := by omega
      subst this
      rw [hx] at hy
      cases hy
      rcases h with h | h
      · exact .inl h
      · exact .inr (keep _ h hne)
  · exact old hj
/-- a sending empties a step of the way: fewer nodes stand at a good step -/
theorem mCur_send (B : Bfs n es fl0 true 0 md) (ok : NetOk n es) (hl : fl.length = es.length) (W : WayOk n md es fl tr way v) (hp : 0 ≤ amt) (hle : ∀ w ∈ way, amt ≤ lftAt es fl w.1 w.2.1) (hz : ∃ w ∈ way, lftAt es fl w.1 w.2.1 = amt) : mCur n md es (sendW amt fl way) tr < mCur n md es fl tr := by
  have hnd := W.nd
  have hin := (chn_in ok (by have := ok.two; omega) W.chn).2
  unfold mCur
  refine filter_lt (fun x hx h => ?_) ?_
  · unfold curB at h ⊢
    cases hn : (nsOf es x)[trAt tr x]? with
    | none => rw [hn] at h; cases h
    | some y =>
      rw [hn] at h
      simp only at h ⊢
      unfold admB at h ⊢
      cases hd : gtM md x with
      | none => rw [hd] at h; cases h
      | some k =>
        rw [hd] at h
        simp only [Bool.and_eq_true, decide_eq_true_eq] at h ⊢
        refine ⟨h.1, ?_⟩
        by_cases hw : ∃ w ∈ way, w.1 = y.1
        · obtain ⟨w, hw, e⟩ := hw
          have h2 := h.2
          rw [← e, lft_on hl hnd hw (hin w hw).1] at h2
          by_cases hf : y.2.1 = w.2.1
          · rw [if_pos hf] at h2
            rw [← e]
            omega
          · -- the other direction leads back
            exfalso
            obtain ⟨j, hj⟩ := List.mem_iff_getElem?.mp hw
            obtain ⟨i, f, u⟩ := w
            simp only at e hf
            subst e
            obtain ⟨_, d1, z, hz', d2, _⟩ := W.stp j _ _ _ hj
            obtain ⟨e1, he1, c1⟩ := ns_mem.mp (List.mem_of_getElem? hn)
            obtain ⟨e2, he2, c2⟩ := ns_mem.mp (List.mem_of_getElem? hz')
            simp only at he2 c2
            rw [he1] at he2
            cases he2
            have h1 := h.1
            rcases c1 with ⟨a1, a2, a3⟩ | ⟨a1, a2, a3⟩ <;> rcases c2 with ⟨b1, b2, b3⟩ | ⟨b1, b2, b3⟩
            · exact hf (by rw [a2, b2])
            · rw [← a1, b3, d2] at hd
              rw [← a3, b1, d1] at h1
              have := Option.some.inj hd
              have := Option.some.inj h1
              omega
            · rw [← a1, b3, d2] at hd
              rw [← a3, b1, d1] at h1
              have := Option.some.inj hd
              have := Option.some.inj h1
              omega
            · exact hf (by rw [a2, b2])
        · rw [lft_off fun w hw' e => hw ⟨w, hw', e⟩] at h
          exact h.2
  · obtain ⟨w, hw, hz⟩ := hz
    obtain ⟨j, hj⟩ := List.mem_iff_getElem?.mp hw
    obtain ⟨i, f, u⟩ := w
    obtain ⟨_, d1, z, hz', d2, d3⟩ := W.stp j _ _ _ hj
    refine ⟨u, List.mem_range.mpr (hin _ hw).2, ?_, ?_⟩
    · unfold curB admB
      rw [hz']
      simp only
      rw [d1]
      simp only [Bool.and_eq_true, decide_eq_true_eq]
      exact ⟨d2, d3⟩
    · unfold curB admB
      rw [hz']
      simp only
      rw [d1]
      simp only [Bool.and_eq_false_iff, decide_eq_false_iff_not]
      refine .inr ?_
      have := lft_on (amt := amt) (f := f) hl hnd hw (hin _ hw).1
      simp only [if_true] at this hz
      rw [this, hz]
      omega
theorem mAll_send (B : Bfs n es fl0 true 0 md) (ok : NetOk n es) (hl : fl.length = es.length) (W : WayOk n md es fl tr way v) (hp : 0 ≤ amt) (hle : ∀ w ∈ way, amt ≤ lftAt es fl w.1 w.2.1) (hz : ∃ w ∈ way, lftAt es fl w.1 w.2.1 = amt) : mAll n md es (sendW amt fl way) tr [] < mAll n md es fl tr way := by
  unfold mAll
  exact fall2 (mCur_send B ok hl W hp hle hz) (by simp)
/-- nothing was sent, and all was tried at the source: the sink is not joined -/
theorem dead_end (ok : NetOk n es) (B : Bfs n es fl true 0 md) (t : TrOk n es tr) (D : Dead md es fl tr) (h0 : trAt tr 0 = (nsOf es 0).length) : gtM md 1 = none := by
  have key : ∀ k v, gtM md v = some k → trAt tr v = (nsOf es v).length := by
    intro k
    induction k with
    | zero =>
      intro v hv
      rw [B.st0 v hv]
      exact h0
    | succ k ih =>
      intro v hv
      obtain ⟨u, x, hu, hx, rfl, hl⟩ := B.pred v k hv
      obtain ⟨j, hj⟩ := List.mem_iff_getElem?.mp hx
      have hjl := (List.getElem?_eq_some_iff.mp hj).1
      rcases D u j x (by rw [ih u hu]; exact hjl) hj with h | h
      · unfold admB at h
        rw [hu] at h
        rw [beq_true] at hl
        simp [hv, hl] at h
      · exact h
  cases h : gtM md 1 with
  | none => rfl
  | some k =>
    have h1 := key k 1 h
    rw [t.sink] at h1
    cases k with
    | zero =>
      have := B.st0 1 h
      omega
    | succ k =>
      obtain ⟨u, x, hu, hx, e, hl⟩ := B.pred 1 k h
      have := ns_back hx
      rw [e] at this
      rw [List.length_eq_zero_iff.mp h1.symm] at this
      cases this
end
theorem tri_ed (e : Edg) : edD e = triD ((e.1 : Int), (e.2.1 : Int), e.2.2) := rfl
def sp__left (K : PySem.W.Frag) : Sp := fun vs H Q _ => ∃ G v e a f, vs = [v, .int a, .bl f] ∧ Y.Ex G H ∧ Dp K G v (edD e) ∧ Q (.int (lft e a f)) H
theorem ok__left (T : Tx fa fn bx K mg) : FnOk P w K mg base CX0 1 (He.ga K "_left") (fdOf K (He.ga K "_left")) ["edge", "amount", "forward"] (sp__left K) := by
  refine FunD.ok (F__left T) sc__left (fun vs H Q E h => ?_) (fun cdv A outer s H vs Q E hr h => ?_)
  · obtain ⟨_, _, _, _, _, rfl, _⟩ := h
    rfl
  · obtain ⟨G, v, ed, a, f, rfl, e, hd, q⟩ := h
    refine ⟨_, PSs.nox ((pss_one (ps_ret (pe_ifExp (pt_val (pv 2)) (pe_op op_sub (pe_ix (Y.ix_tupK (K := K) rfl) (pv 0) pe_int (fun _ _ => rfl)) (pv 1)) (pe_op op_add (pe_ix (Y.ix_tupK (K := K) rfl) (pv 0) pe_int (fun _ _ => rfl)) (pv 1)))))), ?_⟩
    walk_at "sx"
    refine g_bool (fun hf => ?_) (fun hf => ?_) <;> walk_at "sx"
    · refine g_ixT (k := 2) e hd rfl rfl fun v1 d1 => ?_
      cases dp_int d1
      walk_at "sx"
      exact q_int q (by unfold lft; rw [if_pos hf])
    · refine g_ixT (k := 2) e hd rfl rfl fun v1 d1 => ?_
      cases dp_int d1
      walk_at "sx"
      exact q_int q (by unfold lft; rw [hf, if_neg (by simp)])
/-- rows of lists that stand, each apart -/
def RowsAt (K : PySem.W.Frag) (p : Addr) (as : List Addr) (G H : Hp) (LL : List (List PyData)) : Prop := H p = some (.lst (as.map V.ref)) ∧ G p = none ∧ as.length = LL.length ∧ as.Nodup ∧ p ∉ as ∧ ∀ (i : Nat) (a : Addr) (L : List PyData), as[i]? = some a → LL[i]? = some L → LstAt K a G H L
theorem RowsAt.go {K : PySem.W.Frag} {p : Addr} {as : List Addr} {G H G' H' : Hp} {LL : List (List PyData)} {M : List Addr} (r : RowsAt K p as G H LL) (n : Nx M G H G' H') (h1 : p ∉ M) (h2 : ∀ a ∈ as, a ∉ M) : RowsAt K p as G' H' LL := by
  obtain ⟨a1, a2, a3, a4, a5, a6⟩ := r
  exact ⟨n.fr p _ h1 a1, n.old p a2 (by rw [a1]; exact fun z => nomatch z), a3, a4, a5, fun i a L ha hL => (a6 i a L ha hL).go n (h2 a (List.mem_of_getElem? ha))⟩
theorem RowsAt.know {K : PySem.W.Frag} {p : Addr} {as : List Addr} {G H G0 H0 : Hp} {LL : List (List PyData)} {M : List Addr} (r : RowsAt K p as G H LL) (n : Nx M G0 H0 G H) (h1 : H0 p = none) (h2 : ∀ a ∈ as, H0 a = none) : ∃ G', Nx M G0 H0 G' H ∧ Y.Ex G G' ∧ Dp K G' (.ref p) (.list (LL.map .list)) := by
  obtain ⟨a1, a2, a3, a4, a5, a6⟩ := r
  -- the rows, one after the other
  have rows : ∀ k, k ≤ as.length → ∃ G', Nx M G0 H0 G' H ∧ Y.Ex G G' ∧ (∀ b, G b = none → b ∉ as.take k → G' b = none) ∧ ∀ (i : Nat) (a : Addr) (L : List PyData), i < k → as[i]? = some a → LL[i]? = some L → Dp K G' (.ref a) (.list L) := by
    intro k
    induction k with
    | zero => exact fun _ => ⟨G, n, Y.Ex.refl _, fun _ h _ => h, fun _ _ _ h => absurd h (Nat.not_lt_zero _)⟩
    | succ k ih =>
      intro hk
      obtain ⟨G1, n1, e1, f1, d1⟩ := ih (by omega)
      have hka : as[k]? = some as[k] := by simp [show k < as.length by omega]
      have hkL : LL[k]? = some LL[k] := by simp [show k < LL.length by omega]
      obtain ⟨vs, hv, gv, dv⟩ := a6 k _ _ hka hkL
      have nin : as[k] ∉ as.take k := fun hm => by
        obtain ⟨j, hj, e⟩ := List.mem_take_iff_getElem.mp hm
        have := (List.getElem_inj a4).mp e
        omega
      have g1 := f1 _ gv nin
      refine ⟨upd G1 as[k] (.lst vs), n1.know (h2 _ (List.getElem_mem _)) hv g1, e1.trans (Ex.new g1), fun b hb hn => ?_, fun i a L hi ha hL => ?_⟩
      · rw [List.take_add_one, hka] at hn
        have hne : b ≠ as[k] := fun z => hn (by rw [z]; exact List.mem_append_right _ (by simp))
        rw [upd_ne hne]
        exact f1 b hb fun z => hn (List.mem_append_left _ z)
      · by_cases he : i = k
        · subst he
          rw [hka] at ha
          rw [hkL] at hL
          cases ha
          cases hL
          exact .lst (.of upd_same) (dpAll_mono (e1.trans (Ex.new g1)) dv)
        · exact dp_mono (Ex.new g1) (d1 i a L (by omega) ha hL)
  obtain ⟨G1, n1, e1, f1, d1⟩ := rows as.length (Nat.le_refl _)
  have gp := f1 p a2 (by rw [List.take_length]; exact a5)
  refine ⟨upd G1 p (.lst (as.map V.ref)), n1.know h1 a1 gp, e1.trans (Ex.new gp), .lst (.of upd_same) (dpAll_mono (Ex.new gp) ?_)⟩
  refine dpAll_at (by simp [a3]) fun i v d hv hd => ?_
  rw [List.getElem?_map] at hv hd
  obtain ⟨a, ha, rfl⟩ := Option.map_eq_some_iff.mp hv
  obtain ⟨L, hL, rfl⟩ := Option.map_eq_some_iff.mp hd
  exact d1 i a L (List.getElem?_eq_some_iff.mp ha).1 ha hL
theorem RowsAt.set {K : PySem.W.Frag} {p a : Addr} {as : List Addr} {G H H' : Hp} {LL : List (List PyData)} {L' : List PyData} {k : Nat} (r : RowsAt K p as G H LL) (n : Nx [a] G H G H') (ha : as[k]? = some a) (r' : LstAt K a G H' L') : RowsAt K p as G H' (LL.set k L') := by
  obtain ⟨a1, a2, a3, a4, a5, a6⟩ := r
  have hm := List.mem_of_getElem? ha
  refine ⟨n.fr p _ (fun z => by simp at z; exact a5 (z ▸ hm)) a1, a2, by simp [a3], a4, a5, fun i b L hb hL => ?_⟩
  by_cases he : i = k
  · subst he
    rw [ha] at hb
    cases hb
    have hk : i < LL.length := a3 ▸ (List.getElem?_eq_some_iff.mp ha).1
    rw [List.getElem?_set_self hk] at hL
    cases hL
    exact r'
  · rw [List.getElem?_set_ne (fun z => he z.symm)] at hL
    refine (a6 i b L hb hL).go n fun z => ?_
    simp only [List.mem_cons, List.not_mem_nil, or_false] at z
    subst z
    obtain ⟨h1, e1⟩ := List.getElem?_eq_some_iff.mp ha
    obtain ⟨h2, e2⟩ := List.getElem?_eq_some_iff.mp hb
    exact he ((List.getElem_inj a4).mp (e2.trans e1.symm))
theorem RowsAt.row {K : PySem.W.Frag} {p : Addr} {as : List Addr} {G H : Hp} {LL : List (List PyData)} {L : List PyData} {k : Nat} (r : RowsAt K p as G H LL) (hL : LL[k]? = some L) : ∃ a, as[k]? = some a ∧ LstAt K a G H L := by
  obtain ⟨a1, a2, a3, a4, a5, a6⟩ := r
  have hk : k < as.length := a3 ▸ (List.getElem?_eq_some_iff.mp hL).1
  exact ⟨as[k], by simp [hk], a6 k _ L (by simp [hk]) hL⟩
/-- what one edge adds to the rows -/
theorem rows_step {n i : Nat} {es : List Edg} {e : Edg} (h : es[i]? = some e) (h1 : e.1 < n) (h2 : e.2.1 < n) (hne : e.1 ≠ e.2.1) :
    (((List.range n).map fun v => (nsOf (es.take i) v).map nsD).set e.1 ((nsOf (es.take i) e.1).map nsD ++ [nsD (i, true, e.2.1)])).set e.2.1 ((nsOf (es.take i) e.2.1).map nsD ++ [nsD (i, false, e.1)]) = (List.range n).map fun v => (nsOf (es.take (i + 1)) v).map nsD := by
  apply List.ext_getElem?
  intro v
  rw [List.getElem?_set, List.getElem?_set]
  by_cases hv : v < n
  · have hns := ns_snoc (v := v) h
    by_cases b2 : e.2.1 = v
    · subst b2
      simp [h2, hns, nsL, hne]
    · by_cases b1 : e.1 = v
      · subst b1
        simp [h1, hns, nsL, b2]
      · simp [b2, b1, hv, hns, nsL]
  · have : e.2.1 ≠ v := by omega
    have : e.1 ≠ v := by omega
    simp [*]
def stepsD (n : Nat) (es : List Edg) : PyData := .list ((List.range n).map fun v => .list ((nsOf es v).map nsD))
def sp__steps_at (K : PySem.W.Frag) : Sp := fun vs H Q _ => ∃ G v, ∃ n : Nat, ∃ es, vs = [.int (n : Int), v] ∧ Y.Ex G H ∧ LsV K v G H (es.map edD) ∧ NetOk n es ∧ ∀ r G' H', Nx [] G H G' H' → Dp K G' r (stepsD n es) → Q r H'
theorem ok__steps_at (T : Tx fa fn bx K mg) : FnOk P w K mg base CX0 1 (He.ga K "_steps_at") (fdOf K (He.ga K "_steps_at")) ["count", "edges"] (sp__steps_at K) := by
  refine FunD.ok (F__steps_at T) sc__steps_at (fun vs H Q E h => ?_) (fun cdv A outer s H vs Q E hr h => ?_)
  · obtain ⟨_, _, _, _, rfl, _⟩ := h
    rfl
  · obtain ⟨G, v, n, es, rfl, e, hL, ok, q⟩ := h
    refine ⟨_, PSs.nox ((pss_cons (ps_setLc (i := 2) (own := [("_", 5)]) (tt := tYes) rfl sc__steps_at.nd rfl rfl (sw_true rfl rfl rfl (by decide +kernel)) (pi_range1 (by rfl) (T.free 5) (pa_cons (pv 0) pa_nil)) (blkOk_by (own := [("_", 5)]) (by kernel_rfl)) (fun _ _ _ _ _ => (pg_name (i := 5) sc__steps_at.nd rfl (Or.inl rfl))) (fun _ _ _ _ _ => pts_nil) (fun _ _ _ _ _ => (pe_lst pa_nil)))
      (pss_cons (ps_for PassesOwn.never rfl (Y.pi_enumK (K := K) rfl (by rfl) (T.free 6) (pa_cons (pv 1) pa_nil)) (Y.pg_tupK (K := K) (n := 2) rfl rfl (pgs_cons (pg_name (i := 3) sc__steps_at.nd rfl (Or.inl rfl)) (pgs_cons (pg_name (i := 4) sc__steps_at.nd rfl (Or.inl rfl)) pgs_nil)))
      (pss_cons (ps_asg (pe_slice (Y.sl_tupAK (K := K) rfl) (pv 4) po_none (po_some pe_int)) (Y.pg_tupK (K := K) (n := 2) rfl rfl (pgs_cons (pg_name (i := 6) sc__steps_at.nd rfl (Or.inl rfl)) (pgs_cons (pg_name (i := 7) sc__steps_at.nd rfl (Or.inl rfl)) pgs_nil))))
      (pss_cons (ps_expr (Y.pe_bmK (K := K) rfl PySem.F.plainAttrs_list PySem.F.slot_list_append PySem.F.type_list_append mt_append (pe_ix (Y.ix_listK (K := K) rfl) (pv 2) (pv 6) (fun _ _ => rfl)) (pa_cons (pe_tup (pa_cons (pv 3) (pa_cons pe_bl (pa_cons (pv 7) pa_nil)))) pa_nil)))
      (pss_one (ps_expr (Y.pe_bmK (K := K) rfl PySem.F.plainAttrs_list PySem.F.slot_list_append PySem.F.type_list_append mt_append (pe_ix (Y.ix_listK (K := K) rfl) (pv 2) (pv 7) (fun _ _ => rfl)) (pa_cons (pe_tup (pa_cons (pv 3) (pa_cons pe_bl (pa_cons (pv 6) pa_nil)))) pa_nil)))))))
      (pss_one (ps_ret (pv 2)))))), ?_⟩
    have nl := ok.nl
    have el := ok.len
    walk_at "sx"
    refine g_walkR (by omega) (by omega) ?_
    intro A hA
    refine g_lcQ (K := K) (M := []) (Src.p (K := K) (src_rng 0 _)) e hA (by simp) (by rw [rng_len]; exact szl (by omega)) (fun i acc G' H' => ∃ as : List Addr, acc = as.map V.ref ∧ as.length = i ∧ as.Nodup ∧ A ∉ as ∧ ∀ a ∈ as, H a = none ∧ LstAt K a G' H' []) (fun i acc G' H' o hO h => ?_) (fun _ _ _ _ _ _ n h => ?_) ⟨[], rfl, rfl, by simp, by simp, by simp⟩ (fun i v' acc G1 H1 hi hp n1 hA1 _ hj QE QN k1 k2 => ?_) fun G1 H1 ys hj n1 g1 h1 hyl => ?_
    · obtain ⟨as, h1, h2, h3, h4, h5⟩ := h
      exact ⟨as, h1, h2, h3, h4, fun a ha => ⟨(h5 a ha).1, (h5 a ha).2.upd fun z => h4 (z ▸ ha)⟩⟩
    · obtain ⟨as, h1, h2, h3, h4, h5⟩ := h
      exact ⟨as, h1, h2, h3, h4, fun a ha => ⟨(h5 a ha).1, (h5 a ha).2.go n (by simp)⟩⟩
    · refine ⟨by first | rfl | exact wipe1, ?_⟩
      obtain ⟨as, rfl, h2, h3, h4, h5⟩ := hj
      walk_at "sx"
      refine g_lstLs (K := K) (L := []) n1.gh .nil (Nat.zero_le _) fun p G2 n2 hp0 hp1 => ?_
      refine k1 _ G1 G2 n2 ⟨as ++ [p], by simp, by simp [h2], ?_, ?_, fun a ha => ?_⟩
      · refine List.nodup_append.mpr ⟨h3, by simp, fun a ha b hb => ?_⟩
        simp only [List.mem_cons, List.not_mem_nil, or_false] at hb
        subst hb
        rintro rfl
        exact (h5 a ha).2.live hp0
      · intro hm
        rcases List.mem_append.mp hm with hm | hm
        · exact h4 hm
        · simp only [List.mem_cons, List.not_mem_nil, or_false] at hm
          exact hA1 (hm ▸ hp0)
      · rcases List.mem_append.mp ha with ha | ha
        · exact ⟨(h5 a ha).1, (h5 a ha).2.go n2 (by simp)⟩
        · simp only [List.mem_cons, List.not_mem_nil, or_false] at ha
          subst ha
          exact ⟨n1.fresh hp0, hp1⟩
    obtain ⟨as, rfl, h2, h3, h4, h5⟩ := hj
    rw [rng_len, show ((n : Int)).toNat = n by omega] at h2
    have hR : RowsAt K A as G1 H1 ((List.range n).map fun v => (nsOf (es.take 0) v).map nsD) := ⟨h1, g1, by simp [h2], h3, h4, fun i a L ha hL => by
      rw [List.getElem?_map] at hL
      obtain ⟨z, _, rfl⟩ := Option.map_eq_some_iff.mp hL
      exact (h5 a (List.mem_of_getElem? ha)).2⟩
    have hfr : ∀ a ∈ as, H a = none := fun a ha => (h5 a ha).1
    have hvA : ∀ q ∈ A :: as, H q = none := fun q hq => by
      rcases List.mem_cons.mp hq with rfl | hq
      · exact hA
      · exact hfr q hq
    clear h5 h1 g1
    walk_at "sx"
    refine g_walkEv0 hL n1 fun p ep S => ?_
    have S2 := S (A :: as) fun q hq => .inl (hvA q hq)
    refine g_forS (K := K) (M := A :: as) S2 n1.gh (fun i σ G' H' => ∃ y3 y4 y6 y7, σ = [some (.int (n : Int)), some v, some (.ref A), y3, y4, none, y6, y7] ∧ RowsAt K A as G' H' ((List.range n).map fun v => (nsOf (es.take i) v).map nsD)) ⟨_, _, _, _, rfl, hR⟩ ?_ ?_
    · rintro i w x σ' G2 H2 G3 H3 hi n2 ⟨y3, y4, y6, y7, rfl, hR2⟩ n3 dx
      rw [prs_get, List.getElem?_map] at hi
      obtain ⟨w1, hw1, rfl⟩ := Option.map_eq_some_iff.mp hi
      obtain ⟨ed, hed, rfl⟩ := Option.map_eq_some_iff.mp hw1
      obtain ⟨b1, b2, b3, b4⟩ := ok.ed ed (List.mem_of_getElem? hed)
      have hil : i < es.length := (List.getElem?_eq_some_iff.mp hed).1
      have hR3 := hR2.go n3 (by simp) (by simp)
      have n23 := n2.trans n3.pure
      walk_at "sx"
      refine g_un2 n3.gh dx fun u1 u2 du1 du2 => ?_
      cases dp_int du1
      walk_at "sx"
      refine g_slHi (k := 2) n3.gh du2 rfl fun u3 G4 H4 n4 du3 => ?_
      refine g_un2 n4.gh du3 fun v1 v2 dv1 dv2 => ?_
      cases dp_int dv1
      cases dp_int dv2
      have hR4 := hR3.go n4 (by simp) (by simp)
      have q1 : ((List.range n).map fun v => (nsOf (es.take i) v).map nsD)[ed.1]? = some ((nsOf (es.take i) ed.1).map nsD) := by simp [b1]
      have q2 : ((List.range n).map fun v => (nsOf (es.take i) v).map nsD)[ed.2.1]? = some ((nsOf (es.take i) ed.2.1).map nsD) := by simp [b2]
      have len1 : ∀ v, (nsOf (es.take i) v).length < 50000 := fun v => by
        have : (nsOf (es.take i) v).length ≤ (es.take i).length := nsFrom_len fun e he => (ok.ed e (List.mem_of_mem_take he)).2.2.1
        rw [List.length_take] at this
        omega
      obtain ⟨r1, hr1, l1⟩ := hR4.row q1
      obtain ⟨hp4, gp4, _, nd4, _, _⟩ := id hR4
      walk_at "sx"
      refine g_ixM (k := ed.1) hp4 (by rw [List.getElem?_map, hr1]; rfl) rfl ?_
      refine g_tyLs l1 ?_
      walk_at "sx"
      refine g_tupD (K := K) n4.gh (.cons (.int _) (.cons (.bl _) (.cons (.int _) .nil))) (by simp [sizeLine]) fun t1 G5 H5 n5 dt1 => ?_
      walk_at "sx"
      refine g_appLs n5.gh (l1.go n5 (by simp)) (d := nsD (i, true, ed.2.1)) (by unfold nsD; simpa using dt1) (by have := len1 ed.1; rw [List.length_map]; omega) fun H6 n6 l6 => ?_
      have hR5 := (hR4.go n5 (by simp) (by simp)).set n6 hr1 l6
      have q2' : (((List.range n).map fun v => (nsOf (es.take i) v).map nsD).set ed.1 ((nsOf (es.take i) ed.1).map nsD ++ [nsD (i, true, ed.2.1)]))[ed.2.1]? = some ((nsOf (es.take i) ed.2.1).map nsD) := by
        rw [List.getElem?_set_ne b3]
        exact q2
      obtain ⟨r2, hr2, l2⟩ := hR5.row q2'
      obtain ⟨hp6, gp6, _, nd6, _, _⟩ := id hR5
      walk_at "sx"
      refine g_ixM (k := ed.2.1) hp6 (by rw [List.getElem?_map, hr2]; rfl) rfl ?_
      refine g_tyLs l2 ?_
      walk_at "sx"
      refine g_tupD (K := K) n6.gh (.cons (.int _) (.cons (.bl _) (.cons (.int _) .nil))) (by simp [sizeLine]) fun t2 G7 H7 n7 dt2 => ?_
      walk_at "sx"
      refine g_appLs n7.gh (l2.go n7 (by simp)) (d := nsD (i, false, ed.1)) (by unfold nsD; simpa using dt2) (by have := len1 ed.2.1; rw [List.length_map]; omega) fun H8 n8 l8 => ?_
      have hR7 := (hR5.go n7 (by simp) (by simp)).set n8 hr2 l8
      rw [rows_step hed b1 b2 b3] at hR7
      have m6 : ∀ {k : Nat} {a : Addr}, as[k]? = some a → ∀ x ∈ [a], x ∈ A :: as := fun ha x hx => by
        simp only [List.mem_cons, List.not_mem_nil, or_false] at hx
        subst hx
        exact List.mem_cons_of_mem _ (List.mem_of_getElem? ha)
      have n48 := (((n4.pure.trans n5.pure).trans (n6.mono (m6 hr1))).trans n7.pure).trans (n8.mono (m6 hr2))
      exact ⟨G7, n23.trans n48, _, _, _, _, rfl, hR7⟩
    · rintro σ' G2 H2 n2 ⟨y3, y4, y6, y7, rfl, hR2⟩
      rw [prs_len, List.length_map, List.take_length] at hR2
      walk_at "sx"
      have n12 : Nx (A :: as) G H G2 H2 := n1.pure.trans n2
      obtain ⟨G3, n3, _, d3⟩ := hR2.know n12 hA hfr
      have : ((List.range n).map fun v => (nsOf es v).map nsD).map PyData.list = (List.range n).map fun v => .list ((nsOf es v).map nsD) := by rw [List.map_map]; rfl
      rw [this] at d3
      exact q _ _ _ (n3.sub fun x hx => .inr (hvA x hx)) d3
def dstM (md : Dst) : List (Key × PyData) := md.map fun p => ((Sum.inl (p.1 : Int) : Key), PyData.int (p.2 : Int))
theorem gt_dst {md : Dst} {v : Nat} : gtM (dstM md) (Sum.inl (v : Int) : Key) = (gtM md v).map fun k => .int (k : Int) := by
  induction md with
  | nil => rfl
  | cons x md ih =>
    show gtM (((Sum.inl (x.1 : Int) : Key), PyData.int (x.2 : Int)) :: dstM md) _ = _
    rw [gtM_cons, gtM_cons, ih]
    by_cases h : x.1 = v
    · rw [if_pos (by rw [h]), if_pos h]
      rfl
    · rw [if_neg (fun z => h (by have := Sum.inl.inj z; omega)), if_neg h]
theorem pt_dst {md : Dst} {v k : Nat} (h : gtM md v = none) : ptM (dstM md) (Sum.inl (v : Int) : Key) (.int (k : Int)) = dstM (md ++ [(v, k)]) := by
  have h2 : gtM (dstM md) (Sum.inl (v : Int) : Key) = none := by rw [gt_dst, h]; rfl
  rw [ptM_new (gtM_none.mp h2)]
  simp [dstM]
theorem gt_snoc {md : Dst} {o k v : Nat} : gtM (md ++ [(o, k)]) v = (gtM md v).or (if o = v then some k else none) := by
  rw [gtM_app, gtM_cons]
  rfl
/-- all of the nodes but those of P are done -/
def Opn (es : List Edg) (fl : List Int) (ah : Bool) (md : Dst) (F : List Nat) : Prop := ∀ u k, gtM md u = some k → u ∉ F → ∀ x ∈ nsOf es u, 0 < lftAt es fl x.1 (x.2.1 == ah) → x.2.2 ∈ md.map (·.1)
section
variable {n : Nat} {es : List Edg} {fl : List Int} {ah : Bool} {s v u : Nat} {md : Dst} {x : NStp} {F : List Nat}
theorem Bfs.one (hs : s < n) : Bfs n es fl ah s [(s, 0)] where
  nd := by simp
  lt := by simp [hs]
  st := by simp [gtM_cons]
  st0 := fun v h => by
    rw [gtM_cons] at h
    by_cases e : s = v
    · exact e.symm
    · simp [e, gtM] at h
  pred := fun v k h => by
    rw [gtM_cons] at h
    by_cases e : s = v
    · simp [e] at h
    · simp [e, gtM] at h
theorem Bfs.add (ok : NetOk n es) (B : Bfs n es fl ah s md) {k : Nat} (hu : gtM md u = some k) (hx : x ∈ nsOf es u) (hn : gtM md x.2.2 = none) (hl : 0 < lftAt es fl x.1 (x.2.1 == ah)) : Bfs n es fl ah s (md ++ [(x.2.2, k + 1)]) where
  nd := by
    rw [List.map_append, List.nodup_append]
    refine ⟨B.nd, by simp, fun a ha b hb => ?_⟩
    simp only [List.map_cons, List.map_nil, List.mem_cons, List.not_mem_nil, or_false] at hb
    subst hb
    rintro rfl
    exact gtM_none.mp hn ha
  lt := fun p hp => by
    rcases List.mem_append.mp hp with hp | hp
    · exact B.lt p hp
    · simp only [List.mem_cons, List.not_mem_nil, or_false] at hp
      subst hp
      exact (ns_in ok hx).2.1
  st := by rw [gt_snoc, B.st]; rfl
  st0 := fun v h => by
    rw [gt_snoc] at h
    cases e : gtM md v with
    | some j =>
      rw [e] at h
      exact B.st0 v (e.trans h)
    | none =>
      rw [e] at h
      by_cases e2 : x.2.2 = v <;> simp [e2] at h
  pred := fun v j h => by
    rw [gt_snoc] at h
    have up : ∀ {w i}, gtM md w = some i → gtM (md ++ [(x.2.2, k + 1)]) w = some i := fun q => by rw [gt_snoc, q]; rfl
    cases e : gtM md v with
    | some i =>
      rw [e] at h
      obtain ⟨u', x', a, b⟩ := B.pred v j (e.trans h)
      exact ⟨u', x', up a, b⟩
    | none =>
      rw [e] at h
      by_cases e2 : x.2.2 = v
      · simp [e2] at h
        subst h
        exact ⟨u, x, up hu, hx, e2, hl⟩
      · simp [e2] at h
theorem Opn.add (o : Opn es fl ah md (F ++ R)) {k o' : Nat} : Opn es fl ah (md ++ [(o', k)]) (F ++ (R ++ [o'])) := fun u j hu hf x hx hl => by
  have hu2 : u ≠ o' := fun z => hf (by simp [z])
  rw [gt_snoc] at hu
  have : gtM md u = some j := by
    cases e : gtM md u with
    | some i => rw [e] at hu; exact hu
    | none => rw [e] at hu; simp [hu2.symm] at hu
  rw [List.map_append]
  exact List.mem_append_left _ (o u j this (fun z => hf (by rcases List.mem_append.mp z with z | z <;> simp [z])) x hx hl)
end
def sp__distances (K : PySem.W.Frag) : Sp := fun vs H Q _ => ∃ G sr ev fv, ∃ n s : Nat, ∃ ah es fl, vs = [.int (s : Int), .bl ah, sr, ev, fv] ∧ Y.Ex G H ∧ Dp K G sr (stepsD n es) ∧ LsV K ev G H (es.map edD) ∧ LsV K fv G H (fl.map .int) ∧ NetOk n es ∧ fl.length = es.length ∧ s < n ∧
  ∀ d G' H' md, Nx [] G H G' H' → H d = none → DctAt K d G' H' (dstM md) → BfsC n es fl ah s md → Q (.ref d) H'
theorem ok__distances (T : Tx fa fn bx K mg) : FnOk P w K mg base CX0 2 (He.ga K "_distances") (fdOf K (He.ga K "_distances")) ["start", "ahead", "steps", "edges", "flow"] (sp__distances K) := by
  refine FunD.ok (F__distances T) sc__distances (fun vs H Q E h => ?_) (fun cdv A outer s H vs Q E hr h => ?_)
  · obtain ⟨_, _, _, _, _, _, _, _, _, rfl, _⟩ := h
    rfl
  · obtain ⟨G, sr, ev, fv, n, s, ah, es, fl, rfl, e, hS, hE, hF, ok, hlen, hs, q⟩ := h
    refine ⟨_, PSs.nox ((pss_cons (ps_set (i := 5) sc__distances.nd rfl (Or.inl rfl) (pe_disp (pps_cons (pv 0) pe_int pps_nil) (by rfl) (by rfl) (fun z => by cases z) (by decide)))
      (pss_cons (ps_set (i := 6) sc__distances.nd rfl (Or.inl rfl) (pe_lst (pa_cons (pv 0) pa_nil)))
      (pss_cons (ps_while PassesOwn.never (Y.pt_truthK (K := K) rfl (pv 6) (by intro _; rfl))
      (pss_cons (ps_set (i := 7) sc__distances.nd rfl (Or.inl rfl) (pe_lst pa_nil))
      (pss_cons (ps_for PassesOwn.never rfl (Y.pi_listK (K := K) rfl (pv 6)) (pg_name (i := 8) sc__distances.nd rfl (Or.inl rfl))
      (pss_one (ps_for PassesOwn.never rfl (Y.pi_listK (K := K) rfl (pe_ix (Y.ix_listK (K := K) rfl) (pv 2) (pv 8) (fun _ _ => rfl))) (Y.pg_tupK (K := K) (n := 3) rfl rfl (pgs_cons (pg_name (i := 9) sc__distances.nd rfl (Or.inl rfl)) (pgs_cons (pg_name (i := 10) sc__distances.nd rfl (Or.inl rfl)) (pgs_cons (pg_name (i := 11) sc__distances.nd rfl (Or.inl rfl)) pgs_nil))))
      (pss_one (ps_if (PW.pt (pw_and (pt_cmp (pc_dnotin (hu_of hr) (pv 11) (pv 5))) (pw_and1 (pt_cmpR op_gt (Y.pe_callC (ok__left T) (cal__left T) (hr.mono (by decide)) (by rfl) pass0 (pa_cons (pe_ix (Y.ix_listK (K := K) rfl) (pv 3) (pv 9) (fun _ _ => rfl)) (pa_cons (pe_ix (Y.ix_listK (K := K) rfl) (pv 4) (pv 9) (fun _ _ => rfl)) (pa_cons (pe_cmpR op_eq (pv 10) (pv 1) (nomark _)) pa_nil)))) pe_int (nomark _)))))
      (pss_cons (ps_dput (hu_of hr) (pv 5) (pv 11) (pe_op op_add (pe_dget (hu_of hr) (pv 5) (pv 8) (fun _ _ => rfl)) pe_int) rfl)
      (pss_one (ps_expr (Y.pe_bmK (K := K) rfl PySem.F.plainAttrs_list PySem.F.slot_list_append PySem.F.type_list_append mt_append (pv 7) (pa_cons (pv 11) pa_nil)))))
      pss_nil)))))
      (pss_one (ps_set (i := 6) sc__distances.nd rfl (Or.inl rfl) (pv 7))))))
      (pss_one (ps_ret (pv 5))))))), ?_⟩
    have nl := ok.nl
    have el := ok.len
    walk_at "sx"
    intro D hD0
    have n1 : Nx [] G H G (upd H D (.dK [])) := Nx.own e hD0
    have hDD : (upd H D (.dK [])) D = some (.dK []) := upd_same
    generalize upd H D (.dK []) = H1 at n1 hDD ⊢
    walk_at "sx"
    refine g_di1 hDD (k := Sum.inl (s : Int)) rfl ?_
    have gD : G D = none := e.free hD0
    have n2 : Nx [D] G H1 G (upd H1 D (.dK [(Sum.inl (s : Int), .int 0)])) := Nx.set n1.gh gD (by simp)
    have hDt : DctAt K D G (upd H1 D (.dK [(Sum.inl (s : Int), .int 0)])) (dstM [(s, 0)]) := ⟨_, upd_same, gD, rfl, .cons (.int _) .nil⟩
    generalize upd H1 D (.dK [(Sum.inl (s : Int), .int 0)]) = H2 at n2 hDt ⊢
    have nA : Nx [] G H G H2 := (n1.pure.trans n2).drop hD0
    walk_at "sx"
    refine g_lstLs (K := K) (L := [.int (s : Int)]) nA.gh (.cons (.int _) .nil) (by show 1 ≤ 100000; decide) fun f0 H3 n3 hf0 hLf => ?_
    walk_at "sx"
    have hD3 := hDt.go n3 (by simp)
    have nB : Nx [] G H G H3 := nA.trans n3
    have Df0 : D ≠ f0 := fun z => by obtain ⟨_, h, _⟩ := hDt; rw [z, hf0] at h; cases h
    refine g_while (2 * n) (fun m σ H' => ∃ G' f, ∃ md : Dst, ∃ F : List Nat, ∃ y7 y8 y9 y10 y11, σ = [some (.int (s : Int)), some (.bl ah), some sr, some ev, some fv, some (.ref D), some (.ref f), y7, y8, y9, y10, y11] ∧ Nx [] G H G' H' ∧ DctAt K D G' H' (dstM md) ∧ LstAt K f G' H' (F.map fun (v : Nat) => PyData.int (v : Int)) ∧ D ≠ f ∧ Bfs n es fl ah s md ∧ Opn es fl ah md F ∧ (∀ v ∈ F, v ∈ md.map (·.1)) ∧ 2 * (n - md.length) + (if F = [] then 0 else 1) ≤ m) ⟨G, f0, [(s, 0)], [s], _, _, _, _, _, rfl, nB, hD3, hLf, Df0, Bfs.one hs, ?_, by simp, by simp; omega⟩ ?_
    · intro u k hu hf x hx hl
      rw [gtM_cons] at hu
      by_cases e2 : s = u
      · exact absurd (by simp [e2]) hf
      · simp [e2, gtM] at hu
    rintro m σ' H4 ⟨G4, f, md, F, y7, y8, y9, y10, y11, rfl, n4, hD4, hL4, Df, B, O, hFk, hm⟩
    obtain ⟨us, hus, gus, dus⟩ := id hL4
    have hul := dpAll_len dus
    rw [List.length_map] at hul
    walk_at "sx"
    refine g_truL (.of hus) ?_
    refine g_nbool (fun hne => ?_) (fun hem => ?_)
    rotate_left
    · walk_at "sx"
      have hz : F = [] := by
        cases us with
        | nil => exact List.length_eq_zero_iff.mp hul.symm
        | cons a b => simp at hem
      subst hz
      exact q D G4 H4 md n4 hD0 hD4 ⟨B, fun u k hu x hx hl => O u k hu (by simp) x hx hl⟩
    have hF1 : F ≠ [] := by
      rintro rfl
      cases us with
      | nil => simp at hne
      | cons a b => simp at hul
    rw [if_neg hF1] at hm
    refine g_whN ?_
    walk_at "sx"
    refine g_lstLs (K := K) (L := []) n4.gh .nil (Nat.zero_le _) fun r H5 n5 hr0 hLr => ?_
    walk_at "sx"
    have hD5 := hD4.go n5 (by simp)
    have hL5 := hL4.go n5 (by simp)
    have n45 := n4.trans n5
    have rD : r ≠ D := fun z => by obtain ⟨_, h, _⟩ := hD4; rw [← z, hr0] at h; cases h
    have rf : r ≠ f := fun z => hL4.live (z ▸ hr0)
    have hr00 : H r = none := n4.fresh hr0
    refine g_walkLs hL5 fun S => ?_
    refine g_forS (K := K) (M := [D, r]) (S [D, r] (by simp [Df.symm, rf.symm])) n45.gh (fun i σ G' H' => ∃ md' : Dst, ∃ R : List Nat, ∃ y8 y9 y10 y11, σ = [some (.int (s : Int)), some (.bl ah), some sr, some ev, some fv, some (.ref D), some (.ref f), some (.ref r), y8, y9, y10, y11] ∧ DctAt K D G' H' (dstM md') ∧ LstAt K r G' H' (R.map fun (v : Nat) => PyData.int (v : Int)) ∧ Bfs n es fl ah s md' ∧ Opn es fl ah md' (F.drop i ++ R) ∧ (∀ v ∈ F, v ∈ md'.map (·.1)) ∧ (∀ v ∈ R, v ∈ md'.map (·.1)) ∧ md'.length = md.length + R.length) ⟨md, [], _, _, _, _, rfl, hD5, hLr, B, by simpa using O, hFk, by simp, by simp⟩ ?_ ?_
    · rintro i w x σ' G6 H6 G7 H7 hi n6 ⟨md1, R1, z8, z9, z10, z11, rfl, hD6, hR6, B1, O1, hk1, hr1, hml1⟩ n7 dx
      rw [List.getElem?_map] at hi
      obtain ⟨u, hu, rfl⟩ := Option.map_eq_some_iff.mp hi
      cases dp_int dx
      have hum := List.mem_of_getElem? hu
      have hui : i < F.length := (List.getElem?_eq_some_iff.mp hu).1
      obtain ⟨ku, hku⟩ := gtN_key (hk1 u hum)
      have hun : u < n := B1.lt _ (gtN_mem hku)
      have n67 : Nx [D, r] G4 H5 G7 H7 := n6.trans n7.pure
      have n07 : Nx [] G H G7 H7 := (n45.pure.trans n67).sub (by simp [hD0, hr00])
      have hD7 := hD6.go n7 (by simp)
      have hR7 := hR6.go n7 (by simp)
      walk_at "sx"
      refine g_ixL (k := u) n7.gh (dp_mono n07.gg hS) (d := .list ((nsOf es u).map nsD)) (by simp [hun]) rfl fun v1 dv1 => ?_
      refine g_walkL n7.gh dv1 fun a1 ea1 S2 => ?_
      refine g_forS (K := K) (M := [D, r]) (S2 [D, r]) n7.gh (fun j σ G' H' => ∃ md' : Dst, ∃ R : List Nat, ∃ y9 y10 y11, σ = [some (.int (s : Int)), some (.bl ah), some sr, some ev, some fv, some (.ref D), some (.ref f), some (.ref r), some (.int (u : Int)), y9, y10, y11] ∧ DctAt K D G' H' (dstM md') ∧ LstAt K r G' H' (R.map fun (v : Nat) => PyData.int (v : Int)) ∧ Bfs n es fl ah s md' ∧ Opn es fl ah md' (F.drop i ++ R) ∧ (∀ v ∈ F, v ∈ md'.map (·.1)) ∧ (∀ v ∈ R, v ∈ md'.map (·.1)) ∧ md'.length = md.length + R.length ∧ gtM md' u = some ku ∧ ∀ x ∈ (nsOf es u).take j, 0 < lftAt es fl x.1 (x.2.1 == ah) → x.2.2 ∈ md'.map (·.1)) ⟨md1, R1, _, _, _, rfl, hD7, hR7, B1, O1, hk1, hr1, hml1, hku, by simp⟩ ?_ ?_
      · rintro j w x σ' G8 H8 G9 H9 hj n8 ⟨md2, R2, z9, z10, z11, rfl, hD8, hR8, B2, O2, hk2, hr2, hml2, hku2, hcl⟩ n9 dx
        rw [List.getElem?_map] at hj
        obtain ⟨x1, hx1, rfl⟩ := Option.map_eq_some_iff.mp hj
        have hx1m := List.mem_of_getElem? hx1
        obtain ⟨_, bo, _, bn⟩ := ns_in ok hx1m
        have n79 : Nx [D, r] G7 H7 G9 H9 := n8.trans n9.pure
        have n09 : Nx [] G H G9 H9 := (n07.pure.trans n79).sub (by simp [hD0, hr00])
        have hD9 := hD8.go n9 (by simp)
        have hR9 := hR8.go n9 (by simp)
        have hE9 := hE.go0 n09
        have hF9 := hF.go0 n09
        obtain ⟨ed, hed⟩ : ∃ ed, es[x1.1]? = some ed := ⟨es[x1.1], by simp [bn]⟩
        obtain ⟨am, ham⟩ := fl_at hlen hed
        walk_at "sx"
        refine g_un3 n9.gh dx fun u1 u2 u3 du1 du2 du3 => ?_
        cases dp_int du1
        cases dp_bl du2
        cases dp_int du3
        walk_at "sx"
        refine g_dcNi hD9 (k := Sum.inl (x1.2.2 : Int)) rfl ?_
        rw [gt_dst]
        walk_at "sx"
        have clo : ∀ md3 : Dst, (∀ v, v ∈ md2.map (·.1) → v ∈ md3.map (·.1)) → (0 < lftAt es fl x1.1 (x1.2.1 == ah) → x1.2.2 ∈ md3.map (·.1)) → ∀ x ∈ (nsOf es u).take (j + 1), 0 < lftAt es fl x.1 (x.2.1 == ah) → x.2.2 ∈ md3.map (·.1) := fun md3 h1 h2 x hx hl => by
          rw [List.take_add_one, hx1] at hx
          rcases List.mem_append.mp hx with hx | hx
          · exact h1 _ (hcl x hx hl)
          · simp only [Option.toList_some, List.mem_cons, List.not_mem_nil, or_false] at hx
            subst hx
            exact h2 hl
        refine g_nbool (fun hno => ?_) (fun hyes => ?_) <;> walk_at "sx"
        rotate_left
        · refine ⟨G9, n79, md2, R2, _, _, _, rfl, hD9, hR9, B2, O2, hk2, hr2, hml2, hku2, clo md2 (fun _ h => h) fun _ => ?_⟩
          cases hg : gtM md2 x1.2.2 with
          | none => rw [hg] at hyes; simp at hyes
          | some k => exact gtN_of hg
        have hno2 : gtM md2 x1.2.2 = none := by
          cases hg : gtM md2 x1.2.2 with
          | none => rfl
          | some k => rw [hg] at hno; simp at hno
        refine g_ixV (k := x1.1) n9.gh hE9 (d := edD ed) (by simp [hed]) rfl fun v2 dv2 => ?_
        walk_at "sx"
        refine g_ixV (k := x1.1) n9.gh hF9 (d := .int am) (by simp [ham]) rfl fun v3 dv3 => ?_
        cases dp_int dv3
        walk_at "sx"
        refine g_eq rfl ?_
        walk_at "sx"
        refine ⟨G9, v2, ed, am, decide (V.bl x1.2.1 = V.bl ah), rfl, n9.gh, dv2, ?_⟩
        have ebo : decide (V.bl x1.2.1 = V.bl ah) = (x1.2.1 == ah) := by cases x1.2.1 <;> cases ah <;> rfl
        rw [ebo, ← lft_at hed ham]
        walk_at "sx"
        refine g_dec (fun hpos => ?_) (fun hneg => ?_) <;> walk_at "sx"
        rotate_left
        · exact ⟨G9, n79, md2, R2, _, _, _, rfl, hD9, hR9, B2, O2, hk2, hr2, hml2, hku2, clo md2 (fun _ h => h) fun h => absurd h hneg⟩
        refine g_dcGet hD9 (k := Sum.inl (u : Int)) (dx := .int (ku : Int)) rfl (by rw [gt_dst, hku2]; rfl) fun v4 dv4 => ?_
        cases dp_int dv4
        walk_at "sx"
        have B3 := B2.add ok hku2 hx1m hno2 hpos
        have l3 := B3.len
        rw [List.length_append] at l3
        refine g_dcPut n9.gh hD9 (k := Sum.inl (x1.2.2 : Int)) (dx := .int ((ku : Int) + 1)) rfl (.int _) (by unfold dstM; rw [List.length_map]; simp at l3; omega) fun H10 n10 hD10 => ?_
        rw [show ((ku : Int) + 1) = ((ku + 1 : Nat) : Int) by omega, pt_dst hno2] at hD10
        walk_at "sx"
        have hR10 := hR9.go n10 (by simp [rD])
        refine g_tyLs hR10 ?_
        walk_at "sx"
        refine g_appLs (d := .int (x1.2.2 : Int)) n10.gh hR10 (.int _) (by rw [List.length_map]; simp at l3; omega) fun H11 n11 hR11 => ?_
        have hD11 := hD10.go n11 (by simp [rD.symm])
        have n911 : Nx [D, r] G9 H9 G9 H11 := (n10.mono (by simp)).trans (n11.mono (by simp))
        have up : ∀ v, v ∈ md2.map (·.1) → v ∈ (md2 ++ [(x1.2.2, ku + 1)]).map (·.1) := fun v h => by rw [List.map_append]; exact List.mem_append_left _ h
        refine ⟨G9, n79.trans n911, md2 ++ [(x1.2.2, ku + 1)], R2 ++ [x1.2.2], _, _, _, rfl, hD11, by simpa using hR11, B3, O2.add, fun v h => up v (hk2 v h), fun v h => ?_, by simp; omega, by rw [gt_snoc, hku2]; rfl, clo _ up fun _ => by simp⟩
        rcases List.mem_append.mp h with h | h
        · exact up v (hr2 v h)
        · simp only [List.mem_cons, List.not_mem_nil, or_false] at h
          subst h
          simp
      · rintro σ' G8 H8 n8 ⟨md2, R2, z9, z10, z11, rfl, hD8, hR8, B2, O2, hk2, hr2, hml2, hku2, hcl⟩
        rw [List.length_map, List.take_length] at hcl
        refine ⟨G8, n67.trans n8, md2, R2, _, _, _, _, rfl, hD8, hR8, B2, fun w k hw hf x hx hl => ?_, hk2, hr2, hml2⟩
        by_cases e2 : w = u
        · subst e2
          exact hcl x hx hl
        · refine O2 w k hw (fun z => hf ?_) x hx hl
          rcases List.mem_append.mp z with z | z
          · rw [List.drop_eq_getElem_cons hui] at z
            rcases List.mem_cons.mp z with z | z
            · exact absurd (z.trans (by have := (List.getElem?_eq_some_iff.mp hu).2; exact this)) e2
            · exact List.mem_append_left _ z
          · exact List.mem_append_right _ z
    · rintro σ' G6 H6 n6 ⟨md1, R1, z8, z9, z10, z11, rfl, hD6, hR6, B1, O1, hk1, hr1, hml1⟩
      rw [List.length_map, List.drop_length, List.nil_append] at O1
      walk_at "sx"
      have l1 := B1.len
      refine ⟨2 * (n - md1.length) + (if R1 = [] then 0 else 1), ?_, G6, r, md1, R1, _, _, _, _, _, rfl, (n45.pure.trans n6).sub (by simp [hD0, hr00]), hD6, hR6, rD.symm, B1, O1, hr1, Nat.le_refl _⟩
      by_cases hR : R1 = []
      · subst hR
        simp at hml1 ⊢
        omega
      · rw [if_neg hR]
        have : 0 < R1.length := List.length_pos_iff.mpr hR
        omega
theorem lftAt_off {es : List Edg} {fl : List Int} {i : Nat} {f : Bool} {e : Edg} {a : Int} (h1 : es[i]? = some e) (h2 : fl[i]? = some a) : lft e a f = lftAt es fl i f := (lft_at h1 h2).symm
def sp__send (K : PySem.W.Frag) : Sp := fun vs H Q _ => ∃ G G0 H0 wa ev fa way es fl, vs = [.ref wa, ev, .ref fa] ∧ LsV K ev G0 H0 (es.map edD) ∧ Nx [] G0 H0 G H ∧ H0 fa = none ∧ LstAt K wa G H (way.map nsD) ∧ LstAt K fa G H (fl.map .int) ∧ wa ≠ fa ∧ es.length ≤ 1000 ∧ way.length ≤ 1000 ∧ way ≠ [] ∧ fl.length = es.length ∧ (∀ w ∈ way, w.1 < es.length) ∧
  ∀ amt G' H', Nx [fa] G H G' H' → LstAt K fa G' H' ((sendW amt fl way).map .int) → (∀ w ∈ way, amt ≤ lftAt es fl w.1 w.2.1) → (∃ w ∈ way, lftAt es fl w.1 w.2.1 = amt) → Q .non H'
theorem ok__send (T : Tx fa fn bx K mg) : FnOk P w K mg base CX0 2 (He.ga K "_send") (fdOf K (He.ga K "_send")) ["way", "edges", "flow"] (sp__send K) := by
  refine FunD.ok (F__send T) sc__send (fun vs H Q E h => ?_) (fun cdv A outer s H vs Q E hr h => ?_)
  · obtain ⟨_, _, _, _, _, _, _, _, _, rfl, _⟩ := h
    rfl
  · obtain ⟨G, G0, H0, wa, ev, fa, way, es, fl, rfl, hE, n0, hf0, hW, hF, hne, el, wl, w1, hlen, hin, q⟩ := h
    refine ⟨_, PSs.nox ((pss_cons (ps_set (i := 3) sc__send.nd rfl (Or.inl rfl) (pe_callB (Y.cr_minK (K := K) rfl rfl) (by rfl) (T.free 7) (by decide +kernel) (pa_cons (pe_lc (own := [("number", 4), ("forward", 5), ("_", 6)]) (tt := tYes) rfl sc__send.nd (Y.pi_listK (K := K) rfl (pv 0)) (blkOk_by (own := [("number", 4), ("forward", 5), ("_", 6)]) (by kernel_rfl)) (fun _ _ _ _ _ => (Y.pg_tupK (K := K) (n := 3) rfl rfl (pgs_cons (pg_name (i := 4) sc__send.nd rfl (Or.inl rfl)) (pgs_cons (pg_name (i := 5) sc__send.nd rfl (Or.inl rfl)) (pgs_cons (pg_name (i := 6) sc__send.nd rfl (Or.inl rfl)) pgs_nil))))) (fun _ _ _ _ _ => pts_nil) (fun _ _ _ _ _ => (Y.pe_callC (ok__left T) (cal__left T) (hr.mono (by decide)) (by rfl) pass0 (pa_cons (pe_ix (Y.ix_listK (K := K) rfl) (pv 1) (pv 4) (fun _ _ => rfl)) (pa_cons (pe_ix (Y.ix_listK (K := K) rfl) (pv 2) (pv 4) (fun _ _ => rfl)) (pa_cons (pv 5) pa_nil)))))) pa_nil)))
      (pss_one (ps_for PassesOwn.never rfl (Y.pi_listK (K := K) rfl (pv 0)) (Y.pg_tupK (K := K) (n := 3) rfl rfl (pgs_cons (pg_name (i := 4) sc__send.nd rfl (Or.inl rfl)) (pgs_cons (pg_name (i := 5) sc__send.nd rfl (Or.inl rfl)) (pgs_cons (pg_name (i := 6) sc__send.nd rfl (Or.inl rfl)) pgs_nil))))
      (pss_one (ps_augS (pv 2) (pv 4) (Y.get_list (K := K) rfl) (pe_ifExp (pt_val (pv 5)) (pv 3) (pe_un un_neg (pv 3))) ip_add set_list)))))), ?_⟩
    walk_at "sx"
    have hE0 := hE.go0 n0
    refine g_walkLs hW fun S => ?_
    intro A hA
    refine g_lcPS (K := K) (M := []) (es := fun i => ((way.take i).map fun w => lftAt es fl w.1 w.2.1).map .int) (S [] (by simp)) n0.gh hA (by simp) (by rw [List.length_map]; exact szl (by omega)) (by simp) (fun i d v1 acc G1 H1 hi d1 n1 _ QE QN k1 k2 => ?_) fun G1 H1 n1 hL => ?_
    · rw [List.getElem?_map] at hi
      obtain ⟨w, hw, rfl⟩ := Option.map_eq_some_iff.mp hi
      have hwm := List.mem_of_getElem? hw
      have hwi := hin w hwm
      obtain ⟨ed, hed⟩ : ∃ ed, es[w.1]? = some ed := ⟨es[w.1], by simp [hwi]⟩
      obtain ⟨am, ham⟩ := fl_at hlen hed
      refine g_un3 n1.gh d1 fun u1 u2 u3 e1 e2 e3 => ?_
      cases dp_int e1
      cases dp_bl e2
      cases dp_int e3
      refine ⟨by first | rfl | exact wipe1, ?_⟩
      walk_at "sx"
      refine g_ixV (k := w.1) n1.gh (hE0.go0 n1) (d := edD ed) (by simp [hed]) rfl fun v2 dv2 => ?_
      walk_at "sx"
      refine g_ixLs (hF.go n1 (by simp)) (k := w.1) (d := .int am) (by simp [ham]) rfl fun v3 dv3 => ?_
      cases dp_int dv3
      walk_at "sx"
      refine ⟨G1, v2, ed, am, w.2.1, rfl, n1.gh, dv2, ?_⟩
      rw [lftAt_off hed ham]
      refine k1 _ G1 H1 _ (Nx.refl n1.gh) (.int _) ?_
      show List.map _ _ = List.map _ _ ++ _
      rw [List.take_add_one, hw, List.map_append, List.map_append]
      rfl
    rw [List.length_map, List.take_length] at hL
    have hF1 := hF.go n1 (by simp)
    have hW1 := hW.go n1 (by simp)
    walk_at "sx"
    refine ⟨A, way.map fun w => lftAt es fl w.1 w.2.1, rfl, .of (LstAt.ints hL), by rw [List.length_map]; exact List.length_pos_iff.mpr w1, fun amt ham hle => ?_⟩
    walk_at "sx"
    refine g_walkLs hW1 fun S2 => ?_
    refine g_forS (K := K) (M := [fa]) (S2 [fa] (by simp [hne])) n1.gh (fun i σ G' H' => ∃ y4 y5 y6, σ = [some (.ref wa), some ev, some (.ref fa), some (.int amt), y4, y5, y6] ∧ LstAt K fa G' H' ((sendW amt fl (way.take i)).map .int)) ⟨_, _, _, rfl, hF1⟩ ?_ ?_
    · rintro i w x σ' G2 H2 G3 H3 hi n2 ⟨y4, y5, y6, rfl, hF2⟩ n3 dx
      rw [List.getElem?_map] at hi
      obtain ⟨w, hw, rfl⟩ := Option.map_eq_some_iff.mp hi
      have hwm := List.mem_of_getElem? hw
      have hwi := hin w hwm
      have hF3 := hF2.go n3 (by simp)
      have hsl : (sendW amt fl (way.take i)).length = fl.length := send_len
      have hlt : w.1 < (sendW amt fl (way.take i)).length := by omega
      have hg : ((sendW amt fl (way.take i)).map PyData.int)[w.1]? = some (.int (((sendW amt fl (way.take i))[w.1]?).getD 0)) := by simp [hlt]
      have hput : sendW amt fl (way.take (i + 1)) = (sendW amt fl (way.take i)).set w.1 (((sendW amt fl (way.take i))[w.1]?).getD 0 + if w.2.1 = true then amt else -amt) := by
        rw [List.take_add_one, hw]
        exact send_snoc
      refine g_un3 n3.gh dx fun u1 u2 u3 e1 e2 e3 => ?_
      cases dp_int e1
      cases dp_bl e2
      cases dp_int e3
      walk_at "sx"
      refine g_getLs hF3 hg rfl fun v4 dv4 => ?_
      cases dp_int dv4
      walk_at "sx"
      refine g_bool (fun hb => ?_) (fun hb => ?_) <;> walk_at "sx"
      · refine g_setLs n3.gh hF3 (d := .int _) (.int _) (k := w.1) rfl (by rw [List.length_map]; exact hlt) fun H4 n4 hF4 => ?_
        refine ⟨G3, (n2.trans n3.pure).trans n4, _, _, _, rfl, ?_⟩
        rw [hput, hb, if_pos rfl, List.map_set]
        exact hF4
      · refine g_setLs n3.gh hF3 (d := .int _) (.int _) (k := w.1) rfl (by rw [List.length_map]; exact hlt) fun H4 n4 hF4 => ?_
        refine ⟨G3, (n2.trans n3.pure).trans n4, _, _, _, rfl, ?_⟩
        rw [hput, hb, if_neg (by simp), List.map_set]
        exact hF4
    · rintro σ' G2 H2 n2 ⟨y4, y5, y6, rfl, hF2⟩
      rw [List.length_map, List.take_length] at hF2
      walk_at "sx"
      refine q amt G2 H2 (n1.pure.trans n2) hF2 (fun w hw => hle _ (List.mem_map_of_mem (f := fun w : NStp => lftAt es fl w.1 w.2.1) hw)) ?_
      obtain ⟨w, hw, e⟩ := List.mem_map.mp ham
      exact ⟨w, hw, e⟩
theorem g_orShare {c : Bool} {B E C : Prop} (cond : Prop) (hC : c = false → (cond → B) → C) (h1 : c = true → cond) (hB : cond → B) : if c = true then (if true = true then B else E) else C := by
  cases c with
  | false => exact hC rfl hB
  | true => exact hB (h1 rfl)
theorem g_ifP {c : TT} {t e : TS} {D : Ends} {σ : L2.St} {H : Hp} (b : Bool) (h : ∀ R : Bool → Hp → Prop, R b H → c σ H R) (q : if b = true then t D σ H else e D σ H) : tIfS c t e D σ H := h _ q
theorem rep_flat {d : PyData} : ∀ {n : Nat}, (List.replicate n [d]).flatten = List.replicate n d
  | 0 => rfl
  | n + 1 => by rw [List.replicate_succ, List.flatten_cons, rep_flat, List.replicate_succ]; rfl
theorem tr_rep {n v : Nat} : trAt (List.replicate n 0) v = 0 := by
  unfold trAt
  rw [List.getElem?_replicate]
  by_cases h : v < n <;> simp [h]
def sp__send_all (K : PySem.W.Frag) : Sp := fun vs H Q _ => ∃ G G0 H0 D sr ev fa, ∃ n : Nat, ∃ es fl md, vs = [.ref D, sr, ev, .ref fa] ∧ LsV K ev G0 H0 (es.map edD) ∧ Nx [] G0 H0 G H ∧ H0 fa = none ∧ Dp K G sr (stepsD n es) ∧ DctAt K D G H (dstM md) ∧ LstAt K fa G H (fl.map .int) ∧ D ≠ fa ∧ NetOk n es ∧ IsFl n es fl ∧ BfsC n es fl true 0 md ∧ gtM md 1 ≠ none ∧
  ∀ G' H' fl', Nx [fa] G H G' H' → LstAt K fa G' H' (fl'.map .int) → IsFl n es fl' → netAt es fl 0 < netAt es fl' 0 → Q .non H'
theorem ok__send_all (T : Tx fa fn bx K mg) : FnOk P w K mg base CX0 3 (He.ga K "_send_all") (fdOf K (He.ga K "_send_all")) ["distances", "steps", "edges", "flow"] (sp__send_all K) := by
  refine FunD.ok (F__send_all T) sc__send_all (fun vs H Q E h => ?_) (fun cdv A outer s H vs Q E hr h => ?_)
  · obtain ⟨_, _, _, _, _, _, _, _, _, _, _, rfl, _⟩ := h
    rfl
  · obtain ⟨G, G0, H0, D, sr, ev, fa, n, es, fl, md, rfl, hE, n0, hf0, hS, hD, hF, hne, ok, F0, B, h1, q⟩ := h
    refine ⟨_, PSs.nox ((pss_cons (ps_set (i := 4) sc__send_all.nd rfl (Or.inl rfl) (pe_op op_rep (pe_lst (pa_cons pe_int pa_nil)) (pe_callB (Y.call_lenK (K := K) rfl) (by rfl) (T.free 8) (by decide +kernel) (pa_cons (pv 1) pa_nil))))
      (pss_cons (ps_set (i := 5) sc__send_all.nd rfl (Or.inl rfl) (pe_lst pa_nil))
      (pss_cons (ps_set (i := 6) sc__send_all.nd rfl (Or.inl rfl) (pe_gint (T.int 9)))
      (pss_one (ps_while PassesOwn.never (PW.pt (pw_or (pt_cmpR op_ne (pv 6) (pe_gint (T.int 9)) (nomark _)) (pw_or1 (pt_cmpR op_lt (pe_ix (Y.ix_listK (K := K) rfl) (pv 4) (pv 6) (fun _ _ => rfl)) (pe_callB (Y.call_lenK (K := K) rfl) (by rfl) (T.free 8) (by decide +kernel) (pa_cons (pe_ix (Y.ix_listK (K := K) rfl) (pv 1) (pv 6) (fun _ _ => rfl)) pa_nil)) (nomark _)))))
      (pss_one (ps_if (pt_cmpR op_eq (pv 6) (pe_gint (T.int 10)) (nomark _))
      (pss_cons (ps_expr (Y.pe_callC (ok__send T) (cal__send T) (hr.mono (by decide)) (by rfl) pass0 (pa_cons (pv 5) (pa_cons (pv 2) (pa_cons (pv 3) pa_nil)))))
      (pss_cons (ps_set (i := 5) sc__send_all.nd rfl (Or.inl rfl) (pe_lst pa_nil))
      (pss_one (ps_set (i := 6) sc__send_all.nd rfl (Or.inl rfl) (pe_gint (T.int 9))))))
      (pss_one (ps_if (pt_cmpR op_eq (pe_ix (Y.ix_listK (K := K) rfl) (pv 4) (pv 6) (fun _ _ => rfl)) (pe_callB (Y.call_lenK (K := K) rfl) (by rfl) (T.free 8) (by decide +kernel) (pa_cons (pe_ix (Y.ix_listK (K := K) rfl) (pv 1) (pv 6) (fun _ _ => rfl)) pa_nil)) (nomark _))
      (pss_cons (ps_asg (Y.pe_bm0K (K := K) rfl PySem.F.plainAttrs_list PySem.F.slot_list_pop PySem.F.type_list_pop mt_pop (pv 5)) (Y.pg_tupK (K := K) (n := 3) rfl rfl (pgs_cons (pg_name (i := 7) sc__send_all.nd rfl (Or.inl rfl)) (pgs_cons (pg_name (i := 7) sc__send_all.nd rfl (Or.inl rfl)) (pgs_cons (pg_name (i := 6) sc__send_all.nd rfl (Or.inl rfl)) pgs_nil)))))
      (pss_one (ps_augS (pv 4) (pv 6) (Y.get_list (K := K) rfl) pe_int ip_add set_list)))
      (pss_cons (ps_asg (pe_ix (Y.ix_listK (K := K) rfl) (pe_ix (Y.ix_listK (K := K) rfl) (pv 1) (pv 6) (fun _ _ => rfl)) (pe_ix (Y.ix_listK (K := K) rfl) (pv 4) (pv 6) (fun _ _ => rfl)) (fun _ _ => rfl)) (Y.pg_tupK (K := K) (n := 3) rfl rfl (pgs_cons (pg_name (i := 8) sc__send_all.nd rfl (Or.inl rfl)) (pgs_cons (pg_name (i := 9) sc__send_all.nd rfl (Or.inl rfl)) (pgs_cons (pg_name (i := 10) sc__send_all.nd rfl (Or.inl rfl)) pgs_nil)))))
      (pss_one (ps_if (PW.pt (pw_and (pt_cmpR (Y.op_eqDK (K := K) rfl hr.units) (pe_dget1 (hu_of hr) (pv 0) (pv 10) ⟨rfl, rfl, rfl, rfl⟩) (pe_op op_add (pe_dget (hu_of hr) (pv 0) (pv 6) (fun _ _ => rfl)) pe_int) (nomark _)) (pw_and1 (pt_cmpR op_gt (Y.pe_callC (ok__left T) (cal__left T) (hr.mono (by decide)) (by rfl) pass0 (pa_cons (pe_ix (Y.ix_listK (K := K) rfl) (pv 2) (pv 8) (fun _ _ => rfl)) (pa_cons (pe_ix (Y.ix_listK (K := K) rfl) (pv 3) (pv 8) (fun _ _ => rfl)) (pa_cons (pv 9) pa_nil)))) pe_int (nomark _)))))
      (pss_cons (ps_expr (Y.pe_bmK (K := K) rfl PySem.F.plainAttrs_list PySem.F.slot_list_append PySem.F.type_list_append mt_append (pv 5) (pa_cons (pe_tup (pa_cons (pv 8) (pa_cons (pv 9) (pa_cons (pv 6) pa_nil)))) pa_nil)))
      (pss_one (ps_set (i := 6) sc__send_all.nd rfl (Or.inl rfl) (pv 10))))
      (pss_one (ps_augS (pv 4) (pv 6) (Y.get_list (K := K) rfl) pe_int ip_add set_list))))))))))))))), ?_⟩
    have nl := ok.nl
    have n2 := ok.two
    have el := ok.len
    walk_at "sx"
    refine g_lstLs (K := K) (L := [.int 0]) n0.gh (.cons (.int _) .nil) (by show 1 ≤ 100000; decide) fun z0 H1 n1 hz0 hLz => ?_
    walk_at "sx"
    refine g_lenL n1.gh (dp_mono n1.gg hS) ?_
    rw [List.length_map, List.length_range]
    refine g_repLs n1.gh hLz (by omega) (by omega) (by show 1 ≤ 100; decide) fun ta H2 n2' hta hLt => ?_
    have htr : (List.replicate (n : Int).toNat [PyData.int 0]).flatten = (List.replicate n (0 : Int)).map .int := by
      rw [show ((n : Int)).toNat = n by omega, rep_flat, List.map_replicate]
    rw [htr] at hLt
    walk_at "sx"
    have n12 := n1.trans n2'
    refine g_lstLs (K := K) (L := []) n12.gh .nil (Nat.zero_le _) fun w0 H3 n3 hw0 hLw => ?_
    walk_at "sx"
    have n13 := n12.trans n3
    have hLt3 := hLt.go n3 (by simp)
    have hta0 : H ta = none := n1.fresh hta
    have hw00 : H w0 = none := n12.fresh hw0
    have taw : ta ≠ w0 := fun z => hLt.live (z ▸ hw0)
    have hD3 := hD.go n13 (by simp)
    have hF3 := hF.go n13 (by simp)
    have taF : ta ≠ fa := fun z => hF.live (z ▸ hta0)
    have taD : ta ≠ D := fun z => by obtain ⟨_, h, _⟩ := hD; rw [← z, hta0] at h; cases h
    have hst : gtM md 0 = some 0 := B.st
    refine g_while (mAll n md es fl (List.replicate n 0) []) (fun m σ H' => ∃ G' wa, ∃ v : Nat, ∃ fl' tr way y7 y8 y9 y10, σ = [some (.ref D), some sr, some ev, some (.ref fa), some (.ref ta), some (.ref wa), some (.int (v : Int)), y7, y8, y9, y10] ∧ Nx [fa] G H G' H' ∧ H wa = none ∧ ta ≠ wa ∧ DctAt K D G' H' (dstM md) ∧ LstAt K fa G' H' (fl'.map .int) ∧ LstAt K ta G' H' (tr.map fun (k : Nat) => PyData.int (k : Int)) ∧ LstAt K wa G' H' (way.map nsD) ∧ IsFl n es fl' ∧ WayOk n md es fl' tr way v ∧ TrOk n es tr ∧ ((fl' = fl ∧ Dead md es fl tr) ∨ netAt es fl 0 < netAt es fl' 0) ∧ m = mAll n md es fl' tr way) ⟨G, w0, 0, fl, List.replicate n 0, [], _, _, _, _, rfl, n13.pure, hw00, taw, hD3, hF3, by simpa using hLt3, hLw, F0, WayOk.start hst, ?_, .inl ⟨rfl, ?_⟩, rfl⟩ ?_
    · exact ⟨by simp, fun v hv => by rw [tr_rep]; exact Nat.zero_le _, tr_rep⟩
    · intro u j x hj
      rw [tr_rep] at hj
      exact absurd hj (Nat.not_lt_zero _)
    rintro m σ' H4 ⟨G4, wa, v, fl1, tr, way, y7, y8, y9, y10, rfl, n4, hwa, tw, hD4, hF4, hT4, hW4, F1, W, TR, hdis, rfl⟩
    have vn : v < n := B.lt _ (gtN_mem W.dst)
    have trv : tr[v]? = some (trAt tr v) := by unfold trAt; simp [TR.len, vn]
    have n04 : Nx [] G0 H0 G4 H4 := (n0.pure.trans n4).sub (by simp [hf0])
    have hE4 := hE.go0 n04
    have hS4 : Dp K G4 sr (stepsD n es) := dp_mono n4.gg hS
    have waF : wa ≠ fa := fun z => hF.live (z ▸ hwa)
    have waD : wa ≠ D := fun z => by obtain ⟨_, h, _⟩ := hD; rw [← z, hwa] at h; cases h
    walk_at "sx"
    refine g_orShare (v ≠ 0 ∨ trAt tr v < (nsOf es v).length) (fun hz hb => ?_) (fun hz => .inl fun z => ?_) (fun hc => ?_)
    · have hv0 : v = 0 := by
        simp at hz
        exact hz
      subst hv0
      walk_at "sx"
      refine g_ixLs (k := 0) hT4 (d := .int (trAt tr 0 : Int)) (by rw [List.getElem?_map, trv]; rfl) rfl fun v1 dv1 => ?_
      cases dp_int dv1
      walk_at "sx"
      refine g_ixL (k := 0) n4.gh hS4 (d := .list ((nsOf es 0).map nsD)) (by simp [vn]) rfl fun v2 dv2 => ?_
      walk_at "sx"
      refine g_lenL n4.gh dv2 ?_
      rw [List.length_map]
      walk_at "sx"
      refine g_dec (fun h => hb (.inr (by omega))) (fun h => ?_)
      walk_at "sx"
      rcases hdis with ⟨rfl, dd⟩ | hgr
      · exact absurd (dead_end ok B.toBfs TR dd (by have := TR.le 0 vn; omega)) h1
      · exact q G4 H4 fl1 n4 hF4 F1 hgr
    · subst z
      simp at hz
    refine g_whN ?_
    walk_at "sx"
    have wlen := W.len B.toBfs
    refine g_dec (fun hv1 => ?_) (fun hv1 => ?_)
    · have ev1 : v = 1 := by omega
      subst ev1
      have wne : way ≠ [] := by
        rintro rfl
        have := B.st0 1 W.dst
        omega
      have cin := chn_in ok (by omega) W.chn
      walk_at "sx"
      refine ⟨G4, G0, H0, wa, ev, fa, way, es, fl1, rfl, hE, n04, hf0, hW4, hF4, waF, by omega, by omega, wne, F1.len, fun w hw => (cin.2 w hw).1, fun amt G5 H5 n5 hF5 hle hex => ?_⟩
      have hpos : 0 < amt := by
        obtain ⟨w, hw, rfl⟩ := hex
        obtain ⟨k, hk⟩ := List.getElem?_of_mem hw
        obtain ⟨i, f, u⟩ := w
        obtain ⟨_, _, _, _, _, h⟩ := W.stp k i f u hk
        exact h
      walk_at "sx"
      refine g_lstLs (K := K) (L := []) n5.gh .nil (Nat.zero_le _) fun w5 H6 n6 hw5 hLw5 => ?_
      walk_at "sx"
      have n46 := n5.trans n6.pure
      refine ⟨mAll n md es (sendW amt fl1 way) tr [], mAll_send B.toBfs ok F1.len W (by omega) hle hex, G5, w5, 0, sendW amt fl1 way, tr, [], _, _, _, _, rfl, n4.trans n46, n4.fresh (n5.fresh hw5), fun z => (hT4.go n5 (by simp [taF])).live (z ▸ hw5), hD4.go n46 (by simp [hne]), hF5.go n6 (by simp), hT4.go n46 (by simp [taF]), hLw5, send_flow ok F1 W.chn (W.nd) (by omega) hle (fun w hw => (cin.2 w hw).1), WayOk.start hst, TR, .inr ?_, rfl⟩
      have hnet := net_send (amt := amt) (v := 0) F1.len W.chn
      rw [if_pos rfl, if_neg (by decide)] at hnet
      rcases hdis with ⟨rfl, _⟩ | hgr <;> omega
    have hv1' : v ≠ 1 := fun z => hv1 (by omega)
    walk_at "sx"
    refine g_ixLs (k := v) hT4 (d := .int (trAt tr v : Int)) (by rw [List.getElem?_map, trv]; rfl) rfl fun v1 dv1 => ?_
    cases dp_int dv1
    walk_at "sx"
    refine g_ixL (k := v) n4.gh hS4 (d := .list ((nsOf es v).map nsD)) (by simp [vn]) rfl fun v2 dv2 => ?_
    walk_at "sx"
    refine g_lenL n4.gh dv2 ?_
    rw [List.length_map]
    walk_at "sx"
    refine g_dec (fun hful => ?_) (fun hful => ?_) <;> walk_at "sx"
    · have hful' : trAt tr v = (nsOf es v).length := by omega
      have wne : way ≠ [] := by
        rintro rfl
        have := B.st0 v W.dst
        rcases hc with hc | hc <;> omega
      obtain ⟨way', ⟨i0, f0, u⟩, rfl⟩ : ∃ way' w, way = way' ++ [w] := ⟨way.dropLast, way.getLast wne, (List.dropLast_concat_getLast wne).symm⟩
      refine g_tyLs hW4 ?_
      rw [List.map_append] at hW4
      refine g_popLs n4.gh hW4 fun v3 H5 dv3 n5 hW5 => ?_
      walk_at "sx"
      refine g_un3 n5.gh dv3 fun u1 u2 u3 e1 e2 e3 => ?_
      cases dp_int e1
      cases dp_bl e2
      cases dp_int e3
      walk_at "sx"
      have un : u < n := by
        obtain ⟨_, h, _⟩ := W.stp way'.length i0 f0 u (by simp)
        exact B.lt _ (gtN_mem h)
      have hT5 := hT4.go n5 (by simp [tw])
      have tru : tr[u]? = some (trAt tr u) := by unfold trAt; simp [TR.len, un]
      obtain ⟨W2, hu1, hult, x, hx, hxv⟩ := W.pop (by rw [TR.len]; exact un)
      refine g_getLs (k := u) hT5 (d := .int (trAt tr u : Int)) (by rw [List.getElem?_map, tru]; rfl) rfl fun v4 dv4 => ?_
      cases dp_int dv4
      walk_at "sx"
      refine g_setLs n5.gh hT5 (d := .int ((trAt tr u : Int) + 1)) (.int _) (k := u) rfl (by rw [List.length_map, TR.len]; exact un) fun H6 n6 hT6 => ?_
      have n46 : Nx [ta, wa] G4 H4 G4 H6 := (n5.mono (by simp)).trans (n6.mono (by simp))
      have hne2 : x.2.2 ≠ u := (ns_in ok (List.mem_of_getElem? hx)).2.2.1
      refine ⟨mAll n md es fl1 (tr.set u (trAt tr u + 1)) way', mAll_bump TR un hult, G4, wa, u, fl1, tr.set u (trAt tr u + 1), way', _, _, _, _, rfl, (n4.mono (by simp)).trans (n46.mono (by simp)) |>.sub (M' := [fa, ta, wa]) (by simp [hta0, hwa]), hwa, tw, hD4.go n46 (by simp [taD.symm, waD.symm]), hF4.go n46 (by simp [taF.symm, waF.symm]), by rw [List.map_set]; exact hT6, hW5.go n6 (by simp [tw.symm]), F1, W2, TR.bump un hu1 hult, ?_, rfl⟩
      rcases hdis with ⟨e1, dd⟩ | hgr
      · exact .inl ⟨e1, dd.bump (by rw [TR.len]; exact un) hx (.inr (by rw [hxv]; exact hful')) hne2⟩
      · exact .inr hgr
    · have hlt : trAt tr v < (nsOf es v).length := by have := TR.le v vn; omega
      obtain ⟨x, hx⟩ : ∃ x, (nsOf es v)[trAt tr v]? = some x := ⟨(nsOf es v)[trAt tr v], by simp [hlt]⟩
      have hxm := List.mem_of_getElem? hx
      obtain ⟨_, bo, hne2, bn⟩ := ns_in ok hxm
      refine g_ixL (k := v) n4.gh hS4 (d := .list ((nsOf es v).map nsD)) (by simp [vn]) rfl fun v3 dv3 => ?_
      walk_at "sx"
      refine g_ixLs (k := v) hT4 (d := .int (trAt tr v : Int)) (by rw [List.getElem?_map, trv]; rfl) rfl fun v4 dv4 => ?_
      cases dp_int dv4
      refine g_ixL (k := trAt tr v) n4.gh dv3 (d := nsD x) (by rw [List.getElem?_map, hx]; rfl) rfl fun v5 dv5 => ?_
      refine g_un3 n4.gh dv5 fun u1 u2 u3 e1 e2 e3 => ?_
      cases dp_int e1
      cases dp_bl e2
      cases dp_int e3
      dsimp only
      refine g_ifP (admB md es fl1 v x) (fun R hR => ?_) ?_
      · walk_at "sx"
        refine g_dg1W hD4 ?_
        walk_at "sx"
        refine g_dgO hD4 (k := Sum.inl (x.2.2 : Int)) rfl (fun z v6 hg dv6 => ?_) (fun hg => ?_) <;> walk_at "sx"
        · rw [gt_dst] at hg
          obtain ⟨k, hk, rfl⟩ := Option.map_eq_some_iff.mp hg
          cases dp_int dv6
          refine g_dcGet hD4 (k := Sum.inl (v : Int)) (dx := .int (way.length : Int)) rfl (by rw [gt_dst, W.dst]; rfl) fun v7 dv7 => ?_
          cases dp_int dv7
          walk_at "sx"
          refine g_eqD (K := K) (d := .int (k : Int)) (d' := .int ((way.length : Int) + 1)) n4.gh (.int _) (.int _) rfl rfl ?_
          have ee : PyData.eqv (.int (k : Int)) (.int ((way.length : Int) + 1)) = decide (k = way.length + 1) := by
            show ((k : Int) == (way.length : Int) + 1) = _
            by_cases h : k = way.length + 1
            · rw [decide_eq_true h, h]; simp
            · rw [decide_eq_false h]
              exact beq_eq_false_iff_ne.mpr (by omega)
          rw [ee]
          refine ⟨_, rfl, ?_⟩
          refine g_dec (fun hk1 => ?_) (fun hk1 => ?_)
          rotate_left
          · have : admB md es fl1 v x = false := by
              unfold admB
              rw [W.dst]
              simp only [hk, Option.some.injEq, hk1, decide_false, Bool.false_and]
            rw [← this]
            exact hR
          walk_at "sx"
          obtain ⟨ed, hed⟩ : ∃ ed, es[x.1]? = some ed := ⟨es[x.1], by simp [bn]⟩
          obtain ⟨am, ham⟩ := fl_at F1.len hed
          refine g_ixV (k := x.1) n4.gh hE4 (d := edD ed) (by simp [hed]) rfl fun v8 dv8 => ?_
          walk_at "sx"
          refine g_ixLs (k := x.1) hF4 (d := .int am) (by simp [ham]) rfl fun v9 dv9 => ?_
          cases dp_int dv9
          walk_at "sx"
          refine ⟨G4, v8, ed, am, x.2.1, rfl, n4.gh, dv8, ?_⟩
          rw [← lft_at hed ham]
          walk_at "sx"
          have : admB md es fl1 v x = decide (0 < lftAt es fl1 x.1 x.2.1) := by
            unfold admB
            rw [W.dst]
            simp only [hk, hk1, decide_true, Bool.true_and]
          rw [← this]
          exact hR
        · rw [gt_dst] at hg
          have hg' : gtM md x.2.2 = none := by simpa using hg
          refine g_dcGet hD4 (k := Sum.inl (v : Int)) (dx := .int (way.length : Int)) rfl (by rw [gt_dst, W.dst]; rfl) fun v7 dv7 => ?_
          cases dp_int dv7
          walk_at "sx"
          refine g_eqD (K := K) (d := .none) (d' := .int ((way.length : Int) + 1)) n4.gh .non (.int _) rfl rfl ?_
          refine ⟨false, rfl, ?_⟩
          refine g_bool (fun z => nomatch z) (fun _ => ?_)
          have : admB md es fl1 v x = false := by
            unfold admB
            rw [W.dst]
            simp [hg']
          rw [← this]
          exact hR
      refine g_bool (fun had => ?_) (fun had => ?_) <;> walk_at "sx"
      · refine g_tyLs hW4 ?_
        walk_at "sx"
        refine g_tupD (K := K) n4.gh (.cons (.int _) (.cons (.bl _) (.cons (.int _) .nil))) (by simp [sizeLine]) fun t1 G5 H5 n5 dt1 => ?_
        walk_at "sx"
        refine g_appLs n5.gh (hW4.go n5 (by simp)) (d := nsD (x.1, x.2.1, v)) dt1 (by rw [List.length_map]; omega) fun H6 n6 hW6 => ?_
        walk_at "sx"
        have n46 : Nx [wa] G4 H4 G5 H6 := n5.pure.trans n6
        refine ⟨mAll n md es fl1 tr (way ++ [(x.1, x.2.1, v)]), mAll_go (by omega), G5, wa, x.2.2, fl1, tr, way ++ [(x.1, x.2.1, v)], _, _, _, _, rfl, ((n4.mono (by simp)).trans (n46.mono (by simp))).sub (M' := [fa, wa]) (by simp [hwa]), hwa, tw, hD4.go n46 (by simp [waD.symm]), hF4.go n46 (by simp [waF.symm]), hT4.go n46 (by simp [tw]), by rw [List.map_append]; exact hW6, F1, W.go hv1' hx had, TR, hdis, rfl⟩
      · refine g_getLs (k := v) hT4 (d := .int (trAt tr v : Int)) (by rw [List.getElem?_map, trv]; rfl) rfl fun v4 dv4 => ?_
        cases dp_int dv4
        walk_at "sx"
        refine g_setLs n4.gh hT4 (d := .int ((trAt tr v : Int) + 1)) (.int _) (k := v) rfl (by rw [List.length_map, TR.len]; exact vn) fun H6 n6 hT6 => ?_
        refine ⟨mAll n md es fl1 (tr.set v (trAt tr v + 1)) way, mAll_bump TR vn hlt, G4, wa, v, fl1, tr.set v (trAt tr v + 1), way, _, _, _, _, rfl, ((n4.mono (by simp)).trans (n6.mono (by simp))).sub (M' := [fa, ta]) (by simp [hta0]), hwa, tw, hD4.go n6 (by simp [taD.symm]), hF4.go n6 (by simp [taF.symm]), by rw [List.map_set]; exact hT6, hW4.go n6 (by simp [tw.symm]), F1, W.bump (by rw [TR.len]; exact vn), TR.bump vn hv1' hlt, ?_, rfl⟩
        rcases hdis with ⟨e1, dd⟩ | hgr
        · exact .inl ⟨e1, dd.bump (by rw [TR.len]; exact vn) hx (.inl (by rw [← e1]; exact had)) hne2⟩
        · exact .inr hgr
theorem ok_Misused___init__ (T : Tx fa fn bx K mg) : FnOk P w K mg base CX0 1 (He.ma K (He.ga K "Misused") "__init__") (fdOf K (He.ma K (He.ga K "Misused") "__init__")) ["self", "why"] (spXi (He.ga K "Misused") "why") := by
  refine FunD.ok (F_Misused___init__ T) sc_Misused___init__ (fun vs H Q E h => ?_) (fun cdv A outer s H vs Q E hr h => ?_)
  · obtain ⟨_, _, rfl, _⟩ := h
    rfl
  · obtain ⟨a, v, rfl, ha, q⟩ := h
    refine ⟨_, PSs.nox ((pss_one (ps_ost (pv 0) (pv 1)))), ?_⟩
    exact ⟨_, rfl, _, rfl, a, _, rfl, (ex_Misused T).oex, (ex_Misused T).no, .inl ⟨ha, fun dx hd hne => q dx hd hne⟩⟩
def sp_check_net (K : PySem.W.Frag) : Sp := fun vs H Q E => ∃ G v c, ∃ L : List Tri, vs = [.int c, v] ∧ Y.Ex G H ∧ LsV K v G H (L.map triD) ∧
  (c < 2 → RaX (He.ga K "Misused") "why" (.str "nodes") G H E) ∧ (2 ≤ c → (∃ t ∈ L, okEdge c t = false) → RaX (He.ga K "Misused") "why" (.str "edge") G H E) ∧ (2 ≤ c → (∀ t ∈ L, okEdge c t = true) → ∀ G' H', Nx [] G H G' H' → Q .non H')
theorem ok_check_net (T : Tx fa fn bx K mg) : FnOk P w K mg base (L2.CX P w) 4 (He.ga K "check_net") (fdOf K (He.ga K "check_net")) ["count", "edges"] (sp_check_net K) := by
  refine FunD.ok (F_check_net T) sc_check_net (fun vs H Q E h => ?_) (fun cdv A outer s H vs Q E hr h => ?_)
  · obtain ⟨_, _, _, _, rfl, _⟩ := h
    rfl
  · obtain ⟨G, v, c, L, rfl, e, hL, q1, q2, q3⟩ := h
    refine ⟨_, ((pss_cons (ps_if (pt_cmpR op_lt (pv 0) (pe_gint (T.int 3)) (nomark _))
      (pss_one (Y.ps_raiseI (ex_Misused T) (T.glo 4) (ok_Misused___init__ T) (cal_Misused___init__ T).b (hr.mono (by decide)) (by rfl) rfl (takes_ofL (takesL_of (takes_of rfl rfl rfl rfl))) (by exact (pa_cons pe_str pa_nil))))
      pss_nil)
      (pss_one (ps_for PassesOwn.leaving rfl (Y.pi_listK (K := K) rfl (pv 1)) (pg_name (i := 2) sc_check_net.nd rfl (Or.inl rfl))
      (pss_one (ps_if (pt_not (pt_val (Y.pe_callC (ok__is_edge T) (cal__is_edge T) (hr.mono (by decide)) (by rfl) pass0 (pa_cons (pv 0) (pa_cons (pv 2) pa_nil)))))
      (pss_one (Y.ps_raiseI (ex_Misused T) (T.glo 4) (ok_Misused___init__ T) (cal_Misused___init__ T).b (hr.mono (by decide)) (by rfl) rfl (takes_ofL (takesL_of (takes_of rfl rfl rfl rfl))) (by exact (pa_cons pe_str pa_nil))))
      pss_nil)))))), ?_⟩
    walk_at "sx"
    refine g_dec (fun h1 => ?_) (fun h1 => ?_) <;> walk_at "sx"
    · exact ⟨_, rfl, fun dd hdd => (q1 h1).go (Nx.refl e) hdd⟩
    have h2 : 2 ≤ c := by omega
    refine g_walkVv e hL fun p ep S => ?_
    refine g_forS (K := K) (M := []) (S [] (by simp)) e (fun i σ G' H' => (∀ t ∈ L.take i, okEdge c t = true) ∧ ∃ y2, σ = [some (.int c), some v, y2]) ⟨by simp, _, rfl⟩ ?_ ?_
    · rintro i w x σ' G1 H1 G2 H2 hi n1 ⟨hall, y2, rfl⟩ n2 dx
      rw [List.getElem?_map] at hi
      obtain ⟨t, ht, rfl⟩ := Option.map_eq_some_iff.mp hi
      have tm := List.mem_of_getElem? ht
      have n12 := n1.trans n2
      walk_at "sx"
      refine ⟨G2, x, c, t, rfl, n2.gh, dx, ?_⟩
      refine ⟨_, rfl, ?_⟩
      refine g_nbool (fun h3 => ?_) (fun h3 => ?_) <;> walk_at "sx"
      · exact ⟨_, rfl, fun dd hdd => (q2 h2 ⟨t, tm, h3⟩).go n12 hdd⟩
      · refine ⟨G2, n12, fun t' ht' => ?_, _, rfl⟩
        rw [List.take_add_one, ht] at ht'
        rcases List.mem_append.mp ht' with ht' | ht'
        · exact hall t' ht'
        · simp only [Option.toList_some, List.mem_cons, List.not_mem_nil, or_false] at ht'
          subst ht'
          exact h3
    · rintro σ' G1 H1 n1 ⟨hall, y2, rfl⟩
      rw [List.length_map, List.take_length] at hall
      walk_at "sx"
      exact q3 h2 hall _ _ n1
def eT (e : Edg) : Tri := ((e.1 : Int), (e.2.1 : Int), e.2.2)
theorem eT_d {es : List Edg} : (es.map eT).map triD = es.map edD := by rw [List.map_map]; rfl
theorem eT_ok {n : Nat} {es : List Edg} (ok : NetOk n es) : ∀ t ∈ es.map eT, okEdge n t = true := by
  intro t ht
  obtain ⟨e, he, rfl⟩ := List.mem_map.mp ht
  obtain ⟨h1, h2, h3, h4⟩ := ok.ed e he
  have a1 : decide (0 ≤ (e.1 : Int) ∧ (e.1 : Int) ≤ (n : Int) - 1) = true := decide_eq_true ⟨by omega, by omega⟩
  have a2 : decide (0 ≤ (e.2.1 : Int) ∧ (e.2.1 : Int) ≤ (n : Int) - 1) = true := decide_eq_true ⟨by omega, by omega⟩
  have a3 : decide ((e.1 : Int) = (e.2.1 : Int)) = false := decide_eq_false (by omega)
  have a4 : decide (0 ≤ e.2.2) = true := decide_eq_true h4
  have ee : okEdge n (eT e) = (decide (0 ≤ (e.1 : Int) ∧ (e.1 : Int) ≤ (n : Int) - 1) && decide (0 ≤ (e.2.1 : Int) ∧ (e.2.1 : Int) ≤ (n : Int) - 1) && !decide ((e.1 : Int) = (e.2.1 : Int)) && decide (0 ≤ e.2.2)) := rfl
  rw [ee, a1, a2, a3, a4]
  rfl
theorem net_zero : ∀ {es : List Edg} {v : Nat}, netAt es (List.replicate es.length 0) v = 0
  | [], _ => rfl
  | e :: es, v => by
    show netAt (e :: es) (0 :: List.replicate es.length 0) v = 0
    rw [net_cons, net_zero]
    simp
theorem isFl_zero {n : Nat} {es : List Edg} (ok : NetOk n es) : IsFl n es (List.replicate es.length 0) where
  len := by simp
  cap := fun p hp => by
    obtain ⟨i, h1, h2⟩ := zip_of hp
    have := (ok.ed _ (List.mem_of_getElem? h1)).2.2.2
    rw [List.getElem?_replicate] at h2
    have h0 : p.2 = 0 := by
      by_cases hi : i < es.length
      · rw [if_pos hi] at h2
        exact (Option.some.inj h2).symm
      · rw [if_neg hi] at h2
        cases h2
    omega
  even := fun v _ _ => net_zero
def sp_greatest_flow (K : PySem.W.Frag) : Sp := fun vs H Q E => ∃ G v c, ∃ L : List Tri, vs = [.int c, v] ∧ Y.Ex G H ∧ LsV K v G H (L.map triD) ∧
  ((c < 2 ∧ RaX (He.ga K "Misused") "why" (.str "nodes") G H E) ∨ (2 ≤ c ∧ (∃ t ∈ L, okEdge c t = false) ∧ RaX (He.ga K "Misused") "why" (.str "edge") G H E) ∨ ∃ (n : Nat) (es : List Edg), c = (n : Int) ∧ L = es.map eT ∧ NetOk n es ∧ ∀ fa G' H' fl, Nx [] G H G' H' → H fa = none → LstAt K fa G' H' (fl.map .int) → IsFl n es fl → ¬ Rc es fl true 0 1 → Q (.ref fa) H')
theorem ok_greatest_flow (T : Tx fa fn bx K mg) : FnOk P w K mg base (L2.CX P w) 5 (He.ga K "greatest_flow") (fdOf K (He.ga K "greatest_flow")) ["count", "edges"] (sp_greatest_flow K) := by
  refine FunD.ok (F_greatest_flow T) sc_greatest_flow (fun vs H Q E h => ?_) (fun cdv A outer s H vs Q E hr h => ?_)
  · obtain ⟨_, _, _, _, rfl, _⟩ := h
    rfl
  · obtain ⟨G, v, c, L, rfl, e, hL, hq⟩ := h
    refine ⟨_, ((pss_cons (ps_expr (Y.pe_callC (ok_check_net T) (cal_check_net T) (hr.mono (by decide)) (by rfl) (passL (takesL_of (takes_of rfl rfl rfl rfl))) (pa_cons (pv 0) (pa_cons (pv 1) pa_nil))))
      (pss_cons (ps_set (i := 2) sc_greatest_flow.nd rfl (Or.inl rfl) (Y.pe_callC (ok__steps_at T) (cal__steps_at T) (hr.mono (by decide)) (by rfl) pass0 (pa_cons (pv 0) (pa_cons (pv 1) pa_nil))))
      (pss_cons (ps_set (i := 3) sc_greatest_flow.nd rfl (Or.inl rfl) (pe_op op_rep (pe_lst (pa_cons pe_int pa_nil)) (pe_callB (Y.call_lenK (K := K) rfl) (by rfl) (T.free 8) (by decide +kernel) (pa_cons (pv 1) pa_nil))))
      (pss_cons (ps_set (i := 4) sc_greatest_flow.nd rfl (Or.inl rfl) (Y.pe_callC (ok__distances T) (cal__distances T) (hr.mono (by decide)) (by rfl) pass0 (pa_cons (pe_gint (T.int 9)) (pa_cons pe_bl (pa_cons (pv 2) (pa_cons (pv 1) (pa_cons (pv 3) pa_nil)))))))
      (pss_cons (ps_while PassesOwn.leaving (pt_cmp (pc_din (hu_of hr) (pe_gint (T.int 10)) (pv 4)))
      (pss_cons (ps_expr (Y.pe_callC (ok__send_all T) (cal__send_all T) (hr.mono (by decide)) (by rfl) pass0 (pa_cons (pv 4) (pa_cons (pv 2) (pa_cons (pv 1) (pa_cons (pv 3) pa_nil))))))
      (pss_one (ps_set (i := 4) sc_greatest_flow.nd rfl (Or.inl rfl) (Y.pe_callC (ok__distances T) (cal__distances T) (hr.mono (by decide)) (by rfl) pass0 (pa_cons (pe_gint (T.int 9)) (pa_cons pe_bl (pa_cons (pv 2) (pa_cons (pv 1) (pa_cons (pv 3) pa_nil))))))))))
      (pss_one (ps_ret (pv 3))))))))), ?_⟩
    walk_at "sx"
    rcases hq with ⟨h1, hr⟩ | ⟨h1, h2, hr⟩ | ⟨n, es, rfl, rfl, ok, q⟩
    · exact ⟨G, v, c, L, rfl, e, hL, fun _ => hr, fun h => absurd h1 (by omega), fun h => absurd h1 (by omega)⟩
    · refine ⟨G, v, c, L, rfl, e, hL, fun h => absurd h1 (by omega), fun _ _ => hr, fun _ h => ?_⟩
      obtain ⟨t, ht, hf⟩ := h2
      rw [h t ht] at hf
      cases hf
    have n2 := ok.two
    have nl := ok.nl
    have el := ok.len
    refine ⟨G, v, n, es.map eT, rfl, e, hL, fun h => absurd n2 (by omega), fun _ ⟨t, ht, hf⟩ => (by rw [eT_ok ok t ht] at hf; cases hf), fun _ _ G1 H1 n1 => ?_⟩
    rw [eT_d] at hL
    walk_at "sx"
    refine ⟨G1, v, n, es, rfl, n1.gh, hL.go0 n1, ok, fun st G2 H2 n2' hS => ?_⟩
    walk_at "sx"
    have n02 := n1.trans n2'
    refine g_lstLs (K := K) (L := [.int 0]) n02.gh (.cons (.int _) .nil) (by show 1 ≤ 100000; decide) fun z0 H3 n3 hz0 hLz => ?_
    walk_at "sx"
    have n03 := n02.trans n3
    refine g_lenV n03.gh (hL.go0 n03) ?_
    rw [List.length_map]
    refine g_repLs n03.gh hLz (by omega) (by omega) (by show 1 ≤ 100; decide) fun fa H4 n4 hfa hF => ?_
    have hfl : (List.replicate (es.length : Int).toNat [PyData.int 0]).flatten = (List.replicate es.length (0 : Int)).map .int := by
      rw [show ((es.length : Int)).toNat = es.length by omega, rep_flat, List.map_replicate]
    rw [hfl] at hF
    walk_at "sx"
    have n04 := n03.trans n4
    have n24 := n3.trans n4
    have hf0 : H fa = none := n03.fresh hfa
    refine ⟨G2, st, v, .ref fa, n, 0, true, es, _, rfl, n04.gh, dp_mono n24.gg hS, hL.go0 n04, hF.lsv, ok, by simp, by omega, fun D G5 H5 md n5 hD0 hD B => ?_⟩
    walk_at "sx"
    have n05 := n04.trans n5
    have hF5 := hF.go n5 (by simp)
    have DF : D ≠ fa := fun z => hF.live (z ▸ hD0)
    refine g_while (sideCost es (fun v => decide (v = 0)) - netAt es (List.replicate es.length 0) 0).toNat (fun m σ H' => ∃ G' D fl md, σ = [some (.int (n : Int)), some v, some st, some (.ref fa), some (.ref D)] ∧ Nx [] G H G' H' ∧ Nx [fa] G2 H2 G' H' ∧ DctAt K D G' H' (dstM md) ∧ LstAt K fa G' H' (fl.map .int) ∧ D ≠ fa ∧ IsFl n es fl ∧ BfsC n es fl true 0 md ∧ m = (sideCost es (fun v => decide (v = 0)) - netAt es fl 0).toNat) ⟨G5, D, _, md, rfl, n05, (n24.trans n5).pure, hD, hF5, DF, isFl_zero ok, B, rfl⟩ ?_
    rintro m σ' H6 ⟨G6, D6, fl, md6, rfl, n6, n26, hD6, hF6, DF6, F6, B6, rfl⟩
    walk_at "sx"
    refine g_dcIn hD6 (k := Sum.inl (1 : Int)) rfl ?_
    rw [show (1 : Int) = ((1 : Nat) : Int) from rfl, gt_dst]
    walk_at "sx"
    refine g_bool (fun hin => ?_) (fun hout => ?_)
    rotate_left
    · walk_at "sx"
      refine q fa G6 H6 fl n6 hf0 hF6 F6 fun hrc => ?_
      obtain ⟨k, hk⟩ := gtN_key (B6.iff.mpr hrc)
      rw [hk] at hout
      simp at hout
    refine g_whN ?_
    walk_at "sx"
    refine ⟨G6, G, H, D6, st, v, fa, n, es, fl, md6, rfl, hL, n6, hf0, dp_mono n26.gg hS, hD6, hF6, DF6, ok, F6, B6, fun z => by rw [z] at hin; simp at hin, fun G7 H7 fl7 n7 hF7 F7 hgr => ?_⟩
    walk_at "sx"
    have n07 : Nx [] G H G7 H7 := (n6.pure.trans n7).sub (by simp [hf0])
    refine ⟨G7, st, v, .ref fa, n, 0, true, es, fl7, rfl, n7.gh, dp_mono (n26.trans n7).gg hS, hL.go0 n07, hF7.lsv, ok, F7.len, by omega, fun D8 G8 H8 md8 n8 hD80 hD8 B8 => ?_⟩
    walk_at "sx"
    refine ⟨(sideCost es (fun v => decide (v = 0)) - netAt es fl7 0).toNat, ?_, G8, D8, fl7, md8, rfl, n07.trans n8, (n26.trans n7).trans n8.pure, hD8, hF7.go n8 (by simp), fun z => hF7.live (z ▸ hD80), F7, B8, rfl⟩
    have := worth_le (S := fun v => decide (v = 0)) ok F7 (by simp) (by simp)
    omega
def inS (S : List Int) (v : Nat) : Bool := decide ((v : Int) ∈ S)
def costOf (es : List Edg) (S : Nat → Bool) : Int := ((es.filter fun e => S e.1 != S e.2.1).map (·.2.2)).sum
theorem cost_side : ∀ {es : List Edg} {S : Nat → Bool}, costOf es S = sideCost es S
  | [], _ => rfl
  | e :: es, S => by
    have ih := cost_side (es := es) (S := S)
    unfold costOf sideCost at ih ⊢
    rw [List.map_cons, List.sum_cons, ← ih]
    by_cases h : S e.1 = S e.2.1
    · rw [List.filter_cons_of_neg (by simp [h]), if_pos h]
      omega
    · rw [List.filter_cons_of_pos (by simp [h]), if_neg h]
      rfl
theorem side_congr {es : List Edg} {S T : Nat → Bool} (h : ∀ e ∈ es, S e.1 = T e.1 ∧ S e.2.1 = T e.2.1) : sideCost es S = sideCost es T := by
  unfold sideCost
  congr 1
  refine List.map_congr_left fun e he => ?_
  obtain ⟨h1, h2⟩ := h e he
  rw [h1, h2]
theorem inS_nat {L : List Nat} {v : Nat} : inS (L.map fun (v : Nat) => (v : Int)) v = decide (v ∈ L) := by
  unfold inS
  have : ((v : Int) ∈ L.map fun (v : Nat) => (v : Int)) ↔ v ∈ L := by
    rw [List.mem_map]
    exact ⟨fun ⟨a, ha, e⟩ => by rw [show v = a by omega]; exact ha, fun h => ⟨v, h, rfl⟩⟩
  by_cases h : v ∈ L
  · rw [decide_eq_true h, decide_eq_true (this.mpr h)]
  · rw [decide_eq_false h, decide_eq_false (fun z => h (this.mp z))]
def sp_side_cost (K : PySem.W.Frag) : Sp := fun vs H Q _ => ∃ G ev sv es S, vs = [ev, sv] ∧ Y.Ex G H ∧ LsV K ev G H (es.map edD) ∧ LsV K sv G H (S.map .int) ∧ es.length ≤ 999 ∧ ∀ G' H', Nx [] G H G' H' → Q (.int (sideCost es (inS S))) H'
def sp__law_cost (K : PySem.W.Frag) : Sp := fun vs H Q _ => ∃ G ev sv es S, vs = [ev, sv] ∧ Y.Ex G H ∧ LsV K ev G H (es.map edD) ∧ LsV K sv G H (S.map .int) ∧ es.length ≤ 999 ∧ ∀ G' H', Nx [] G H G' H' → Q (.int (sideCost es (inS S))) H'
theorem ok__law_cost (T : Tx fa fn bx K mg) : FnOk P w K mg base CX0 1 (He.ga K "_law_cost") (fdOf K (He.ga K "_law_cost")) ["edges", "side"] (sp__law_cost K) := by
  refine FunD.ok (F__law_cost T) sc__law_cost (fun vs H Q E h => ?_) (fun cdv A outer s H vs Q E hr h => ?_)
  · obtain ⟨_, _, _, _, _, rfl, _⟩ := h
    rfl
  · obtain ⟨G, ev, sv, es, S, rfl, e, hE, hS, el, q⟩ := h
    refine ⟨_, PSs.nox ((pss_one (ps_ret (pe_callB (Y.cr_sumK (K := K) rfl rfl) (by rfl) (T.free 13) (by decide +kernel) (pa_cons (pe_lc (own := [("one", 2), ("two", 3), ("room", 4)]) rfl sc__law_cost.nd (Y.pi_listK (K := K) rfl (pv 0)) (blkOk_by (own := [("one", 2), ("two", 3), ("room", 4)]) (by kernel_rfl)) (fun _ _ _ _ _ => (Y.pg_tupK (K := K) (n := 3) rfl rfl (pgs_cons (pg_name (i := 2) sc__law_cost.nd rfl (Or.inl rfl)) (pgs_cons (pg_name (i := 3) sc__law_cost.nd rfl (Or.inl rfl)) (pgs_cons (pg_name (i := 4) sc__law_cost.nd rfl (Or.inl rfl)) pgs_nil))))) (fun _ _ _ _ _ => (pts_one (pt_cmpR op_ne (pe_cmpR (Y.op_inK (K := K) rfl) (pv 2) (pv 1) (by rfl)) (pe_cmpR (Y.op_inK (K := K) rfl) (pv 3) (pv 1) (by rfl)) (nomark _)))) (fun _ _ _ _ _ => (pv 4))) pa_nil))))), ?_⟩
    walk_at "sx"
    refine g_walkV0 e hE fun p ep Sr => ?_
    intro A hA
    refine g_lcPS (K := K) (M := []) (es := fun i => (((es.take i).filter fun e => inS S e.1 != inS S e.2.1).map (·.2.2)).map .int) Sr e hA (by simp) (by rw [List.length_map]; exact szl (by omega)) (by simp) (fun i d v1 acc G1 H1 hi d1 n1 _ QE QN k1 k2 => ?_) fun G1 H1 n1 hL => ?_
    · rw [List.getElem?_map] at hi
      obtain ⟨ed, hed, rfl⟩ := Option.map_eq_some_iff.mp hi
      refine g_un3 n1.gh d1 fun u1 u2 u3 e1 e2 e3 => ?_
      cases dp_int e1
      cases dp_int e2
      cases dp_int e3
      refine ⟨by first | rfl | exact wipe1, ?_⟩
      walk_at "sx"
      have hS1 := hS.go0 n1
      have step : ∀ b : Bool, (inS S ed.1 != inS S ed.2.1) = b → (((es.take (i + 1)).filter fun e => inS S e.1 != inS S e.2.1).map (·.2.2)).map PyData.int = (((es.take i).filter fun e => inS S e.1 != inS S e.2.1).map (·.2.2)).map PyData.int ++ (if b = true then [.int ed.2.2] else []) := fun b hb => by
        rw [List.take_add_one, hed, List.filter_append, List.map_append, List.map_append]
        congr 1
        cases b
        · simp [hb]
        · simp [hb]
      refine g_inIF n1.gh hS1 ?_
      walk_at "sx"
      refine g_inIF n1.gh hS1 ?_
      refine g_ne rfl ?_
      have eb : (!decide (V.bl (decide ((ed.1 : Int) ∈ S)) = V.bl (decide ((ed.2.1 : Int) ∈ S)))) = (inS S ed.1 != inS S ed.2.1) := by
        unfold inS
        cases decide ((ed.1 : Int) ∈ S) <;> cases decide ((ed.2.1 : Int) ∈ S) <;> rfl
      rw [eb]
      refine ⟨_, rfl, ?_⟩
      refine g_bool (fun hb => ?_) (fun hb => ?_)
      · walk_at "sx"
        exact k1 _ G1 H1 (.int ed.2.2) (Nx.refl n1.gh) (.int _) (by simpa using step true hb)
      · exact k2 G1 H1 (Nx.refl n1.gh) (by simpa using step false hb)
    · rw [List.length_map, List.take_length] at hL
      walk_at "sx"
      refine ⟨A, _, rfl, .of (LstAt.ints hL), ?_⟩
      have q1 := q _ _ n1
      rw [← cost_side] at q1
      exact q1
/-- what the draws go by: the script, the place, what is left, the mix -/
def StAt (K : PySem.W.Frag) (a : Addr) (G H : Hp) : Prop := G a = none ∧ ∃ (l : Addr) (ns : List Int) (p r m : Int), H a = some (.lst [.ref l, .int p, .int r, .int m]) ∧ SqL K G l (ns.map V.int) ∧ 0 ≤ p ∧ 0 ≤ r
theorem StAt.go {K : PySem.W.Frag} {a : Addr} {G H G' H' : Hp} {M : List Addr} (s : StAt K a G H) (n : Nx M G H G' H') (ha : a ∉ M) : StAt K a G' H' := by
  obtain ⟨g, l, ns, p, r, m, h, hl, h0⟩ := s
  exact ⟨n.old a g (by rw [h]; exact fun z => nomatch z), l, ns, p, r, m, n.fr a _ ha h, n.gg.seqL hl, h0⟩
theorem StAt.live {K : PySem.W.Frag} {a : Addr} {G H : Hp} (s : StAt K a G H) : H a ≠ none := by
  obtain ⟨_, _, _, _, _, _, h, _⟩ := s
  rw [h]; exact fun z => nomatch z
theorem StAt.upd {K : PySem.W.Frag} {a A : Addr} {G H : Hp} {o : HO} (s : StAt K a G H) (h : A ≠ a) : StAt K a G (upd H A o) := by
  obtain ⟨g, l, ns, p, r, m, h1, r1⟩ := s
  exact ⟨g, l, ns, p, r, m, by rw [upd_ne h.symm]; exact h1, r1⟩
def sp__law_draw (K : PySem.W.Frag) : Sp := fun vs H Q _ => ∃ G a m, vs = [.ref a, .int m] ∧ Y.Ex G H ∧ StAt K a G H ∧ 0 < m ∧ m < 1073741824 ∧ ∀ i H', 0 ≤ i → i < m → Nx [a] G H G H' → StAt K a G H' → Q (.int i) H'
theorem ok__law_draw (T : Tx fa fn bx K mg) : FnOk P w K mg base CX0 1 (He.ga K "_law_draw") (fdOf K (He.ga K "_law_draw")) ["state", "many"] (sp__law_draw K) := by
  refine FunD.ok (F__law_draw T) sc__law_draw (fun vs H Q E h => ?_) (fun cdv A outer s H vs Q E hr h => ?_)
  · obtain ⟨_, _, _, rfl, _⟩ := h
    rfl
  · obtain ⟨G, a, m, rfl, e, ⟨g, l, ns, p, r, x, hp, hl, hp0, hr0⟩, h0, h0', q⟩ := h
    refine ⟨_, PSs.nox ((Evl.pss_cut (ps_if (pt_cmpR op_le (pe_ix (Y.ix_listK (K := K) rfl) (pv 0) pe_int (fun _ _ => rfl)) pe_int (nomark _))
      (pss_cons (ps_set (i := 3) sc__law_draw.nd rfl (Or.inl rfl) (pe_ix (Y.ix_listK (K := K) rfl) (pv 0) pe_int (fun _ _ => rfl)))
      (pss_cons (ps_asg (pe_op op_add (pv 3) pe_int) (pg_sub (pv 0) pe_int set_list))
      (pss_cons (ps_set (i := 4) sc__law_draw.nd rfl (Or.inl rfl) (pe_op op_add (pe_op op_mul (pv 3) pe_int) pe_int))
      (Evl.pss_cut (ps_if (pt_cmpR op_lt (pv 3) (pe_callB (Y.call_lenK (K := K) rfl) (by rfl) (T.free 8) (by decide +kernel) (pa_cons (pe_ix (Y.ix_listK (K := K) rfl) (pv 0) pe_int (fun _ _ => rfl)) pa_nil)) (nomark _))
      (pss_one (ps_set (i := 4) sc__law_draw.nd rfl (Or.inl rfl) (pe_ix (Y.ix_listK (K := K) rfl) (pe_ix (Y.ix_listK (K := K) rfl) (pv 0) pe_int (fun _ _ => rfl)) (pv 3) (fun _ _ => rfl))))
      pss_nil)
      (Evl.pss_cut (ps_if (pt_chain op_le op_lt pe_int (pv 4) pe_int)
      (pss_cons (ps_set (i := 5) sc__law_draw.nd rfl (Or.inl rfl) (pe_op op_modN (pe_callTy Y.call_int1 (by rfl) (T.free 2) (by decide +kernel) (pa_cons (pe_op op_add (pe_op op_add (pe_op op_mul (pv 4) pe_int) (pe_op op_mul (pv 3) pe_int)) (pe_ix (Y.ix_listK (K := K) rfl) (pv 0) pe_int (fun _ _ => rfl))) pa_nil)) pe_int))
      (pss_cons (ps_set (i := 6) sc__law_draw.nd rfl (Or.inl rfl) (pe_op op_modN (pe_callTy Y.call_int1 (by rfl) (T.free 2) (by decide +kernel) (pa_cons (pe_op op_add (pe_op op_add (pe_op op_mul (pv 5) pe_int) (pv 4)) pe_int) pa_nil)) pe_int))
      (pss_one (ps_asg (pe_op op_add (pe_op op_mul (pv 5) pe_int) (pv 6)) (pg_sub (pv 0) pe_int set_list)))))
      (pss_one (ps_asg (pe_callB Y.call_abs (by rfl) (T.free 12) (by decide +kernel) (pa_cons (pv 4) pa_nil)) (pg_sub (pv 0) pe_int set_list))))
      (pss_one (ps_asg (pe_op op_modN (pe_callTy Y.call_int1 (by rfl) (T.free 2) (by decide +kernel) (pa_cons (pe_op op_add (pe_op op_mul (pe_ix (Y.ix_listK (K := K) rfl) (pv 0) pe_int (fun _ _ => rfl)) pe_int) (pv 4)) pa_nil)) pe_int) (pg_sub (pv 0) pe_int set_list))))))))
      pss_nil)
      (pss_cons (ps_set (i := 2) sc__law_draw.nd rfl (Or.inl rfl) (pe_op op_modN (pe_callTy Y.call_int1 (by rfl) (T.free 2) (by decide +kernel) (pa_cons (pe_ix (Y.ix_listK (K := K) rfl) (pv 0) pe_int (fun _ _ => rfl)) pa_nil)) (pv 1)))
      (pss_cons (ps_asg (pe_op op_fdivN (pe_callTy Y.call_int1 (by rfl) (T.free 2) (by decide +kernel) (pa_cons (pe_ix (Y.ix_listK (K := K) rfl) (pv 0) pe_int (fun _ _ => rfl)) pa_nil)) (pv 1)) (pg_sub (pv 0) pe_int set_list))
      (pss_one (ps_ret (pv 2))))))), ?_⟩
    walk_at "sx"
    refine ⟨fun σ' H' => ∃ p r x y2 y3 y4 y5 y6, σ' = [some (.ref a), some (.int m), y2, y3, y4, y5, y6] ∧ Nx [a] G H G H' ∧ H' a = some (.lst [.ref l, .int p, .int r, .int x]) ∧ 0 ≤ p ∧ 0 ≤ r, ?_, ?_⟩
    · walk_at "sx"
      refine g_ixM hp (k := 2) rfl rfl ?_
      walk_at "sx"
      refine g_dec (fun h1 => ?_) (fun h1 => ?_) <;> walk_at "sx"
      rotate_left
      · exact ⟨p, r, x, _, _, _, _, _, rfl, Nx.refl e, hp, hp0, hr0⟩
      refine g_ixM hp (k := 1) rfl rfl ?_
      walk_at "sx"
      refine g_setM hp (k := 1) rfl (by simp) ?_
      have n1 : Nx [a] G H G (upd H a (.lst [.ref l, .int (p + 1), .int r, .int x])) := Nx.set e g (by simp)
      have hp1 : (upd H a (.lst [.ref l, .int (p + 1), .int r, .int x])) a = some (.lst [.ref l, .int (p + 1), .int r, .int x]) := upd_same
      show tSeq _ _ _ _ (upd H a (.lst [.ref l, .int (p + 1), .int r, .int x]))
      generalize upd H a (.lst [.ref l, .int (p + 1), .int r, .int x]) = H1 at n1 hp1 ⊢
      walk_at "sx"
      refine g_I (.inr (by decide)) ?_
      walk_at "sx"
      refine ⟨fun σ' H' => H' = H1 ∧ ∃ c, σ' = [some (.ref a), some (.int m), none, some (.int p), some (.int c), none, none], ?_, ?_⟩
      · walk_at "sx"
        refine g_ixM hp1 (k := 0) rfl rfl ?_
        walk_at "sx"
        refine g_lenK n1.gh hl ?_
        rw [List.length_map]
        walk_at "sx"
        refine g_dec (fun h2 => ?_) (fun h2 => ?_) <;> walk_at "sx"
        · refine g_ixM hp1 (k := 0) rfl rfl ?_
          walk_at "sx"
          have hlt : p.toNat < ns.length := by omega
          refine g_ixK n1.gh hl (k := p.toNat) (v := .int ns[p.toNat]) (by simp [hlt]) (by omega) ?_
          walk_at "sx"
          exact ⟨rfl, _, rfl⟩
        · exact ⟨rfl, _, rfl⟩
      rintro σ1 H2 ⟨rfl, c, rfl⟩
      walk_at "sx"
      refine ⟨fun σ' H' => ∃ r y5 y6, σ' = [some (.ref a), some (.int m), none, some (.int p), some (.int c), y5, y6] ∧ Nx [a] G H G H' ∧ H' a = some (.lst [.ref l, .int (p + 1), .int r, .int x]) ∧ 0 ≤ r, ?_, ?_⟩
      · walk_at "sx"
        refine g_dec (fun h2 => ?_) (fun h2 => ?_)
        · walk_at "sx"
          have abs1 : rSetL (.ref a) (.int 2) (.int (if c < 0 then -c else c)) H2 fun H3 => ∃ r y5 y6, [some (V.ref a), some (V.int m), none, some (V.int p), some (V.int c), none, none] = [some (.ref a), some (.int m), none, some (.int p), some (.int c), y5, y6] ∧ Nx [a] G H G H3 ∧ H3 a = some (.lst [.ref l, .int (p + 1), .int r, .int x]) ∧ 0 ≤ r := by
            refine g_setM hp1 (k := 2) rfl (by simp) ?_
            refine ⟨_, _, _, rfl, n1.trans (Nx.set n1.gh g (by simp)), upd_same, ?_⟩
            by_cases hc : c < 0
            · rw [if_pos hc]; omega
            · rw [if_neg hc]; omega
          refine g_dec (fun h3 => ?_) (fun h3 => ?_) <;> walk_at "sx"
          rotate_left
          · exact abs1
          refine g_I (.inr (by decide)) ?_
          walk_at "sx"
          refine g_I (.inr (by decide)) ?_
          walk_at "sx"
          refine g_ixM hp1 (k := 3) rfl rfl ?_
          walk_at "sx"
          refine g_I (by decide) ?_
          walk_at "sx"
          refine g_I (.inr (by decide)) ?_
          walk_at "sx"
          refine g_I (by decide) ?_
          walk_at "sx"
          refine g_I (.inr (by decide)) ?_
          walk_at "sx"
          refine g_setM hp1 (k := 2) rfl (by simp) ?_
          refine ⟨_, _, _, rfl, n1.trans (Nx.set n1.gh g (by simp)), upd_same, ?_⟩
          exact Int.add_nonneg (Int.mul_nonneg (Int.fmod_nonneg_of_pos _ (by decide)) (by decide)) (Int.fmod_nonneg_of_pos _ (by decide))
        · walk_at "sx"
          refine g_setM hp1 (k := 2) rfl (by simp) ?_
          refine ⟨_, _, _, rfl, n1.trans (Nx.set n1.gh g (by simp)), upd_same, ?_⟩
          by_cases hc : c < 0
          · rw [if_pos hc]; omega
          · rw [if_neg hc]; omega
      rintro σ1 H3 ⟨r3, y5, y6, rfl, n3, hp3, hr3⟩
      walk_at "sx"
      refine g_ixM hp3 (k := 3) rfl rfl ?_
      walk_at "sx"
      refine g_I (.inr (by decide)) ?_
      walk_at "sx"
      refine g_I (by decide) ?_
      walk_at "sx"
      refine g_setM hp3 (k := 3) rfl (by simp) ?_
      refine ⟨p + 1, r3, _, _, _, _, _, _, rfl, n3.trans (Nx.set n3.gh g (by simp)), upd_same, by omega, hr3⟩
    rintro σ1 H1 ⟨p1, r1, x1, y2, y3, y4, y5, y6, rfl, n1, hp1, hp10, hr1⟩
    walk_at "sx"
    refine g_ixM hp1 (k := 2) rfl rfl ?_
    walk_at "sx"
    refine g_I (by omega) ?_
    walk_at "sx"
    refine g_ixM hp1 (k := 2) rfl rfl ?_
    walk_at "sx"
    refine g_I ⟨by omega, by omega⟩ ?_
    walk_at "sx"
    refine g_setM hp1 (k := 2) rfl (by simp) ?_
    walk_at "sx"
    refine q _ _ (Int.fmod_nonneg_of_pos _ h0) (Int.fmod_lt_of_pos _ h0) (n1.trans (Nx.set n1.gh g (by simp))) ⟨g, l, ns, p1, _, x1, upd_same, hl, hp10, ?_⟩
    rw [Int.fdiv_eq_ediv_of_nonneg _ (by omega)]
    exact Int.ediv_nonneg hr1 (by omega)
theorem grid_next {W h k : Nat} (hk : k < W * h) (hr : k % W + 1 < W) : k + 1 < W * h := by
  have e := Nat.div_add_mod k W
  rcases Nat.lt_or_ge (k + 1) (W * h) with hlt | hge
  · exact hlt
  · exfalso
    have e1 : W * h = W * (k / W) + (k % W + 1) := by omega
    have a1 : W * (k / W) < W * h := by omega
    have a2 : W * h < W * (k / W + 1) := by rw [Nat.mul_add, Nat.mul_one]; omega
    have b1 := Nat.lt_of_mul_lt_mul_left a1
    have b2 := Nat.lt_of_mul_lt_mul_left a2
    omega
def sp__law_grid (K : PySem.W.Frag) : Sp := fun vs H Q _ => ∃ G a, vs = [.ref a] ∧ Y.Ex G H ∧ StAt K a G H ∧
  ∀ t p (n : Nat) (es : List Edg) G' H', Nx [a] G H G' H' → H p = none → StAt K a G' H' → SqT K G' t [.int (n : Int), .ref p] → LstAt K p G' H' (es.map edD) → NetOk n es → n ≤ 18 → Q (.ref t) H'
theorem ok__law_grid (T : Tx fa fn bx K mg) : FnOk P w K mg base CX0 2 (He.ga K "_law_grid") (fdOf K (He.ga K "_law_grid")) ["state"] (sp__law_grid K) := by
  refine FunD.ok (F__law_grid T) sc__law_grid (fun vs H Q E h => ?_) (fun cdv A outer s H vs Q E hr h => ?_)
  · obtain ⟨_, _, rfl, _⟩ := h
    rfl
  · obtain ⟨G, a, rfl, e, hs, q⟩ := h
    refine ⟨_, PSs.nox ((pss_cons (ps_set (i := 1) sc__law_grid.nd rfl (Or.inl rfl) (pe_op op_add pe_int (Y.pe_callC (ok__law_draw T) (cal__law_draw T) (hr.mono (by decide)) (by rfl) pass0 (pa_cons (pv 0) (pa_cons pe_int pa_nil)))))
      (pss_cons (ps_set (i := 2) sc__law_grid.nd rfl (Or.inl rfl) (pe_op op_add pe_int (Y.pe_callC (ok__law_draw T) (cal__law_draw T) (hr.mono (by decide)) (by rfl) pass0 (pa_cons (pv 0) (pa_cons pe_int pa_nil)))))
      (pss_cons (ps_set (i := 3) sc__law_grid.nd rfl (Or.inl rfl) (pe_lst pa_nil))
      (pss_cons (ps_for PassesOwn.never rfl (pi_range1 (by rfl) (T.free 5) (pa_cons (pe_op op_mul (pv 1) (pv 2)) pa_nil)) (pg_name (i := 4) sc__law_grid.nd rfl (Or.inl rfl))
      (Evl.pss_cut (ps_if (pt_cmpR op_lt (pe_op op_modN (pe_callTy Y.call_int1 (by rfl) (T.free 2) (by decide +kernel) (pa_cons (pv 4) pa_nil)) (pv 1)) (pe_op op_sub (pv 1) pe_int) (nomark _))
      (pss_one (ps_expr (Y.pe_bmK (K := K) rfl PySem.F.plainAttrs_list PySem.F.slot_list_append PySem.F.type_list_append mt_append (pv 3) (pa_cons (pe_tup (pa_cons (pe_op op_add pe_int (pv 4)) (pa_cons (pe_op op_add pe_int (pv 4)) (pa_cons (Y.pe_callC (ok__law_draw T) (cal__law_draw T) (hr.mono (by decide)) (by rfl) pass0 (pa_cons (pv 0) (pa_cons pe_int pa_nil))) pa_nil)))) pa_nil))))
      pss_nil)
      (pss_one (ps_if (pt_cmpR op_lt (pe_op op_add (pv 4) (pv 1)) (pe_op op_mul (pv 1) (pv 2)) (nomark _))
      (pss_one (ps_expr (Y.pe_bmK (K := K) rfl PySem.F.plainAttrs_list PySem.F.slot_list_append PySem.F.type_list_append mt_append (pv 3) (pa_cons (pe_tup (pa_cons (pe_op op_add (pe_op op_add pe_int (pv 4)) (pv 1)) (pa_cons (pe_op op_add pe_int (pv 4)) (pa_cons (Y.pe_callC (ok__law_draw T) (cal__law_draw T) (hr.mono (by decide)) (by rfl) pass0 (pa_cons (pv 0) (pa_cons pe_int pa_nil))) pa_nil)))) pa_nil))))
      pss_nil))))
      (pss_cons (ps_for PassesOwn.never rfl (pi_range1 (by rfl) (T.free 5) (pa_cons (pv 2) pa_nil)) (pg_name (i := 4) sc__law_grid.nd rfl (Or.inl rfl))
      (pss_cons (ps_expr (Y.pe_bmK (K := K) rfl PySem.F.plainAttrs_list PySem.F.slot_list_append PySem.F.type_list_append mt_append (pv 3) (pa_cons (pe_tup (pa_cons pe_int (pa_cons (pe_op op_add pe_int (pe_op op_mul (pv 4) (pv 1))) (pa_cons (Y.pe_callC (ok__law_draw T) (cal__law_draw T) (hr.mono (by decide)) (by rfl) pass0 (pa_cons (pv 0) (pa_cons pe_int pa_nil))) pa_nil)))) pa_nil)))
      (pss_one (ps_expr (Y.pe_bmK (K := K) rfl PySem.F.plainAttrs_list PySem.F.slot_list_append PySem.F.type_list_append mt_append (pv 3) (pa_cons (pe_tup (pa_cons pe_int (pa_cons (pe_op op_add pe_int (pe_op op_mul (pe_op op_add (pv 4) pe_int) (pv 1))) (pa_cons (Y.pe_callC (ok__law_draw T) (cal__law_draw T) (hr.mono (by decide)) (by rfl) pass0 (pa_cons (pv 0) (pa_cons pe_int pa_nil))) pa_nil)))) pa_nil))))))
      (pss_one (ps_ret (pe_tup (pa_cons (pe_op op_add pe_int (pe_op op_mul (pv 1) (pv 2))) (pa_cons (pv 3) pa_nil))))))))))), ?_⟩
    walk_at "sx"
    refine ⟨G, a, 3, rfl, e, hs, by decide, by decide, fun w H1 w0 w1 n1 hs1 => ?_⟩
    obtain ⟨w, rfl⟩ := Int.eq_ofNat_of_zero_le w0
    obtain ⟨W, hW, hW2, hW4⟩ : ∃ W : Nat, (2 + (w : Int)) = (W : Int) ∧ 2 ≤ W ∧ W ≤ 4 := ⟨2 + w, by omega, by omega, by omega⟩
    walk_at "sx"
    rw [hW]
    refine ⟨G, a, 3, rfl, n1.gh, hs1, by decide, by decide, fun hh H2 h0 h1 n2 hs2 => ?_⟩
    obtain ⟨hh, rfl⟩ := Int.eq_ofNat_of_zero_le h0
    obtain ⟨T, hT, hT2, hT4⟩ : ∃ T : Nat, (2 + (hh : Int)) = (T : Int) ∧ 2 ≤ T ∧ T ≤ 4 := ⟨2 + hh, by omega, by omega, by omega⟩
    have n12 := n1.trans n2
    walk_at "sx"
    rw [hT]
    refine g_lstLs (K := K) (L := []) n2.gh .nil (Nat.zero_le _) fun p H3 n3 hp hL => ?_
    walk_at "sx"
    have hs3 := hs2.go n3 (by simp)
    have pa : p ≠ a := fun z => hs2.live (z ▸ hp)
    have hp0 : H p = none := n12.fresh hp
    refine g_I (.inl ⟨by omega, by omega⟩) ?_
    rw [← Int.natCast_mul]
    have hP : W * T ≤ 16 := Nat.mul_le_mul hW4 hT4
    have hP0 : 0 < W * T := Nat.mul_pos (by omega) (by omega)
    obtain ⟨P, hPe⟩ : ∃ P, P = W * T := ⟨_, rfl⟩
    rw [← hPe] at hP hP0 ⊢
    walk_at "sx"
    refine g_walkR (by omega) (by omega) ?_
    rw [show ((P : Int)).toNat = P by omega]
    have n03 : Nx [a] G H G H3 := n12.trans n3.pure
    refine g_forS (K := K) (M := [a, p]) (src_rng 0 _) n03.gh (fun i σ G' H' => ∃ es : List Edg, ∃ y4, σ = [some (.ref a), some (.int (W : Int)), some (.int (T : Int)), some (.ref p), y4] ∧ StAt K a G' H' ∧ LstAt K p G' H' (es.map edD) ∧ es.length ≤ 2 * i ∧ ∀ e ∈ es, e.1 < 2 + P ∧ e.2.1 < 2 + P ∧ e.1 ≠ e.2.1 ∧ 0 ≤ e.2.2) ⟨[], _, rfl, hs3, hL, by simp, by simp⟩ ?_ ?_
    · rintro i z x σ' G4 H4 G5 H5 hi n4 ⟨es, y4, rfl, hs4, hL4, hlen, hed⟩ n5 dx
      obtain ⟨hir, rfl⟩ := rng_get hi
      cases dp_int dx
      have hs5 := hs4.go n5 (by simp)
      have hL5 := hL4.go n5 (by simp)
      have n45 := n4.trans n5.pure
      walk_at "sx"
      refine ⟨fun σ' H' => ∃ G', ∃ es : List Edg, σ' = [some (.ref a), some (.int (W : Int)), some (.int (T : Int)), some (.ref p), some (.int (i : Int))] ∧ Nx [a, p] G H3 G' H' ∧ StAt K a G' H' ∧ LstAt K p G' H' (es.map edD) ∧ es.length ≤ 2 * i + 1 ∧ ∀ e ∈ es, e.1 < 2 + P ∧ e.2.1 < 2 + P ∧ e.1 ≠ e.2.1 ∧ 0 ≤ e.2.2, ?_, ?_⟩
      · walk_at "sx"
        refine g_I (by omega) ?_
        walk_at "sx"
        have em : (i : Int).fmod (W : Int) = ((i % W : Nat) : Int) := by
          rw [Int.fmod_eq_emod_of_nonneg _ (by omega), Int.natCast_emod]
        rw [em]
        refine g_dec (fun h1 => ?_) (fun h1 => ?_) <;> walk_at "sx"
        rotate_left
        · exact ⟨G5, es, rfl, n45, hs5, hL5, by omega, hed⟩
        have hnx : i + 1 < P := by rw [hPe]; exact grid_next (by rw [← hPe]; exact hir) (by omega)
        refine g_tyLs hL5 ?_
        walk_at "sx"
        refine ⟨G5, a, 9, rfl, n5.gh, hs5, by decide, by decide, fun r H6 r0 r1 n6 hs6 => ?_⟩
        walk_at "sx"
        refine g_tupD (K := K) n6.gh (.cons (.int _) (.cons (.int _) (.cons (.int _) .nil))) (by simp [sizeLine]) fun t1 G7 H7 n7 dt => ?_
        walk_at "sx"
        have hL7 := (hL5.go n6 (by simp [pa])).go n7 (by simp)
        refine g_appLs n7.gh hL7 (d := edD (2 + i, 3 + i, r)) (by unfold edD; simpa using dt) (by rw [List.length_map]; omega) fun H8 n8 hL8 => ?_
        refine ⟨G7, es ++ [(2 + i, 3 + i, r)], rfl, n45.trans (((n6.mono (by simp)).trans n7.pure).trans (n8.mono (by simp))), (hs6.go n7 (by simp)).go n8 (by simp [pa.symm]), by rw [List.map_append]; exact hL8, by simp; omega, fun e he => ?_⟩
        rcases List.mem_append.mp he with he | he
        · exact hed e he
        · simp only [List.mem_cons, List.not_mem_nil, or_false] at he
          subst he
          exact ⟨by show 2 + i < 2 + P; omega, by show 3 + i < 2 + P; omega, by show 2 + i ≠ 3 + i; omega, r0⟩
      rintro σ' H6 ⟨G6, es6, rfl, n6, hs6, hL6, hlen6, hed6⟩
      walk_at "sx"
      refine g_I (.inl ⟨by omega, by omega⟩) ?_
      rw [← Int.natCast_mul, ← hPe]
      walk_at "sx"
      refine g_dec (fun h1 => ?_) (fun h1 => ?_) <;> walk_at "sx"
      rotate_left
      · exact ⟨G6, n6, es6, _, rfl, hs6, hL6, by omega, hed6⟩
      refine g_tyLs hL6 ?_
      walk_at "sx"
      refine ⟨G6, a, 9, rfl, n6.gh, hs6, by decide, by decide, fun r H7 r0 r1 n7 hs7 => ?_⟩
      walk_at "sx"
      refine g_tupD (K := K) n7.gh (.cons (.int _) (.cons (.int _) (.cons (.int _) .nil))) (by simp [sizeLine]) fun t1 G8 H8 n8 dt => ?_
      walk_at "sx"
      have hL8 := (hL6.go n7 (by simp [pa])).go n8 (by simp)
      refine g_appLs n8.gh hL8 (d := edD (2 + i + W, 2 + i, r)) (by unfold edD; simpa using dt) (by rw [List.length_map]; omega) fun H9 n9 hL9 => ?_
      refine ⟨G8, n6.trans (((n7.mono (by simp)).trans n8.pure).trans (n9.mono (by simp))), es6 ++ [(2 + i + W, 2 + i, r)], _, rfl, (hs7.go n8 (by simp)).go n9 (by simp [pa.symm]), by rw [List.map_append]; exact hL9, by simp; omega, fun e he => ?_⟩
      rcases List.mem_append.mp he with he | he
      · exact hed6 e he
      · simp only [List.mem_cons, List.not_mem_nil, or_false] at he
        subst he
        exact ⟨by show 2 + i + W < 2 + P; omega, by show 2 + i < 2 + P; omega, by show 2 + i + W ≠ 2 + i; omega, r0⟩
    rintro σ' G4 H4 n4 ⟨es, y4, rfl, hs4, hL4, hlen, hed⟩
    rw [show (rng 0 P).length = P by simp [rng]] at hlen
    walk_at "sx"
    refine g_walkR (by omega) (by omega) ?_
    rw [show ((T : Int)).toNat = T by omega]
    refine g_forS (K := K) (M := [a, p]) (src_rng 0 _) n4.gh (fun i σ G' H' => ∃ es : List Edg, ∃ y4, σ = [some (.ref a), some (.int (W : Int)), some (.int (T : Int)), some (.ref p), y4] ∧ StAt K a G' H' ∧ LstAt K p G' H' (es.map edD) ∧ es.length ≤ 2 * P + 2 * i ∧ ∀ e ∈ es, e.1 < 2 + P ∧ e.2.1 < 2 + P ∧ e.1 ≠ e.2.1 ∧ 0 ≤ e.2.2) ⟨es, _, rfl, hs4, hL4, by omega, hed⟩ ?_ ?_
    · rintro i z x σ' G5 H5 G6 H6 hi n5 ⟨es, y4, rfl, hs5, hL5, hlen, hed⟩ n6 dx
      obtain ⟨hir, rfl⟩ := rng_get hi
      cases dp_int dx
      have hs6 := hs5.go n6 (by simp)
      have hL6 := hL5.go n6 (by simp)
      have n56 := n5.trans n6.pure
      have hiW : i * W + W ≤ P := by
        rw [hPe]
        have : W * (i + 1) ≤ W * T := Nat.mul_le_mul_left _ hir
        rw [Nat.mul_add, Nat.mul_one, Nat.mul_comm W i] at this
        exact this
      walk_at "sx"
      refine g_tyLs hL6 ?_
      walk_at "sx"
      refine g_I (.inl ⟨by omega, by omega⟩) ?_
      rw [← Int.natCast_mul]
      walk_at "sx"
      refine ⟨G6, a, 20, rfl, n6.gh, hs6, by decide, by decide, fun r H7 r0 r1 n7 hs7 => ?_⟩
      walk_at "sx"
      refine g_tupD (K := K) n7.gh (.cons (.int _) (.cons (.int _) (.cons (.int _) .nil))) (by simp [sizeLine]) fun t1 G8 H8 n8 dt => ?_
      walk_at "sx"
      have hL8 := (hL6.go n7 (by simp [pa])).go n8 (by simp)
      refine g_appLs n8.gh hL8 (d := edD (0, 2 + i * W, r)) (by unfold edD; simpa using dt) (by rw [List.length_map]; omega) fun H9 n9 hL9 => ?_
      have hs9 := (hs7.go n8 (by simp)).go n9 (by simp [pa.symm])
      walk_at "sx"
      refine g_tyLs hL9 ?_
      walk_at "sx"
      refine g_I (.inl ⟨by omega, by omega⟩) ?_
      walk_at "sx"
      refine ⟨G8, a, 20, rfl, n9.gh, hs9, by decide, by decide, fun s H10 s0 s1 n10 hs10 => ?_⟩
      walk_at "sx"
      refine g_tupD (K := K) n10.gh (.cons (.int _) (.cons (.int _) (.cons (.int _) .nil))) (by simp [sizeLine]) fun t2 G11 H11 n11 dt2 => ?_
      walk_at "sx"
      have hL11 := (hL9.go n10 (by simp [pa])).go n11 (by simp)
      have e7 : (1 : Int) + ((i : Int) + 1) * (W : Int) = ((1 + (i * W + W) : Nat) : Int) := by
        rw [Int.add_mul, Int.one_mul, ← Int.natCast_mul]
        omega
      rw [e7] at dt2
      refine g_appLs n11.gh hL11 (d := edD (1, 1 + (i * W + W), s)) dt2 (by simp; omega) fun H12 n12' hL12 => ?_
      refine ⟨G11, n56.trans ((((n7.mono (by simp)).trans n8.pure).trans (n9.mono (by simp))).trans (((n10.mono (by simp)).trans n11.pure).trans (n12'.mono (by simp)))), es ++ [(0, 2 + i * W, r)] ++ [(1, 1 + (i * W + W), s)], _, rfl, (hs10.go n11 (by simp)).go n12' (by simp [pa.symm]), by rw [List.map_append, List.map_append]; exact hL12, by simp; omega, fun e he => ?_⟩
      rcases List.mem_append.mp he with he | he
      · rcases List.mem_append.mp he with he | he
        · exact hed e he
        · simp only [List.mem_cons, List.not_mem_nil, or_false] at he
          subst he
          exact ⟨by show 0 < 2 + P; omega, by show 2 + i * W < 2 + P; omega, by show 0 ≠ 2 + i * W; omega, r0⟩
      · simp only [List.mem_cons, List.not_mem_nil, or_false] at he
        subst he
        exact ⟨by show 1 < 2 + P; omega, by show 1 + (i * W + W) < 2 + P; omega, by show 1 ≠ 1 + (i * W + W); omega, s0⟩
    · rintro σ' G5 H5 n5 ⟨es, y4, rfl, hs5, hL5, hlen, hed⟩
      rw [show (rng 0 T).length = T by simp [rng]] at hlen
      walk_at "sx"
      refine g_I (.inl ⟨by omega, by omega⟩) ?_
      rw [← Int.natCast_mul, ← hPe]
      walk_at "sx"
      refine g_tupRaw (K := K) n5.gh (by show 2 ≤ sizeLine; decide) fun t G6 H6 n6 ht hTT => ?_
      refine q t p (2 + P) es G6 H6 (((n03.mono (by simp)).trans ((n4.trans n5).trans n6.pure)).sub (M' := [a, p]) (by simp [hp0])) hp0 (hs5.go n6 (by simp)) (by simpa using hTT) (hL5.go n6 (by simp)) ⟨by omega, by omega, by omega, hed⟩ (by omega)
theorem zp_ed {es : List Edg} {fl : List Int} : zpD (es.map edD) (fl.map .int) = (es.zip fl).map fun p => .tuple [edD p.1, .int p.2] := by
  unfold zpD
  rw [List.zip_map, List.map_map]
  rfl
def sp_worth (K : PySem.W.Frag) : Sp := fun vs H Q _ => ∃ G ev fv es fl, vs = [ev, fv] ∧ Y.Ex G H ∧ LsV K ev G H (es.map edD) ∧ LsV K fv G H (fl.map .int) ∧ ∀ G' H', Nx [] G H G' H' → Q (.int (netAt es fl 0)) H'
def netP (ps : List (Edg × Int)) (v : Nat) : Int := (ps.map fun p => (if p.1.1 = v then p.2 else 0) - (if p.1.2.1 = v then p.2 else 0)).sum
def evenB (n : Nat) (es : List Edg) (fl : List Int) : Bool := ((List.range n).drop 2).all fun v => decide (netAt es fl v = 0)
def gainsOf (n : Nat) (ps : List (Edg × Int)) : List Int := (List.range n).map fun v => - netP ps v
theorem netP_snoc {ps : List (Edg × Int)} {p : Edg × Int} {v : Nat} : netP (ps ++ [p]) v = netP ps v + ((if p.1.1 = v then p.2 else 0) - (if p.1.2.1 = v then p.2 else 0)) := by
  simp [netP]
theorem gains_get {n : Nat} {ps : List (Edg × Int)} {v : Nat} (h : v < n) : (gainsOf n ps)[v]? = some (- netP ps v) := by simp [gainsOf, h]
theorem gains_step {n : Nat} {ps : List (Edg × Int)} {p : Edg × Int} (h1 : p.1.1 < n) (h2 : p.1.2.1 < n) (hne : p.1.1 ≠ p.1.2.1) :
    ((gainsOf n ps).set p.1.1 (- netP ps p.1.1 - p.2)).set p.1.2.1 (- netP ps p.1.2.1 + p.2) = gainsOf n (ps ++ [p]) := by
  apply List.ext_getElem?
  intro v
  rw [List.getElem?_set, List.getElem?_set]
  by_cases hv : v < n
  · rw [gains_get hv, gains_get hv, netP_snoc]
    have lg : (gainsOf n ps).length = n := by simp [gainsOf]
    by_cases b2 : p.1.2.1 = v
    · subst b2
      simp [h2, hne, lg]
      omega
    · by_cases b1 : p.1.1 = v
      · subst b1
        simp [h1, b2, lg]
        omega
      · simp [b2, b1]
  · have : p.1.2.1 ≠ v := by omega
    have : p.1.1 ≠ v := by omega
    have lg : ∀ ps, (gainsOf n ps)[v]? = none := fun ps => by simp [gainsOf]; omega
    simp [*]
theorem gains_zero {n : Nat} : gainsOf n [] = List.replicate n 0 := by
  apply List.ext_getElem?
  intro v
  by_cases hv : v < n
  · rw [gains_get hv, List.getElem?_replicate, if_pos hv]
    rfl
  · have : (gainsOf n [])[v]? = none := by simp [gainsOf]; omega
    rw [this, List.getElem?_replicate, if_neg hv]
def sp__is_even (K : PySem.W.Frag) : Sp := fun vs H Q _ => ∃ G ev fv, ∃ n : Nat, ∃ es fl, vs = [.int (n : Int), ev, fv] ∧ Y.Ex G H ∧ LsV K ev G H (es.map edD) ∧ LsV K fv G H (fl.map .int) ∧ NetOk n es ∧ ∀ G' H', Nx [] G H G' H' → Q (.bl (evenB n es fl)) H'
def capB (es : List Edg) (fl : List Int) : Bool := (es.zip fl).all fun p => decide (-p.1.2.2 ≤ p.2 ∧ p.2 ≤ p.1.2.2)
def isFlB (n : Nat) (es : List Edg) (fl : List Int) : Bool := decide (fl.length = es.length) && (capB es fl && evenB n es fl)
theorem isFl_iff {n : Nat} {es : List Edg} {fl : List Int} : isFlB n es fl = true ↔ IsFl n es fl := by
  unfold isFlB capB evenB
  rw [Bool.and_eq_true, Bool.and_eq_true, decide_eq_true_eq, List.all_eq_true, List.all_eq_true]
  constructor
  · rintro ⟨h1, h2, h3⟩
    refine ⟨h1, fun p hp => of_decide_eq_true (h2 p hp), fun v h2 hn => of_decide_eq_true (h3 v ?_)⟩
    refine List.mem_of_getElem? (i := v - 2) ?_
    rw [List.getElem?_drop, List.getElem?_range (by omega)]
    congr 1
    omega
  · rintro ⟨h1, h2, h3⟩
    refine ⟨h1, fun p hp => decide_eq_true (h2 p hp), fun v hv => decide_eq_true ?_⟩
    obtain ⟨i, hi⟩ := List.getElem?_of_mem hv
    rw [List.getElem?_drop] at hi
    have hl : 2 + i < n := by
      have := (List.getElem?_eq_some_iff.mp hi).1
      simpa using this
    rw [List.getElem?_range hl] at hi
    cases hi
    exact h3 _ (by omega) hl
def sp_is_flow (K : PySem.W.Frag) : Sp := fun vs H Q _ => ∃ G ev fv, ∃ n : Nat, ∃ es fl, vs = [.int (n : Int), ev, fv] ∧ Y.Ex G H ∧ LsV K ev G H (es.map edD) ∧ LsV K fv G H (fl.map .int) ∧ NetOk n es ∧ ∀ G' H', Nx [] G H G' H' → Q (.bl (isFlB n es fl)) H'
theorem even_iff {n : Nat} {es : List Edg} {fl : List Int} : evenB n es fl = true ↔ ∀ v, 2 ≤ v → v < n → netAt es fl v = 0 := by
  unfold evenB
  rw [List.all_eq_true]
  constructor
  · intro h3 v h2 hn
    refine of_decide_eq_true (h3 v (List.mem_of_getElem? (i := v - 2) ?_))
    rw [List.getElem?_drop, List.getElem?_range (by omega)]
    congr 1
    omega
  · intro h3 v hv
    refine decide_eq_true ?_
    obtain ⟨i, hi⟩ := List.getElem?_of_mem hv
    rw [List.getElem?_drop] at hi
    have hl : 2 + i < n := by
      have := (List.getElem?_eq_some_iff.mp hi).1
      simpa using this
    rw [List.getElem?_range hl] at hi
    cases hi
    exact h3 _ (by omega) hl
def gainsP (n : Nat) (ps : List (Edg × Int)) : List Int := (List.range n).map fun v => netP ps v
theorem gainsP_get {n : Nat} {ps : List (Edg × Int)} {v : Nat} (h : v < n) : (gainsP n ps)[v]? = some (netP ps v) := by simp [gainsP, h]
theorem gainsP_step {n : Nat} {ps : List (Edg × Int)} {p : Edg × Int} (h1 : p.1.1 < n) (h2 : p.1.2.1 < n) (hne : p.1.1 ≠ p.1.2.1) :
    ((gainsP n ps).set p.1.1 (netP ps p.1.1 + p.2)).set p.1.2.1 (netP ps p.1.2.1 - p.2) = gainsP n (ps ++ [p]) := by
  apply List.ext_getElem?
  intro v
  rw [List.getElem?_set, List.getElem?_set]
  by_cases hv : v < n
  · rw [gainsP_get hv, gainsP_get hv, netP_snoc]
    have lg : (gainsP n ps).length = n := by simp [gainsP]
    by_cases b2 : p.1.2.1 = v
    · subst b2
      simp [h2, hne, lg]
      omega
    · by_cases b1 : p.1.1 = v
      · subst b1
        simp [h1, b2, lg]
      · simp [b2, b1]
  · have : p.1.2.1 ≠ v := by omega
    have : p.1.1 ≠ v := by omega
    have lg : ∀ ps, (gainsP n ps)[v]? = none := fun ps => by simp [gainsP]; omega
    simp [*]
theorem gainsP_zero {n : Nat} : gainsP n [] = List.replicate n 0 := by
  apply List.ext_getElem?
  intro v
  by_cases hv : v < n
  · rw [gainsP_get hv, List.getElem?_replicate, if_pos hv]
    rfl
  · have : (gainsP n [])[v]? = none := by simp [gainsP]; omega
    rw [this, List.getElem?_replicate, if_neg hv]
def sp__law_is_flow (K : PySem.W.Frag) : Sp := fun vs H Q _ => ∃ G ev fv, ∃ n : Nat, ∃ es fl, vs = [.int (n : Int), ev, fv] ∧ Y.Ex G H ∧ LsV K ev G H (es.map edD) ∧ LsV K fv G H (fl.map .int) ∧ NetOk n es ∧ ∀ G' H', Nx [] G H G' H' → Q (.bl (isFlB n es fl)) H'
theorem ok__law_is_flow (T : Tx fa fn bx K mg) : FnOk P w K mg base CX0 1 (He.ga K "_law_is_flow") (fdOf K (He.ga K "_law_is_flow")) ["count", "edges", "flow"] (sp__law_is_flow K) := by
  refine FunD.ok (F__law_is_flow T) sc__law_is_flow (fun vs H Q E h => ?_) (fun cdv A outer s H vs Q E hr h => ?_)
  · obtain ⟨_, _, _, _, _, _, rfl, _⟩ := h
    rfl
  · obtain ⟨G, ev, fv, n, es, fl, rfl, e, hE, hF, ok, q⟩ := h
    refine ⟨_, PSs.nox ((pss_cons (ps_if (pt_cmpR op_ne (pe_callB (Y.call_lenK (K := K) rfl) (by rfl) (T.free 8) (by decide +kernel) (pa_cons (pv 2) pa_nil)) (pe_callB (Y.call_lenK (K := K) rfl) (by rfl) (T.free 8) (by decide +kernel) (pa_cons (pv 1) pa_nil)) (nomark _))
      (pss_one (ps_ret pe_bl))
      pss_nil)
      (pss_cons (ps_set (i := 3) sc__law_is_flow.nd rfl (Or.inr rfl) (pe_op op_rep (pe_lst (pa_cons pe_int pa_nil)) (pv 0)))
      (pss_cons (ps_for PassesOwn.never rfl (pi_range1 (by rfl) (T.free 5) (pa_cons (pe_callB (Y.call_lenK (K := K) rfl) (by rfl) (T.free 8) (by decide +kernel) (pa_cons (pv 1) pa_nil)) pa_nil)) (pg_name (i := 4) sc__law_is_flow.nd rfl (Or.inl rfl))
      (pss_cons (ps_asg (pe_ix (Y.ix_listK (K := K) rfl) (pv 1) (pv 4) (fun _ _ => rfl)) (Y.pg_tupK (K := K) (n := 3) rfl rfl (pgs_cons (pg_name (i := 5) sc__law_is_flow.nd rfl (Or.inl rfl)) (pgs_cons (pg_name (i := 6) sc__law_is_flow.nd rfl (Or.inl rfl)) (pgs_cons (pg_name (i := 7) sc__law_is_flow.nd rfl (Or.inl rfl)) pgs_nil)))))
      (pss_cons (ps_if (PW.pt (pw_or (pt_cmpR op_gt (pe_ix (Y.ix_listK (K := K) rfl) (pv 2) (pv 4) (fun _ _ => rfl)) (pv 7) (nomark _)) (pw_or1 (pt_cmpR op_lt (pe_ix (Y.ix_listK (K := K) rfl) (pv 2) (pv 4) (fun _ _ => rfl)) (pe_op op_sub pe_int (pv 7)) (nomark _)))))
      (pss_one (ps_ret pe_bl))
      pss_nil)
      (pss_cons (ps_asg (pe_op op_add (pe_ix (Y.ix_listK (K := K) rfl) (pv 3) (pv 5) (fun _ _ => rfl)) (pe_ix (Y.ix_listK (K := K) rfl) (pv 2) (pv 4) (fun _ _ => rfl))) (pg_sub (pv 3) (pv 5) set_list))
      (pss_one (ps_asg (pe_op op_sub (pe_ix (Y.ix_listK (K := K) rfl) (pv 3) (pv 6) (fun _ _ => rfl)) (pe_ix (Y.ix_listK (K := K) rfl) (pv 2) (pv 4) (fun _ _ => rfl))) (pg_sub (pv 3) (pv 6) set_list)))))))
      (pss_one (ps_ret (pe_cmpR op_eq (pe_callB (Y.call_lenK (K := K) rfl) (by rfl) (T.free 8) (by decide +kernel) (pa_cons (pe_lc (own := [("node", 8)]) rfl sc__law_is_flow.nd (pi_range2 (by rfl) (T.free 5) (pa_cons pe_int (pa_cons (pv 0) pa_nil))) (blkOk_by (own := [("node", 8)]) (by kernel_rfl)) (fun _ _ _ _ _ => (pg_name (i := 8) sc__law_is_flow.nd rfl (Or.inl rfl))) (fun _ _ _ _ _ => (pts_one (pt_cmpR op_ne (pe_ix (Y.ix_listK (K := K) rfl) (pv 3) (pv 8) (fun _ _ => rfl)) pe_int (nomark _)))) (fun _ _ _ _ _ => (pv 8))) pa_nil)) pe_int (nomark _)))))))), ?_⟩
    have el := ok.len
    have nl := ok.nl
    have n2 := ok.two
    unfold isFlB at q
    walk_at "sx"
    refine g_lenV e hF ?_
    walk_at "sx"
    refine g_lenV e hE ?_
    rw [List.length_map, List.length_map]
    walk_at "sx"
    refine g_ndec (fun hne => ?_) (fun heq => ?_) <;> walk_at "sx"
    · exact q_bl (q G H (Nx.refl e)) (by rw [decide_eq_false (by omega)]; rfl)
    have hlen : fl.length = es.length := by omega
    refine g_lstLs (K := K) (L := [.int 0]) e (.cons (.int _) .nil) (by show 1 ≤ 100000; decide) fun z0 H1 n1 hz0 hLz => ?_
    walk_at "sx"
    refine g_repLs n1.gh hLz (by omega) (by omega) (by show 1 ≤ 100; decide) fun ga H2 n2' hga hG => ?_
    have hg0 : (List.replicate (n : Int).toNat [PyData.int 0]).flatten = (gainsP n []).map .int := by
      rw [show ((n : Int)).toNat = n by omega, rep_flat, gainsP_zero, List.map_replicate]
    rw [hg0] at hG
    have n02 := n1.trans n2'
    have hga0 : H ga = none := n1.fresh hga
    walk_at "sx"
    refine g_lenV n02.gh (hE.go0 n02) ?_
    rw [List.length_map]
    refine g_walkR (by omega) (by omega) ?_
    refine g_forS (K := K) (M := [ga]) (src_rng 0 _) n02.gh (fun i σ G' H' => ∃ y4 y6 y7 y8, σ = [some (.int (n : Int)), some ev, some fv, some (.ref ga), y4, y6, y7, y8, none] ∧ LstAt K ga G' H' ((gainsP n ((es.zip fl).take i)).map .int) ∧ ∀ p ∈ (es.zip fl).take i, -p.1.2.2 ≤ p.2 ∧ p.2 ≤ p.1.2.2) ⟨_, _, _, _, rfl, by simpa using hG, by simp⟩ ?_ ?_
    · rintro i w x σ' G3 H3 G4 H4 hi n3 ⟨y4, y6, y7, y8, rfl, hG3, hcap⟩ n4 dx
      obtain ⟨hir, rfl⟩ := rng_get hi
      cases dp_int dx
      have n34 := n3.trans n4.pure
      have n04 : Nx [] G H G4 H4 := (n02.pure.trans n34).sub (M' := [ga]) (by simp [hga0])
      have hE4 := hE.go0 n04
      have hF4 := hF.go0 n04
      have hG4 := hG3.go n4 (by simp)
      obtain ⟨ed, hed⟩ : ∃ ed, es[i]? = some ed := ⟨es[i]'(by omega), by simp [show i < es.length by omega]⟩
      obtain ⟨am, ham⟩ := fl_at hlen hed
      have hz : (es.zip fl)[i]? = some (ed, am) := List.getElem?_zip_eq_some.mpr ⟨hed, ham⟩
      have hzm := List.mem_of_getElem? hz
      obtain ⟨b1, b2, b3, b4⟩ := ok.ed ed (List.mem_of_getElem? hed)
      have lg : (gainsP n ((es.zip fl).take i)).length = n := by simp [gainsP]
      walk_at "sx"
      refine g_ixV (k := i) n4.gh hE4 (d := edD ed) (by simp [hed]) rfl fun v1 dv1 => ?_
      refine g_un3 n4.gh dv1 fun u1 u2 u3 e1 e2 e3 => ?_
      cases dp_int e1
      cases dp_int e2
      cases dp_int e3
      walk_at "sx"
      have bad : ¬ (-ed.2.2 ≤ am ∧ am ≤ ed.2.2) → Q (.bl false) H4 := fun hb => by
        refine q_bl (q G4 H4 n04) ?_
        have : capB es fl = false := by
          cases hc : capB es fl with
          | false => rfl
          | true =>
            have := of_decide_eq_true (List.all_eq_true.mp hc _ hzm)
            exact absurd this hb
        rw [this]
        simp
      refine g_ixV (k := i) n4.gh hF4 (d := .int am) (by simp [ham]) rfl fun v2 dv2 => ?_
      cases dp_int dv2
      walk_at "sx"
      refine g_dec (fun h1 => ?_) (fun h1 => ?_) <;> walk_at "sx"
      · exact bad (by omega)
      refine g_ixV (k := i) n4.gh hF4 (d := .int am) (by simp [ham]) rfl fun v3 dv3 => ?_
      cases dp_int dv3
      walk_at "sx"
      refine g_dec (fun h2 => ?_) (fun h2 => ?_) <;> walk_at "sx"
      · exact bad (by omega)
      refine g_ixLs hG4 (k := ed.1) (d := .int (netP ((es.zip fl).take i) ed.1)) (by rw [List.getElem?_map, gainsP_get b1]; rfl) rfl fun v4 dv4 => ?_
      cases dp_int dv4
      walk_at "sx"
      refine g_ixV (k := i) n4.gh hF4 (d := .int am) (by simp [ham]) rfl fun v5 dv5 => ?_
      cases dp_int dv5
      walk_at "sx"
      refine g_setLs n4.gh hG4 (d := .int _) (.int _) (k := ed.1) rfl (by rw [List.length_map, lg]; exact b1) fun H5 n5 hG5 => ?_
      rw [← List.map_set] at hG5
      have n05 : Nx [] G H G4 H5 := (n04.pure.trans n5).sub (M' := [ga]) (by simp [hga0])
      walk_at "sx"
      refine g_ixLs hG5 (k := ed.2.1) (d := .int (netP ((es.zip fl).take i) ed.2.1)) (by rw [List.getElem?_map, List.getElem?_set_ne b3, gainsP_get b2]; rfl) rfl fun v7 dv7 => ?_
      cases dp_int dv7
      walk_at "sx"
      refine g_ixV (k := i) n5.gh (hF.go0 n05) (d := .int am) (by simp [ham]) rfl fun v8 dv8 => ?_
      cases dp_int dv8
      walk_at "sx"
      refine g_setLs n5.gh hG5 (d := .int _) (.int _) (k := ed.2.1) rfl (by rw [List.length_map, List.length_set, lg]; exact b2) fun H6 n6 hG6 => ?_
      rw [← List.map_set] at hG6
      refine ⟨G4, (n34.trans n5).trans n6, _, _, _, _, rfl, ?_, fun p hp => ?_⟩
      · rw [List.take_add_one, hz]
        have := gainsP_step (n := n) (ps := (es.zip fl).take i) (p := (ed, am)) b1 b2 b3
        rw [show (some (ed, am)).toList = [(ed, am)] from rfl, ← this]
        exact hG6
      · rw [List.take_add_one, hz] at hp
        rcases List.mem_append.mp hp with hp | hp
        · exact hcap p hp
        · simp only [Option.toList_some, List.mem_cons, List.not_mem_nil, or_false] at hp
          subst hp
          exact ⟨by show -ed.2.2 ≤ am; omega, by show am ≤ ed.2.2; omega⟩
    · rintro σ' G3 H3 n3 ⟨y4, y6, y7, y8, rfl, hG3, hcap⟩
      rw [rng_len, show ((es.length : Int)).toNat = es.length by omega, List.take_of_length_le (by rw [List.length_zip]; omega)] at hG3 hcap
      have n03 : Nx [] G H G3 H3 := (n02.pure.trans n3).sub (M' := [ga]) (by simp [hga0])
      walk_at "sx"
      refine g_walkR2 (by omega) ?_
      intro A hA
      rw [show ((n : Int) - 2).toNat = n - 2 by omega]
      refine g_lcPS (K := K) (M := []) (es := fun i => (((List.range (n - 2)).take i).filter fun j => !decide (netAt es fl (2 + j) = 0)).map fun (j : Nat) => .int (2 + (j : Int))) (src_rng 2 _) n03.gh hA (by simp) (by simp [rng]; exact szl (by omega)) (by simp) (fun i d v1 acc G4 H4 hi d4 n4 _ QE QN k1 k2 => ?_) fun G4 H4 n4 hL => ?_
      · unfold rng at hi
        rw [List.getElem?_map] at hi
        obtain ⟨j, hj, rfl⟩ := Option.map_eq_some_iff.mp hi
        have hji : j = i ∧ i < n - 2 := by
          have hl := (List.getElem?_eq_some_iff.mp hj).1
          rw [List.length_range] at hl
          rw [List.getElem?_range hl] at hj
          exact ⟨(Option.some.inj hj).symm, hl⟩
        obtain ⟨rfl, hl⟩ := hji
        cases dp_int d4
        refine ⟨by first | rfl | exact wipe1, ?_⟩
        walk_at "sx"
        have hG4 := hG3.go n4 (by simp)
        refine g_ixLs hG4 (k := 2 + j) (d := .int (netP (es.zip fl) (2 + j))) (by rw [List.getElem?_map, gainsP_get (by omega)]; rfl) (by omega) fun v4 dv4 => ?_
        cases dp_int dv4
        walk_at "sx"
        have hn : netP (es.zip fl) (2 + j) = netAt es fl (2 + j) := rfl
        refine g_ndec (fun h1 => ?_) (fun h1 => ?_)
        · walk_at "sx"
          refine k1 _ G4 H4 _ (Nx.refl n4.gh) (.int _) ?_
          rw [List.take_add_one, hj, List.filter_append, List.map_append]
          congr 1
          rw [hn] at h1
          simp [h1]
        · refine k2 G4 H4 (Nx.refl n4.gh) ?_
          rw [List.take_add_one, hj, List.filter_append, List.map_append]
          rw [hn] at h1
          simp [h1]
      · rw [show (rng 2 (n - 2)).length = (List.range (n - 2)).length by simp [rng], List.take_length] at hL
        walk_at "sx"
        refine g_lenLs hL ?_
        rw [List.length_map]
        walk_at "sx"
        refine q_bl (q G4 H4 (n03.trans n4)) ?_
        have hcb : capB es fl = true := List.all_eq_true.mpr fun p hp => decide_eq_true (hcap p hp)
        rw [hcb, decide_eq_true hlen, Bool.true_and, Bool.true_and, Bool.eq_iff_iff, even_iff, decide_eq_true_eq]
        constructor
        · intro h
          have h0 : ((List.range (n - 2)).filter fun j => !decide (netAt es fl (2 + j) = 0)) = [] := List.filter_eq_nil_iff.mpr fun j hj => by
            have := h (2 + j) (by omega) (by have := List.mem_range.mp hj; omega)
            simp [this]
          rw [h0]
          rfl
        · intro h v hv2 hvn
          have h0 : ((List.range (n - 2)).filter fun j => !decide (netAt es fl (2 + j) = 0)) = [] := List.length_eq_zero_iff.mp (by omega)
          have := List.filter_eq_nil_iff.mp h0 (v - 2) (List.mem_range.mpr (by omega))
          rw [show 2 + (v - 2) = v by omega] at this
          simpa using this
def sp__law_left (K : PySem.W.Frag) : Sp := fun vs H Q _ => ∃ G ev fv sv es fl S, vs = [ev, fv, sv] ∧ Y.Ex G H ∧ LsV K ev G H (es.map edD) ∧ LsV K fv G H (fl.map .int) ∧ LsV K sv G H (S.map .int) ∧ es.length ≤ 999 ∧ fl.length = es.length ∧ Sat es fl (inS S) ∧ ∀ G' H', Nx [] G H G' H' → Q (.bl false) H'
theorem ok__law_left (T : Tx fa fn bx K mg) : FnOk P w K mg base CX0 1 (He.ga K "_law_left") (fdOf K (He.ga K "_law_left")) ["edges", "flow", "side"] (sp__law_left K) := by
  refine FunD.ok (F__law_left T) sc__law_left (fun vs H Q E h => ?_) (fun cdv A outer s H vs Q E hr h => ?_)
  · obtain ⟨_, _, _, _, _, _, _, rfl, _⟩ := h
    rfl
  · obtain ⟨G, ev, fv, sv, es, fl, S, rfl, e, hE, hF, hS, el, hlen, sat, q⟩ := h
    refine ⟨_, PSs.nox ((pss_cons (ps_for PassesOwn.never rfl (pi_range1 (by rfl) (T.free 5) (pa_cons (pe_callB (Y.call_lenK (K := K) rfl) (by rfl) (T.free 8) (by decide +kernel) (pa_cons (pv 0) pa_nil)) pa_nil)) (pg_name (i := 3) sc__law_left.nd rfl (Or.inl rfl))
      (pss_cons (ps_asg (pe_ix (Y.ix_listK (K := K) rfl) (pv 0) (pv 3) (fun _ _ => rfl)) (Y.pg_tupK (K := K) (n := 3) rfl rfl (pgs_cons (pg_name (i := 4) sc__law_left.nd rfl (Or.inl rfl)) (pgs_cons (pg_name (i := 5) sc__law_left.nd rfl (Or.inl rfl)) (pgs_cons (pg_name (i := 6) sc__law_left.nd rfl (Or.inl rfl)) pgs_nil)))))
      (pss_cons (ps_if (PW.pt (pw_and (pt_cmpR (Y.op_inK (K := K) rfl) (pv 4) (pv 2) (by rfl)) (pw_and (pt_cmpR (Y.op_notInK (K := K) rfl) (pv 5) (pv 2) (by rfl)) (pw_and1 (pt_cmpR op_lt (pe_ix (Y.ix_listK (K := K) rfl) (pv 1) (pv 3) (fun _ _ => rfl)) (pv 6) (nomark _))))))
      (pss_one (ps_ret pe_bl))
      pss_nil)
      (pss_one (ps_if (PW.pt (pw_and (pt_cmpR (Y.op_inK (K := K) rfl) (pv 5) (pv 2) (by rfl)) (pw_and (pt_cmpR (Y.op_notInK (K := K) rfl) (pv 4) (pv 2) (by rfl)) (pw_and1 (pt_cmpR op_gt (pe_ix (Y.ix_listK (K := K) rfl) (pv 1) (pv 3) (fun _ _ => rfl)) (pe_op op_sub pe_int (pv 6)) (nomark _))))))
      (pss_one (ps_ret pe_bl))
      pss_nil)))))
      (pss_one (ps_ret pe_bl)))), ?_⟩
    walk_at "sx"
    refine g_lenV e hE ?_
    rw [List.length_map]
    refine g_walkR (by omega) (by omega) ?_
    refine g_forS (K := K) (M := []) (src_rng 0 _) e (fun i σ G' H' => ∃ y3 y4 y5 y6, σ = [some ev, some fv, some sv, y3, y4, y5, y6]) ⟨_, _, _, _, rfl⟩ ?_ ?_
    · rintro i w x σ' G1 H1 G2 H2 hi n1 ⟨y3, y4, y5, y6, rfl⟩ n2 dx
      obtain ⟨hir, rfl⟩ := rng_get hi
      cases dp_int dx
      have n12 := n1.trans n2
      have hE2 := hE.go0 n12
      have hF2 := hF.go0 n12
      have hS2 := hS.go0 n12
      obtain ⟨ed, hed⟩ : ∃ ed, es[i]? = some ed := ⟨es[i]'(by omega), by simp [show i < es.length by omega]⟩
      obtain ⟨am, ham⟩ := fl_at hlen hed
      obtain ⟨s1, s2⟩ := sat (ed, am) (List.mem_of_getElem? (List.getElem?_zip_eq_some.mpr ⟨hed, ham⟩))
      walk_at "sx"
      refine g_ixV (k := i) n2.gh hE2 (d := edD ed) (by simp [hed]) rfl fun v1 dv1 => ?_
      refine g_un3 n2.gh dv1 fun u1 u2 u3 e1 e2 e3 => ?_
      cases dp_int e1
      cases dp_int e2
      cases dp_int e3
      dsimp only
      refine g_seq ?_
      refine g_ifP false (fun R hR => ?_) ?_
      · walk_at "sx"
        refine g_inIF n2.gh hS2 ?_
        refine ⟨_, rfl, ?_⟩
        refine g_bool (fun h1 => ?_) (fun _ => hR)
        walk_at "sx"
        refine g_inIT n2.gh hS2 ?_
        refine ⟨_, rfl, ?_⟩
        refine g_nbool (fun h2 => ?_) (fun _ => hR)
        walk_at "sx"
        refine g_ixV (k := i) n2.gh hF2 (d := .int am) (by simp [ham]) rfl fun v2 dv2 => ?_
        cases dp_int dv2
        walk_at "sx"
        have := s1 h1 h2
        rw [decide_eq_false (by simp only at this; omega)]
        exact hR
      refine g_bool (fun h => nomatch h) (fun _ => ?_)
      dsimp only [tNext]
      refine g_ifP false (fun R hR => ?_) ?_
      · walk_at "sx"
        refine g_inIF n2.gh hS2 ?_
        refine ⟨_, rfl, ?_⟩
        refine g_bool (fun h1 => ?_) (fun _ => hR)
        walk_at "sx"
        refine g_inIT n2.gh hS2 ?_
        refine ⟨_, rfl, ?_⟩
        refine g_nbool (fun h2 => ?_) (fun _ => hR)
        walk_at "sx"
        refine g_ixV (k := i) n2.gh hF2 (d := .int am) (by simp [ham]) rfl fun v2 dv2 => ?_
        cases dp_int dv2
        walk_at "sx"
        have := s2 h1 h2
        rw [decide_eq_false (by simp only at this; omega)]
        exact hR
      refine g_bool (fun h => nomatch h) (fun _ => ?_)
      walk_at "sx"
      exact ⟨G2, n12, _, _, _, _, rfl⟩
    · rintro σ' G1 H1 n1 ⟨y3, y4, y5, y6, rfl⟩
      walk_at "sx"
      exact q _ _ n1
def sp__law_net (K : PySem.W.Frag) : Sp := fun vs H Q _ => ∃ G a most many, vs = [.ref a, .int most, .int many] ∧ Y.Ex G H ∧ StAt K a G H ∧ 0 < most ∧ most ≤ 900 ∧ 0 ≤ many ∧ many ≤ 900 ∧
  ∀ t p (n : Nat) (es : List Edg) G' H', Nx [a] G H G' H' → H p = none → StAt K a G' H' → SqT K G' t [.int (n : Int), .ref p] → LstAt K p G' H' (es.map edD) → NetOk n es → (n : Int) < 2 + most → (es.length : Int) ≤ many → Q (.ref t) H'
theorem ok__law_net (T : Tx fa fn bx K mg) : FnOk P w K mg base CX0 2 (He.ga K "_law_net") (fdOf K (He.ga K "_law_net")) ["state", "most", "many"] (sp__law_net K) := by
  refine FunD.ok (F__law_net T) sc__law_net (fun vs H Q E h => ?_) (fun cdv A outer s H vs Q E hr h => ?_)
  · obtain ⟨_, _, _, _, rfl, _⟩ := h
    rfl
  · obtain ⟨G, a, most, many, rfl, e, hs, m0, m1, k0, k1, q⟩ := h
    refine ⟨_, PSs.nox ((pss_cons (ps_set (i := 3) sc__law_net.nd rfl (Or.inl rfl) (pe_op op_add pe_int (Y.pe_callC (ok__law_draw T) (cal__law_draw T) (hr.mono (by decide)) (by rfl) pass0 (pa_cons (pv 0) (pa_cons (pv 1) pa_nil)))))
      (pss_cons (ps_set (i := 4) sc__law_net.nd rfl (Or.inl rfl) (pe_lst pa_nil))
      (pss_cons (ps_for PassesOwn.never rfl (pi_range1 (by rfl) (T.free 5) (pa_cons (Y.pe_callC (ok__law_draw T) (cal__law_draw T) (hr.mono (by decide)) (by rfl) pass0 (pa_cons (pv 0) (pa_cons (pe_op op_add (pv 2) pe_int) pa_nil))) pa_nil)) (pg_name (i := 5) sc__law_net.nd rfl (Or.inl rfl))
      (pss_cons (ps_set (i := 6) sc__law_net.nd rfl (Or.inl rfl) (Y.pe_callC (ok__law_draw T) (cal__law_draw T) (hr.mono (by decide)) (by rfl) pass0 (pa_cons (pv 0) (pa_cons (pv 3) pa_nil))))
      (pss_cons (ps_set (i := 7) sc__law_net.nd rfl (Or.inl rfl) (pe_op op_modN (pe_callTy Y.call_int1 (by rfl) (T.free 2) (by decide +kernel) (pa_cons (pe_op op_add (pe_op op_add (pv 6) pe_int) (Y.pe_callC (ok__law_draw T) (cal__law_draw T) (hr.mono (by decide)) (by rfl) pass0 (pa_cons (pv 0) (pa_cons (pe_op op_sub (pv 3) pe_int) pa_nil)))) pa_nil)) (pv 3)))
      (pss_one (ps_expr (Y.pe_bmK (K := K) rfl PySem.F.plainAttrs_list PySem.F.slot_list_append PySem.F.type_list_append mt_append (pv 4) (pa_cons (pe_tup (pa_cons (pv 6) (pa_cons (pv 7) (pa_cons (pe_ix (Y.ix_listK (K := K) rfl) (pe_lst (pa_cons (Y.pe_callC (ok__law_draw T) (cal__law_draw T) (hr.mono (by decide)) (by rfl) pass0 (pa_cons (pv 0) (pa_cons pe_int pa_nil))) (pa_cons (Y.pe_callC (ok__law_draw T) (cal__law_draw T) (hr.mono (by decide)) (by rfl) pass0 (pa_cons (pv 0) (pa_cons pe_int pa_nil))) (pa_cons pe_int (pa_cons pe_int pa_nil))))) (pe_op op_fdivN (Y.pe_callC (ok__law_draw T) (cal__law_draw T) (hr.mono (by decide)) (by rfl) pass0 (pa_cons (pv 0) (pa_cons pe_int pa_nil))) pe_int) (fun _ _ => rfl)) pa_nil)))) pa_nil)))))))
      (pss_one (ps_ret (pe_tup (pa_cons (pv 3) (pa_cons (pv 4) pa_nil))))))))), ?_⟩
    walk_at "sx"
    refine ⟨G, a, most, rfl, e, hs, m0, by omega, fun c H1 c0 c1 n1 hs1 => ?_⟩
    obtain ⟨c, rfl⟩ := Int.eq_ofNat_of_zero_le c0
    walk_at "sx"
    refine g_lstLs (K := K) (L := []) n1.gh .nil (Nat.zero_le _) fun p H2 n2 hp hL => ?_
    walk_at "sx"
    have hs2 := hs1.go n2 (by simp)
    have ap : a ≠ p := fun z => hs1.live (z ▸ hp)
    have hp0 : H p = none := n1.fresh hp
    refine ⟨G, a, many + 1, rfl, n2.gh, hs2, by omega, by omega, fun r H3 r0 r1 n3 hs3 => ?_⟩
    obtain ⟨r, rfl⟩ := Int.eq_ofNat_of_zero_le r0
    walk_at "sx"
    refine g_walkR (by omega) (by omega) ?_
    have n13 : Nx [a] G H G H3 := (n1.trans n2.pure).trans n3
    have hL3 := hL.go n3 (by simp [ap.symm])
    refine g_forS (K := K) (M := [a, p]) (src_rng 0 _) n13.gh (fun i σ G' H' => ∃ es : List Edg, ∃ y5 y6 y7, σ = [some (.ref a), some (.int most), some (.int many), some (.int (2 + (c : Int))), some (.ref p), y5, y6, y7] ∧ StAt K a G' H' ∧ LstAt K p G' H' (es.map edD) ∧ es.length = i ∧ ∀ e ∈ es, e.1 < 2 + c ∧ e.2.1 < 2 + c ∧ e.1 ≠ e.2.1 ∧ 0 ≤ e.2.2) ⟨[], _, _, _, rfl, hs3, hL3, rfl, by simp⟩ ?_ ?_
    · rintro i w v σ' G4 H4 G5 H5 hi n4 ⟨es, y5, y6, y7, rfl, hs4, hL4, hlen, hed⟩ n5 dv
      obtain ⟨hir, rfl⟩ := rng_get hi
      cases dp_int dv
      have hs5 := hs4.go n5 (by simp)
      have hL5 := hL4.go n5 (by simp)
      have n45 := n4.trans n5.pure
      walk_at "sx"
      refine ⟨G5, a, 2 + (c : Int), rfl, n5.gh, hs5, by omega, by omega, fun o H6 o0 o1 n6 hs6 => ?_⟩
      obtain ⟨o, rfl⟩ := Int.eq_ofNat_of_zero_le o0
      walk_at "sx"
      refine ⟨G5, a, 2 + (c : Int) - 1, rfl, n6.gh, hs6, by omega, by omega, fun x H7 x0 x1 n7 hs7 => ?_⟩
      obtain ⟨x, rfl⟩ := Int.eq_ofNat_of_zero_le x0
      walk_at "sx"
      refine g_I (by omega) ?_
      walk_at "sx"
      have hL7 := (hL5.go n6 (by simp [ap.symm])).go n7 (by simp [ap.symm])
      refine g_tyLs hL7 ?_
      have n67 := n6.trans n7
      obtain ⟨tw, htw, htw1, htw2⟩ : ∃ tw : Nat, ((o : Int) + 1 + (x : Int)).fmod (2 + (c : Int)) = (tw : Int) ∧ tw < 2 + c ∧ tw ≠ o := by
        have e1 : ((o : Int) + 1 + (x : Int)).fmod (2 + (c : Int)) = (((o + 1 + x) % (2 + c) : Nat) : Int) := by
          rw [Int.fmod_eq_emod_of_nonneg _ (by omega), Int.natCast_emod]
          rw [show ((o : Int) + 1 + (x : Int)) = ((o + 1 + x : Nat) : Int) by omega, show (2 + (c : Int)) = ((2 + c : Nat) : Int) by omega]
        refine ⟨(o + 1 + x) % (2 + c), e1, Nat.mod_lt _ (by omega), ?_⟩
        by_cases hlt : o + 1 + x < 2 + c
        · rw [Nat.mod_eq_of_lt hlt]
          omega
        · rw [Nat.mod_eq_sub_mod (by omega), Nat.mod_eq_of_lt (by omega)]
          omega
      rw [htw]
      walk_at "sx"
      refine ⟨G5, a, 4, rfl, n67.gh, hs7, by decide, by decide, fun r1 H8 r10 r11 n8 hs8 => ?_⟩
      walk_at "sx"
      refine ⟨G5, a, 30, rfl, n8.gh, hs8, by decide, by decide, fun r2 H9 r20 r21 n9 hs9 => ?_⟩
      walk_at "sx"
      refine g_lstLs (K := K) (L := [.int r1, .int r2, .int 0, .int 1000000007]) n9.gh (.cons (.int _) (.cons (.int _) (.cons (.int _) (.cons (.int _) .nil)))) (by show 4 ≤ 100000; decide) fun c4 H10 n10 hc4 hC => ?_
      walk_at "sx"
      have hs10 := hs9.go n10 (by simp)
      have ac4 : a ≠ c4 := fun z => hs9.live (z ▸ hc4)
      refine ⟨G5, a, 8, rfl, n10.gh, hs10, by decide, by decide, fun r3 H11 r30 r31 n11 hs11 => ?_⟩
      walk_at "sx"
      refine g_I ⟨by omega, by omega⟩ ?_
      walk_at "sx"
      obtain ⟨k, hk, hk4⟩ : ∃ k : Nat, r3.fdiv 2 = (k : Int) ∧ k < 4 := by
        refine ⟨(r3.fdiv 2).toNat, ?_, ?_⟩ <;> rw [Int.fdiv_eq_ediv_of_nonneg _ (by omega)] <;> omega
      rw [hk]
      obtain ⟨rm, hrm, hrm0⟩ : ∃ rm : Int, ([PyData.int r1, .int r2, .int 0, .int 1000000007])[k]? = some (.int rm) ∧ 0 ≤ rm := by
        match k, hk4 with
        | 0, _ => exact ⟨r1, rfl, r10⟩
        | 1, _ => exact ⟨r2, rfl, r20⟩
        | 2, _ => exact ⟨0, rfl, by decide⟩
        | 3, _ => exact ⟨1000000007, rfl, by decide⟩
      refine g_ixLs (hC.go n11 (by simp [ac4.symm])) (k := k) hrm rfl fun v1 dv1 => ?_
      cases dp_int dv1
      walk_at "sx"
      refine g_tupD (K := K) n11.gh (.cons (.int _) (.cons (.int _) (.cons (.int _) .nil))) (by simp [sizeLine]) fun t1 G12 H12 n12 dt => ?_
      walk_at "sx"
      have n7b : Nx [a] G5 H7 G12 H12 := (((n8.trans n9).trans n10.pure).trans n11).trans n12.pure
      have hL12 := hL7.go n7b (by simp [ap.symm])
      refine g_appLs n12.gh hL12 (d := edD (o, tw, rm)) dt (by rw [List.length_map]; omega) fun H13 n13' hL13 => ?_
      have nn : Nx [a, p] G5 H5 G12 H13 := ((n67.trans n7b).mono (by simp)).trans (n13'.mono (by simp))
      refine ⟨G12, n45.trans nn, es ++ [(o, tw, rm)], _, _, _, rfl, (hs11.go n12 (by simp)).go n13' (by simp [ap]), by rw [List.map_append]; exact hL13, by simp [hlen], fun e he => ?_⟩
      rcases List.mem_append.mp he with he | he
      · exact hed e he
      · simp only [List.mem_cons, List.not_mem_nil, or_false] at he
        subst he
        exact ⟨by show o < 2 + c; omega, htw1, htw2.symm, hrm0⟩
    · rintro σ' G4 H4 n4 ⟨es, y5, y6, y7, rfl, hs4, hL4, hlen, hed⟩
      rw [rng_len] at hlen
      walk_at "sx"
      refine g_tupRaw (K := K) n4.gh (by show 2 ≤ sizeLine; decide) fun t G5 H5 n5 ht hT => ?_
      have nn : Nx [a] G H G5 H5 := ((n13.mono (by simp)).trans (n4.trans n5.pure)).sub (M' := [a, p]) (by simp [hp0])
      refine q t p (2 + c) es G5 H5 nn hp0 (hs4.go n5 (by simp)) (by simpa using hT) (hL4.go n5 (by simp)) ⟨by omega, by omega, by omega, hed⟩ (by omega) (by omega)
def sp__law_worth (K : PySem.W.Frag) : Sp := fun vs H Q _ => ∃ G ev fv es fl, vs = [ev, fv] ∧ Y.Ex G H ∧ LsV K ev G H (es.map edD) ∧ LsV K fv G H (fl.map .int) ∧ fl.length = es.length ∧ es.length ≤ 999 ∧ ∀ G' H', Nx [] G H G' H' → Q (.int (netAt es fl 0)) H'
theorem ok__law_worth (T : Tx fa fn bx K mg) : FnOk P w K mg base CX0 1 (He.ga K "_law_worth") (fdOf K (He.ga K "_law_worth")) ["edges", "flow"] (sp__law_worth K) := by
  refine FunD.ok (F__law_worth T) sc__law_worth (fun vs H Q E h => ?_) (fun cdv A outer s H vs Q E hr h => ?_)
  · obtain ⟨_, _, _, _, _, rfl, _⟩ := h
    rfl
  · obtain ⟨G, ev, fv, es, fl, rfl, e, hE, hF, hlen, el, q⟩ := h
    refine ⟨_, PSs.nox ((pss_cons (ps_set (i := 2) sc__law_worth.nd rfl (Or.inl rfl) pe_int)
      (pss_cons (ps_for PassesOwn.never rfl (pi_range1 (by rfl) (T.free 5) (pa_cons (pe_callB (Y.call_lenK (K := K) rfl) (by rfl) (T.free 8) (by decide +kernel) (pa_cons (pv 0) pa_nil)) pa_nil)) (pg_name (i := 3) sc__law_worth.nd rfl (Or.inl rfl))
      (pss_cons (ps_if (pt_cmpR op_eq (pe_ix (Y.ix_tupK (K := K) rfl) (pe_ix (Y.ix_listK (K := K) rfl) (pv 0) (pv 3) (fun _ _ => rfl)) pe_int (fun _ _ => rfl)) pe_int (nomark _))
      (pss_one (ps_set (i := 2) sc__law_worth.nd rfl (Or.inl rfl) (pe_op op_add (pv 2) (pe_ix (Y.ix_listK (K := K) rfl) (pv 1) (pv 3) (fun _ _ => rfl)))))
      pss_nil)
      (pss_one (ps_if (pt_cmpR op_eq (pe_ix (Y.ix_tupK (K := K) rfl) (pe_ix (Y.ix_listK (K := K) rfl) (pv 0) (pv 3) (fun _ _ => rfl)) pe_int (fun _ _ => rfl)) pe_int (nomark _))
      (pss_one (ps_set (i := 2) sc__law_worth.nd rfl (Or.inl rfl) (pe_op op_sub (pv 2) (pe_ix (Y.ix_listK (K := K) rfl) (pv 1) (pv 3) (fun _ _ => rfl)))))
      pss_nil))))
      (pss_one (ps_ret (pv 2)))))), ?_⟩
    walk_at "sx"
    refine g_lenV e hE ?_
    rw [List.length_map]
    refine g_walkR (by omega) (by omega) ?_
    refine g_forS (K := K) (M := []) (src_rng 0 _) e (fun i σ G' H' => ∃ y3, σ = [some ev, some fv, some (.int (netP ((es.zip fl).take i) 0)), y3]) ⟨_, rfl⟩ ?_ ?_
    · rintro i w x σ' G1 H1 G2 H2 hi n1 ⟨y3, rfl⟩ n2 dx
      obtain ⟨hir, rfl⟩ := rng_get hi
      cases dp_int dx
      have n12 := n1.trans n2
      have hE2 := hE.go0 n12
      have hF2 := hF.go0 n12
      obtain ⟨ed, hed⟩ : ∃ ed, es[i]? = some ed := ⟨es[i]'(by omega), by simp [show i < es.length by omega]⟩
      obtain ⟨am, ham⟩ := fl_at hlen hed
      have hz : (es.zip fl)[i]? = some (ed, am) := List.getElem?_zip_eq_some.mpr ⟨hed, ham⟩
      have hstep : netP ((es.zip fl).take (i + 1)) 0 = netP ((es.zip fl).take i) 0 + ((if ed.1 = 0 then am else 0) - (if ed.2.1 = 0 then am else 0)) := by
        rw [List.take_add_one, hz]
        exact netP_snoc (p := (ed, am))
      walk_at "sx"
      refine g_ixV (k := i) n2.gh hE2 (d := edD ed) (by simp [hed]) rfl fun v1 dv1 => ?_
      walk_at "sx"
      refine g_ixT (k := 0) n2.gh dv1 rfl rfl fun v2 dv2 => ?_
      cases dp_int dv2
      walk_at "sx"
      refine g_dec (fun h1 => ?_) (fun h1 => ?_) <;> walk_at "sx" <;> (try (refine g_ixV (k := i) n2.gh hF2 (d := .int am) (by simp [ham]) rfl fun v3 dv3 => ?_; cases dp_int dv3; walk_at "sx")) <;>
      · refine g_ixV (k := i) n2.gh hE2 (d := edD ed) (by simp [hed]) rfl fun v4 dv4 => ?_
        walk_at "sx"
        refine g_ixT (k := 1) n2.gh dv4 rfl rfl fun v5 dv5 => ?_
        cases dp_int dv5
        walk_at "sx"
        refine g_dec (fun h2 => ?_) (fun h2 => ?_) <;> walk_at "sx" <;> (try (refine g_ixV (k := i) n2.gh hF2 (d := .int am) (by simp [ham]) rfl fun v6 dv6 => ?_; cases dp_int dv6; walk_at "sx")) <;>
        · refine ⟨G2, n12, some (.int (i : Int)), congrArg (fun z => [some ev, some fv, some (V.int z), some (.int (i : Int))]) ?_⟩
          rw [hstep]
          have k1 : (ed.1 = 0) = ((ed.1 : Int) = 0) := by apply propext; omega
          have k2 : (ed.2.1 = 0) = ((ed.2.1 : Int) = 0) := by apply propext; omega
          simp only [k1, k2, h1, h2, if_true, if_false]
          omega
    · rintro σ' G1 H1 n1 ⟨y3, rfl⟩
      rw [rng_len, show ((es.length : Int)).toNat = es.length by omega, List.take_of_length_le (by rw [List.length_zip]; omega)]
      walk_at "sx"
      exact q _ _ n1
def natsD (S : List Nat) : List PyData := S.map fun (v : Nat) => .int (v : Int)
theorem natsD_int {S : List Nat} : natsD S = (S.map fun (v : Nat) => (v : Int)).map .int := by
  unfold natsD
  rw [List.map_map]
  rfl
theorem sorted_filter {n : Nat} {ks : List Nat} {ys : List Int} (hp : ys.Perm (ks.map fun (v : Nat) => (v : Int))) (hs : ys.Pairwise (· ≤ ·)) (hnd : ks.Nodup) (hlt : ∀ v ∈ ks, v < n) : ys = ((List.range n).filter fun v => decide (v ∈ ks)).map fun (v : Nat) => (v : Int) := by
  have h2 : (((List.range n).filter fun v => decide (v ∈ ks)).map fun (v : Nat) => (v : Int)).Perm (ks.map fun (v : Nat) => (v : Int)) := by
    refine List.Perm.map _ ?_
    refine (List.perm_ext_iff_of_nodup (List.nodup_range.filter _) hnd).mpr fun v => ?_
    rw [List.mem_filter, List.mem_range, decide_eq_true_eq]
    exact ⟨fun h => h.2, fun h => ⟨hlt v h, h⟩⟩
  have h3 : (((List.range n).filter fun v => decide (v ∈ ks)).map fun (v : Nat) => (v : Int)).Pairwise (· ≤ ·) := by
    rw [List.pairwise_map]
    refine List.Pairwise.filter _ (List.pairwise_lt_range.imp fun h => ?_)
    omega
  exact List.Perm.eq_of_pairwise (fun a b _ _ h1 h2 => Int.le_antisymm h1 h2) hs h3 (hp.trans h2.symm)
def sp_narrow_side (K : PySem.W.Frag) : Sp := fun vs H Q _ => ∃ G ev fv, ∃ n : Nat, ∃ es fl, vs = [.int (n : Int), ev, fv] ∧ Y.Ex G H ∧ LsV K ev G H (es.map edD) ∧ LsV K fv G H (fl.map .int) ∧ NetOk n es ∧ fl.length = es.length ∧ n < 64 ∧
  ∀ r G' H', ∀ p : Nat → Bool, Nx [] G H G' H' → H r = none → (∀ v, v < n → (p v = true ↔ Rc es fl true 0 v)) → LstAt K r G' H' (natsD ((List.range n).filter p)) → Q (.ref r) H'
theorem ok_narrow_side (T : Tx fa fn bx K mg) : FnOk P w K mg base CX0 3 (He.ga K "narrow_side") (fdOf K (He.ga K "narrow_side")) ["count", "edges", "flow"] (sp_narrow_side K) := by
  refine FunD.ok (F_narrow_side T) sc_narrow_side (fun vs H Q E h => ?_) (fun cdv A outer s H vs Q E hr h => ?_)
  · obtain ⟨_, _, _, _, _, _, rfl, _⟩ := h
    rfl
  · obtain ⟨G, ev, fv, n, es, fl, rfl, e, hE, hF, ok, hlen, hn, q⟩ := h
    refine ⟨_, PSs.nox ((pss_one (ps_ret (pe_callB (Y.call_srtDI rfl) (by rfl) (T.free 11) (by decide +kernel) (pa_cons (Y.pe_callC (ok__distances T) (cal__distances T) (hr.mono (by decide)) (by rfl) pass0 (pa_cons (pe_gint (T.int 9)) (pa_cons pe_bl (pa_cons (Y.pe_callC (ok__steps_at T) (cal__steps_at T) (hr.mono (by decide)) (by rfl) pass0 (pa_cons (pv 0) (pa_cons (pv 1) pa_nil))) (pa_cons (pv 1) (pa_cons (pv 2) pa_nil)))))) pa_nil))))), ?_⟩
    have n2 := ok.two
    walk_at "sx"
    refine ⟨G, ev, n, es, rfl, e, hE, ok, fun st G1 H1 n1 hS => ?_⟩
    walk_at "sx"
    refine ⟨G1, st, ev, fv, n, 0, true, es, fl, rfl, n1.gh, hS, hE.go0 n1, hF.go0 n1, ok, hlen, by omega, fun D G2 H2 md n2' hD0 hD B => ?_⟩
    have n02 := n1.trans n2'
    obtain ⟨kvs, hk, gk, hkm, _⟩ := hD
    have ml := B.len
    refine ⟨D, kvs, md.map fun p => (p.1 : Int), rfl, hk, by rw [hkm]; simp [dstM], by rw [List.length_map]; omega, fun ys r hp hs hr => ?_⟩
    have hys := sorted_filter (n := n) (ks := md.map (·.1)) (by rw [List.map_map]; exact hp) hs B.nd (fun v hv => by
      obtain ⟨x, hx, rfl⟩ := List.mem_map.mp hv
      exact B.lt x hx)
    refine q r G2 _ (fun v => decide (v ∈ md.map (·.1))) (n02.trans (Nx.own n02.gh hr)) (n02.fresh hr) (fun v _ => by rw [decide_eq_true_eq]; exact B.iff) ⟨_, upd_same, n02.gh.free hr, ?_⟩
    rw [hys, natsD_int]
    exact dpAll_ints _
def sp_wide_side (K : PySem.W.Frag) : Sp := fun vs H Q _ => ∃ G ev fv, ∃ n : Nat, ∃ es fl, vs = [.int (n : Int), ev, fv] ∧ Y.Ex G H ∧ LsV K ev G H (es.map edD) ∧ LsV K fv G H (fl.map .int) ∧ NetOk n es ∧ fl.length = es.length ∧
  ∀ r G' H', ∀ p : Nat → Bool, Nx [] G H G' H' → H r = none → (∀ v, v < n → (p v = true ↔ ¬ Rc es fl false 1 v)) → LstAt K r G' H' (natsD ((List.range n).filter p)) → Q (.ref r) H'
theorem ok_wide_side (T : Tx fa fn bx K mg) : FnOk P w K mg base CX0 3 (He.ga K "wide_side") (fdOf K (He.ga K "wide_side")) ["count", "edges", "flow"] (sp_wide_side K) := by
  refine FunD.ok (F_wide_side T) sc_wide_side (fun vs H Q E h => ?_) (fun cdv A outer s H vs Q E hr h => ?_)
  · obtain ⟨_, _, _, _, _, _, rfl, _⟩ := h
    rfl
  · obtain ⟨G, ev, fv, n, es, fl, rfl, e, hE, hF, ok, hlen, q⟩ := h
    refine ⟨_, PSs.nox ((pss_cons (ps_set (i := 3) sc_wide_side.nd rfl (Or.inr rfl) (Y.pe_callC (ok__distances T) (cal__distances T) (hr.mono (by decide)) (by rfl) pass0 (pa_cons (pe_gint (T.int 10)) (pa_cons pe_bl (pa_cons (Y.pe_callC (ok__steps_at T) (cal__steps_at T) (hr.mono (by decide)) (by rfl) pass0 (pa_cons (pv 0) (pa_cons (pv 1) pa_nil))) (pa_cons (pv 1) (pa_cons (pv 2) pa_nil)))))))
      (pss_one (ps_ret (pe_lc (own := [("node", 4)]) rfl sc_wide_side.nd (pi_range1 (by rfl) (T.free 5) (pa_cons (pv 0) pa_nil)) (blkOk_by (own := [("node", 4)]) (by kernel_rfl)) (fun _ _ _ _ _ => (pg_name (i := 4) sc_wide_side.nd rfl (Or.inl rfl))) (fun _ _ _ _ _ => (pts_one (pt_cmp (pc_dnotin (hu_of hr) (pv 4) (pv 3))))) (fun _ _ _ _ _ => (pv 4))))))), ?_⟩
    have n2 := ok.two
    have nl := ok.nl
    walk_at "sx"
    refine ⟨G, ev, n, es, rfl, e, hE, ok, fun st G1 H1 n1 hS => ?_⟩
    walk_at "sx"
    refine ⟨G1, st, ev, fv, n, 1, false, es, fl, rfl, n1.gh, hS, hE.go0 n1, hF.go0 n1, ok, hlen, by omega, fun D G2 H2 md n2' hD0 hD B => ?_⟩
    have n02 := n1.trans n2'
    walk_at "sx"
    refine g_walkR (by omega) (by omega) ?_
    intro A hA
    rw [show ((n : Int)).toNat = n by omega]
    refine g_lcPS (K := K) (M := []) (es := fun i => natsD (((List.range n).take i).filter fun v => !decide (v ∈ md.map (·.1)))) (src_rng 0 _) n02.gh hA (by simp) (by rw [rng_len]; exact szl (by omega)) (by simp [natsD]) (fun i d v1 acc G3 H3 hi d1 n3 _ QE QN k1 k2 => ?_) fun G3 H3 n3 hL => ?_
    · obtain ⟨hir, rfl⟩ := rng_get hi
      cases dp_int d1
      refine ⟨by first | rfl | exact wipe1, ?_⟩
      walk_at "sx"
      have hj : (List.range n)[i]? = some i := List.getElem?_range hir
      refine g_dcNi (hD.go n3 (by simp)) (k := Sum.inl (i : Int)) (by simp [kV]) ?_
      rw [gt_dst]
      have ek : (!((gtM md i).map fun (k : Nat) => PyData.int (k : Int)).isSome) = !decide (i ∈ md.map (·.1)) := by
        cases hg : gtM md i with
        | some k => rw [decide_eq_true (gtN_of hg)]; rfl
        | none => rw [decide_eq_false (gtM_none.mp hg)]; rfl
      rw [ek]
      refine ⟨_, rfl, ?_⟩
      refine g_bool (fun h1 => ?_) (fun h1 => ?_)
      · walk_at "sx"
        refine k1 _ G3 H3 _ (Nx.refl n3.gh) (.int _) ?_
        unfold natsD
        have e1 : [i].filter (fun v => !decide (v ∈ md.map (·.1))) = [i] := List.filter_cons_of_pos (p := fun v => !decide (v ∈ md.map (·.1))) h1
        rw [List.take_add_one, hj, List.filter_append, List.map_append, Option.toList_some, e1]
        simp
      · refine k2 G3 H3 (Nx.refl n3.gh) ?_
        unfold natsD
        have e1 : [i].filter (fun v => !decide (v ∈ md.map (·.1))) = [] := List.filter_cons_of_neg (p := fun v => !decide (v ∈ md.map (·.1))) (by rw [h1]; simp)
        rw [List.take_add_one, hj, List.filter_append, List.map_append, Option.toList_some, e1]
        simp
    · rw [rng_len, List.take_of_length_le (by simp)] at hL
      walk_at "sx"
      refine q A G3 H3 _ (n02.trans n3) (n02.fresh hA) (fun v _ => ?_) hL
      rw [Bool.not_eq_true', decide_eq_false_iff_not]
      exact not_congr B.iff
/-! the greatest flow fills the edges out of its sides -/
section
variable {n : Nat} {es : List Edg} {fl : List Int} {S : Nat → Bool}
theorem sat_congr {T : Nat → Bool} (h : ∀ e ∈ es, S e.1 = T e.1 ∧ S e.2.1 = T e.2.1) (s : Sat es fl S) : Sat es fl T := fun p hp => by
  obtain ⟨i, h1, _⟩ := zip_of hp
  obtain ⟨a, b⟩ := h p.1 (List.mem_of_getElem? h1)
  have := s p hp
  rw [a, b] at this
  exact this
theorem narrow_sat (ok : NetOk n es) (F : IsFl n es fl) (hn : ¬ Rc es fl true 0 1) (hS : ∀ v, S v = true ↔ Rc es fl true 0 v) : S 0 = true ∧ S 1 = false ∧ Sat es fl S := by
  have s0 : S 0 = true := (hS 0).mpr .base
  have s1 : S 1 = false := by
    cases h : S 1 with
    | false => rfl
    | true => exact absurd ((hS 1).mp h) hn
  exact ⟨s0, s1, least_closed ok F s0 s1 (narrow_ok ok F hn hS).1⟩
theorem wide_sat (ok : NetOk n es) (F : IsFl n es fl) (hn : ¬ Rc es fl true 0 1) (hS : ∀ v, S v = true ↔ ¬ Rc es fl false 1 v) : S 0 = true ∧ S 1 = false ∧ Sat es fl S := by
  have s0 : S 0 = true := (hS 0).mpr fun h => hn (rc_rev' h)
  have s1 : S 1 = false := by
    cases h : S 1 with
    | false => rfl
    | true => exact absurd .base ((hS 1).mp h)
  exact ⟨s0, s1, least_closed ok F s0 s1 (wide_ok ok F hn hS).1⟩
end
/-- a side as the law asks it -/
structure GoodS (n : Nat) (es : List Edg) (fl : List Int) (f : Nat → Bool) : Prop where
  s0 : f 0 = true
  s1 : f 1 = false
  sat : Sat es fl f
  cost : sideCost es f = netAt es fl 0
theorem good_congr {n : Nat} {es : List Edg} {fl : List Int} {S T : Nat → Bool} (ok : NetOk n es) (g : GoodS n es fl S) (h : ∀ v, v < n → S v = T v) : GoodS n es fl T := by
  have n2 := ok.two
  have hh : ∀ e ∈ es, S e.1 = T e.1 ∧ S e.2.1 = T e.2.1 := fun e he => by
    obtain ⟨h1, h2, _⟩ := ok.ed e he
    exact ⟨h _ h1, h _ h2⟩
  exact ⟨by rw [← h 0 (by omega)]; exact g.s0, by rw [← h 1 (by omega)]; exact g.s1, sat_congr hh g.sat, by rw [← side_congr hh]; exact g.cost⟩
theorem good_list {n : Nat} {es : List Edg} {fl : List Int} {f : Nat → Bool} (ok : NetOk n es) (g : GoodS n es fl f) : GoodS n es fl (inS (((List.range n).filter f).map fun (v : Nat) => (v : Int))) :=
  good_congr ok g fun v hv => by
    rw [inS_nat, Bool.eq_iff_iff, decide_eq_true_eq, List.mem_filter, List.mem_range]
    exact ⟨fun h => ⟨hv, h⟩, fun h => h.2⟩
theorem good_narrow {n : Nat} {es : List Edg} {fl : List Int} {f : Nat → Bool} (ok : NetOk n es) (F : IsFl n es fl) (hn : ¬ Rc es fl true 0 1) (h : ∀ v, v < n → (f v = true ↔ Rc es fl true 0 v)) : GoodS n es fl f := by
  classical
  have hS : ∀ v, decide (Rc es fl true 0 v) = true ↔ Rc es fl true 0 v := fun v => Iff.of_eq decide_eq_true_eq
  obtain ⟨a, b, c⟩ := narrow_sat (S := fun v => decide (Rc es fl true 0 v)) ok F hn hS
  exact good_congr ok ⟨a, b, c, (narrow_ok ok F hn hS).1⟩ fun v hv => by rw [Bool.eq_iff_iff, h v hv]; exact hS v
theorem good_wide {n : Nat} {es : List Edg} {fl : List Int} {f : Nat → Bool} (ok : NetOk n es) (F : IsFl n es fl) (hn : ¬ Rc es fl true 0 1) (h : ∀ v, v < n → (f v = true ↔ ¬ Rc es fl false 1 v)) : GoodS n es fl f := by
  classical
  have hS : ∀ v, decide (¬ Rc es fl false 1 v) = true ↔ ¬ Rc es fl false 1 v := fun v => Iff.of_eq decide_eq_true_eq
  obtain ⟨a, b, c⟩ := wide_sat (S := fun v => decide (¬ Rc es fl false 1 v)) ok F hn hS
  exact good_congr ok ⟨a, b, c, (wide_ok ok F hn hS).1⟩ fun v hv => by rw [Bool.eq_iff_iff, h v hv]; exact hS v
theorem narrow_in_wide {n : Nat} {es : List Edg} {fl : List Int} {f : Nat → Bool} (ok : NetOk n es) (F : IsFl n es fl) (hn : ¬ Rc es fl true 0 1) (h : ∀ v, v < n → (f v = true ↔ Rc es fl true 0 v)) {v : Nat} (hv : v < n) (hf : f v = true) : ¬ Rc es fl false 1 v := by
  classical
  have hS : ∀ v, decide (¬ Rc es fl false 1 v) = true ↔ ¬ Rc es fl false 1 v := fun v => Iff.of_eq decide_eq_true_eq
  have g := good_narrow ok F hn h
  exact (hS v).mp ((wide_ok (S := fun v => decide (¬ Rc es fl false 1 v)) ok F hn hS).2 f g.s0 g.s1 g.cost v hf)
theorem nats_lt {n : Nat} {f : Nat → Bool} : (((List.range n).filter f).map fun (v : Nat) => (v : Int)).Pairwise (· < ·) := by
  rw [List.pairwise_map]
  refine List.Pairwise.filter _ (List.pairwise_lt_range.imp fun h => ?_)
  omega
theorem nats_len {n : Nat} {f : Nat → Bool} : (((List.range n).filter f).map fun (v : Nat) => (v : Int)).length ≤ n := by
  have := List.length_filter_le f (List.range n)
  rw [List.length_range] at this
  rw [List.length_map]
  exact this
theorem nats_zero {n : Nat} {f : Nat → Bool} (hn : 2 ≤ n) (h : f 0 = true) : (((List.range n).filter f).map fun (v : Nat) => (v : Int))[0]? = some 0 := by
  obtain ⟨m, rfl⟩ : ∃ m, n = m + 1 := ⟨n - 1, by omega⟩
  rw [List.range_succ_eq_map, List.filter_cons_of_pos h]
  rfl
theorem fit_lst2 {ds : List PyData} (h1 : ds.length ≤ 100000) (h : ∀ d ∈ ds, fit d = true) : fit (.list ds) = true := by
  rw [fit, decide_eq_true h1, Bool.true_and]
  exact fitAll_iff.mpr h
theorem shaped_ints {S : List Int} (h : S.length ≤ 100000) : SeqAt.shaped (.list (S.map PyData.int)) = true := by
  refine shaped_fit (fit_lst2 (by rw [List.length_map]; exact h) fun d hd => ?_) (Nat.le_trans (depth_lst (n := 0) fun d hd => ?_) (by decide))
  · obtain ⟨v, _, rfl⟩ := List.mem_map.mp hd
    rfl
  · obtain ⟨v, _, rfl⟩ := List.mem_map.mp hd
    simp [PyData.depth]
def sp_law (K : PySem.W.Frag) : Sp := fun vs H Q _ => ∃ (G : Hp) (a : Addr) (ns : List Int), vs = [.ref a] ∧ Y.Ex G H ∧ SqL K G a (ns.map V.int) ∧ ∀ H', Q (.bl true) H'
theorem ok_law (T : Tx fa fn bx K mg) : FnOk P w K mg base CX0 6 (He.ga K "law") (fdOf K (He.ga K "law")) ["script"] (sp_law K) := by
  refine FunD.ok (F_law T) sc_law (fun vs H Q E h => ?_) (fun cdv A outer s H vs Q E hr h => ?_)
  · obtain ⟨_, _, _, rfl, _⟩ := h
    rfl
  · obtain ⟨G, l, ns, rfl, e, hl, q⟩ := h
    refine ⟨_, PSs.nox ((pss_cons (ps_set (i := 1) sc_law.nd rfl (Or.inl rfl) (pe_lst (pa_cons (pv 0) (pa_cons pe_int (pa_cons pe_int (pa_cons pe_int pa_nil))))))
      (pss_cons (ps_asg (Y.pe_callC (ok__law_grid T) (cal__law_grid T) (hr.mono (by decide)) (by rfl) pass0 (pa_cons (pv 1) pa_nil)) (Y.pg_tupK (K := K) (n := 2) rfl rfl (pgs_cons (pg_name (i := 7) sc_law.nd rfl (Or.inl rfl)) (pgs_cons (pg_name (i := 8) sc_law.nd rfl (Or.inl rfl)) pgs_nil))))
      (Evl.pss_cut (ps_if (pt_cmpR op_eq (Y.pe_callC (ok__law_draw T) (cal__law_draw T) (hr.mono (by decide)) (by rfl) pass0 (pa_cons (pv 1) (pa_cons pe_int pa_nil))) pe_int (nomark _))
      (pss_one (ps_asg (Y.pe_callC (ok__law_net T) (cal__law_net T) (hr.mono (by decide)) (by rfl) pass0 (pa_cons (pv 1) (pa_cons pe_int (pa_cons pe_int pa_nil)))) (Y.pg_tupK (K := K) (n := 2) rfl rfl (pgs_cons (pg_name (i := 7) sc_law.nd rfl (Or.inl rfl)) (pgs_cons (pg_name (i := 8) sc_law.nd rfl (Or.inl rfl)) pgs_nil)))))
      pss_nil)
      (pss_cons (ps_set (i := 2) sc_law.nd rfl (Or.inl rfl) (Y.pe_callSC (ok_greatest_flow T) (cal_greatest_flow T) (hr.mono (by decide)) (by rfl) takes0 (pa_cons (pv 7) (pa_cons (pe_callTy (Y.call_listK (K := K) rfl) (by rfl) (T.free 14) (by decide +kernel) (pa_cons (pv 8) pa_nil)) pa_nil))))
      (pss_cons (ps_if (pt_not (pt_val (Y.pe_callC (ok__law_is_flow T) (cal__law_is_flow T) (hr.mono (by decide)) (by rfl) pass0 (pa_cons (pv 7) (pa_cons (pv 8) (pa_cons (pv 2) pa_nil))))))
      (pss_one (ps_ret pe_bl))
      pss_nil)
      (pss_cons (ps_set (i := 3) sc_law.nd rfl (Or.inl rfl) (Y.pe_callC (ok__law_worth T) (cal__law_worth T) (hr.mono (by decide)) (by rfl) pass0 (pa_cons (pv 8) (pa_cons (pv 2) pa_nil))))
      (pss_cons (ps_set (i := 4) sc_law.nd rfl (Or.inl rfl) (Y.pe_callC (ok_narrow_side T) (cal_narrow_side T) (hr.mono (by decide)) (by rfl) pass0 (pa_cons (pv 7) (pa_cons (pe_callTy (Y.call_listK (K := K) rfl) (by rfl) (T.free 14) (by decide +kernel) (pa_cons (pv 8) pa_nil)) (pa_cons (pe_callTy (Y.call_listK (K := K) rfl) (by rfl) (T.free 14) (by decide +kernel) (pa_cons (pv 2) pa_nil)) pa_nil)))))
      (pss_cons (ps_set (i := 5) sc_law.nd rfl (Or.inr rfl) (Y.pe_callC (ok_wide_side T) (cal_wide_side T) (hr.mono (by decide)) (by rfl) pass0 (pa_cons (pv 7) (pa_cons (pe_callTy (Y.call_listK (K := K) rfl) (by rfl) (T.free 14) (by decide +kernel) (pa_cons (pv 8) pa_nil)) (pa_cons (pe_callTy (Y.call_listK (K := K) rfl) (by rfl) (T.free 14) (by decide +kernel) (pa_cons (pv 2) pa_nil)) pa_nil)))))
      (pss_cons (ps_for PassesOwn.never rfl (Y.pi_listK (K := K) rfl (pe_lst (pa_cons (pv 4) (pa_cons (pv 5) pa_nil)))) (pg_name (i := 6) sc_law.nd rfl (Or.inl rfl))
      (pss_cons (ps_if (PW.pt (pw_or (pt_cmpR (Y.op_neDK (K := K) rfl hr.units) (pv 6) (pe_callB (Y.call_srtSet (w := w) rfl rfl) (by rfl) (T.free 11) (by decide +kernel) (pa_cons (pe_callTy (Y.call_setOfIK (K := K) (w := w) rfl rfl rfl) (by rfl) (T.free 15) (by decide +kernel) (pa_cons (pv 6) pa_nil)) pa_nil)) (nomark _)) (pw_or (pt_cmpR op_ne (pe_ix (Y.ix_listK (K := K) rfl) (pv 6) pe_int (fun _ _ => rfl)) pe_int (nomark _)) (pw_or (pt_cmpR (Y.op_inK (K := K) rfl) pe_int (pv 6) (by rfl)) (pw_or1 (pt_cmpR op_ne (Y.pe_callC (ok__law_cost T) (cal__law_cost T) (hr.mono (by decide)) (by rfl) pass0 (pa_cons (pv 8) (pa_cons (pv 6) pa_nil))) (pv 3) (nomark _)))))))
      (pss_one (ps_ret pe_bl))
      pss_nil)
      (pss_one (ps_if (pt_val (Y.pe_callC (ok__law_left T) (cal__law_left T) (hr.mono (by decide)) (by rfl) pass0 (pa_cons (pv 8) (pa_cons (pv 2) (pa_cons (pv 6) pa_nil)))))
      (pss_one (ps_ret pe_bl))
      pss_nil))))
      (pss_one (ps_ret (pe_cmpR op_eq (pe_callB (Y.call_lenK (K := K) rfl) (by rfl) (T.free 8) (by decide +kernel) (pa_cons (pe_lc (own := [("node", 9)]) rfl sc_law.nd (Y.pi_listK (K := K) rfl (pv 4)) (blkOk_by (own := [("node", 9)]) (by kernel_rfl)) (fun _ _ _ _ _ => (pg_name (i := 9) sc_law.nd rfl (Or.inl rfl))) (fun _ _ _ _ _ => (pts_one (pt_cmpR (Y.op_notInK (K := K) rfl) (pv 9) (pv 5) (by rfl)))) (fun _ _ _ _ _ => (pv 9))) pa_nil)) pe_int (nomark _)))))))))))))), ?_⟩
    walk_at "sx"
    refine g_lstM e (by show 4 ≤ sizeLine; decide) fun a H1 n1 ha ha1 ga => ?_
    walk_at "sx"
    have hs1 : StAt K a G H1 := ⟨ga, l, ns, 0, 0, 1, ha1, hl, by decide, by decide⟩
    refine ⟨G, a, rfl, n1.gh, hs1, fun t p n es G2 H2 n2 hp0 hs2 hT hL ok hn => ?_⟩
    refine g_un2R n2.gh hT ?_
    have pa : p ≠ a := fun z => hs1.live (z ▸ hp0)
    have hp1 : H p = none := n1.fresh hp0
    walk_at "sx"
    show Evl.tCut _ _ _ _ _
    refine ⟨fun σ' H' => ∃ p n es G' y2 y3 y4 y5 y6, σ' = [some (.ref l), some (.ref a), y2, y3, y4, y5, y6, some (.int ((n : Nat) : Int)), some (.ref p), none] ∧ Y.Ex G' H' ∧ StAt K a G' H' ∧ LstAt K p G' H' (es.map edD) ∧ NetOk n es ∧ n ≤ 20, ?_, ?_⟩
    · walk_at "sx"
      refine ⟨G2, a, 2, rfl, n2.gh, hs2, by decide, by decide, fun c H3 c0 c1 n3 hs3 => ?_⟩
      walk_at "sx"
      refine g_dec (fun h => ?_) (fun h => ?_) <;> walk_at "sx"
      · refine ⟨G2, a, 19, 60, rfl, n3.gh, hs3, by decide, by decide, by decide, by decide, fun t' p' n' es' G4 H4 n4 hp' hs4 hT' hL' ok' hn' hl' => ?_⟩
        refine g_un2R n4.gh hT' ?_
        exact ⟨p', n', es', G4, _, _, _, _, _, rfl, n4.gh, hs4, hL', ok', by omega⟩
      · exact ⟨p, n, es, G2, _, _, _, _, _, rfl, n3.gh, hs3, hL.go n3 (by simp [pa]), ok, by omega⟩
    clear hs2 hL ok hn pa hp0 hp1 n2 hT
    rintro σ' H3 ⟨p, n, es, G3, y2, y3, y4, y5, y6, rfl, e3, hs3, hL, ok, hn⟩
    have n2' := ok.two
    have el := ok.len
    walk_at "sx"
    refine g_listV e3 hL.lsv fun c1 H4 n4 _ hC1 => ?_
    walk_at "sx"
    have hL4 := hL.go n4 (by simp)
    refine ⟨G3, .ref c1, n, es.map eT, rfl, n4.gh, by rw [eT_d]; exact hC1.lsv, .inr (.inr ⟨n, es, rfl, rfl, ok, fun fa G5 H5 fl n5 hfa hF F0 hrc => ?_⟩)⟩
    walk_at "sx"
    have hL5 := hL4.go n5 (by simp)
    refine ⟨G5, .ref p, .ref fa, n, es, fl, rfl, n5.gh, hL5.lsv, hF.lsv, ok, fun G6 H6 n6 => ?_⟩
    have hflb : isFlB n es fl = true := isFl_iff.mpr F0
    rw [hflb]
    refine ⟨_, rfl, ?_⟩
    refine g_nbool (fun h => nomatch h) (fun _ => ?_)
    have hL6 := hL5.go n6 (by simp)
    have hF6 := hF.go n6 (by simp)
    walk_at "sx"
    refine ⟨G6, .ref p, .ref fa, es, fl, rfl, n6.gh, hL6.lsv, hF6.lsv, F0.len, by omega, fun G7 H7 n7 => ?_⟩
    have hL7 := hL6.go n7 (by simp)
    have hF7 := hF6.go n7 (by simp)
    walk_at "sx"
    refine g_listV n7.gh hL7.lsv fun c2 H8 n8 _ hC2 => ?_
    walk_at "sx"
    refine g_listV n8.gh (hF7.go n8 (by simp)).lsv fun c3 H9 n9 _ hC3 => ?_
    walk_at "sx"
    have n79 := n8.trans n9
    refine ⟨G7, .ref c2, .ref c3, n, es, fl, rfl, n9.gh, (hC2.go n9 (by simp)).lsv, hC3.lsv, ok, F0.len, by omega, fun r1 G10 H10 f1 n10 _ hf1 hR1 => ?_⟩
    walk_at "sx"
    have n710 := n79.trans n10
    have hL10 := hL7.go n710 (by simp)
    have hF10 := hF7.go n710 (by simp)
    refine g_listV n10.gh hL10.lsv fun c4 H11 n11 _ hC4 => ?_
    walk_at "sx"
    refine g_listV n11.gh (hF10.go n11 (by simp)).lsv fun c5 H12 n12 _ hC5 => ?_
    walk_at "sx"
    have n1012 := n11.trans n12
    refine ⟨G10, .ref c4, .ref c5, n, es, fl, rfl, n12.gh, (hC4.go n12 (by simp)).lsv, hC5.lsv, ok, F0.len, fun r2 G13 H13 f2 n13 _ hf2 hR2 => ?_⟩
    walk_at "sx"
    have n1013 := n1012.trans n13
    have hL13 := hL10.go n1013 (by simp)
    have hF13 := hF10.go n1013 (by simp)
    have hR13 := hR1.go n1013 (by simp)
    have g1 := good_narrow ok F0 hrc hf1
    have g2 := good_wide ok F0 hrc hf2
    have hsub : ∀ v, v < n → f1 v = true → f2 v = true := fun v hv h => (hf2 v hv).mpr (narrow_in_wide ok F0 hrc hf1 hv h)
    rw [natsD_int] at hR2 hR13
    refine g_lstM n13.gh (by show 2 ≤ sizeLine; decide) fun sl H14 n14 hsl hsl1 gsl => ?_
    refine g_walkV hsl1 ?_
    have hL14 := hL13.go n14 (by simp)
    have hF14 := hF13.go n14 (by simp)
    have hR14 := hR13.go n14 (by simp)
    have hW14 := hR2.go n14 (by simp)
    refine g_forV (K := K) (M := []) hsl1 (by simp) n14.gh (fun i σ G' H' => ∃ y6, σ = [some (.ref l), some (.ref a), some (.ref fa), some (.int (netAt es fl 0)), some (.ref r1), some (.ref r2), y6, some (.int (n : Int)), some (.ref p), none]) ⟨_, rfl⟩ ?_ ?_
    · rintro i v σ' G15 H15 hv n15 ⟨y6, rfl⟩
      have hL15 := hL14.go n15 (by simp)
      have hF15 := hF14.go n15 (by simp)
      have hN15 := hR14.go n15 (by simp)
      have hW15 := hW14.go n15 (by simp)
      obtain ⟨r, f, rfl, hr, g⟩ : ∃ r f, v = .ref r ∧ LstAt K r G15 H15 ((((List.range n).filter f).map fun (v : Nat) => (v : Int)).map .int) ∧ GoodS n es fl f := by
        match i, hv with
        | 0, h => cases h; exact ⟨r1, f1, rfl, hN15, g1⟩
        | 1, h => cases h; exact ⟨r2, f2, rfl, hW15, g2⟩
        | i + 2, h => simp at h
      have gl := good_list ok g
      have hlen := nats_len (n := n) (f := f)
      have hlt := nats_lt (n := n) (f := f)
      have hz := nats_zero n2' g.s0
      generalize ((List.range n).filter f).map (fun (v : Nat) => (v : Int)) = S at hr gl hlen hlt hz
      walk_at "sx"
      refine g_setOfI n15.gh hr.lsv (by omega) fun so c H155 n155 _ hcl hso => ?_
      walk_at "sx"
      refine g_srtSet (K := K) n155.gh hso (by omega) hlt fun sr H16 n16' _ hSr => ?_
      have n16 := n155.trans n16'
      walk_at "sx"
      have hr16 := hr.go n16 (by simp)
      refine g_neL n16.gh hr16 hSr (shaped_ints (by omega)) ?_
      refine ⟨_, rfl, ?_⟩
      refine g_bool (fun h => nomatch h) (fun _ => ?_)
      walk_at "sx"
      refine g_ixLs hr16 (k := 0) (d := .int 0) (by rw [List.getElem?_map, hz]; rfl) rfl fun v1 dv1 => ?_
      cases dp_int dv1
      walk_at "sx"
      refine g_ndec (fun h => absurd rfl h) (fun _ => ?_)
      walk_at "sx"
      refine g_inIF n16.gh hr16.lsv ?_
      rw [show decide ((1 : Int) ∈ S) = false from gl.s1]
      refine ⟨_, rfl, ?_⟩
      refine g_bool (fun h => nomatch h) (fun _ => ?_)
      walk_at "sx"
      refine ⟨G15, .ref p, .ref r, es, S, rfl, n16.gh, (hL15.go n16 (by simp)).lsv, hr16.lsv, by omega, fun G17 H17 n17 => ?_⟩
      rw [gl.cost]
      walk_at "sx"
      refine g_ndec (fun h => absurd rfl h) (fun _ => ?_)
      walk_at "sx"
      have n1517 := n16.trans n17
      refine ⟨G17, .ref p, .ref fa, .ref r, es, fl, S, rfl, n17.gh, (hL15.go n1517 (by simp)).lsv, (hF15.go n1517 (by simp)).lsv, (hr.go n1517 (by simp)).lsv, by omega, F0.len, gl.sat, fun G18 H18 n18 => ?_⟩
      refine ⟨_, rfl, ?_⟩
      refine g_bool (fun h => nomatch h) (fun _ => ?_)
      walk_at "sx"
      exact ⟨G18, n15.trans (n1517.trans n18), _, rfl⟩
    · rintro σ' G15 H15 n15 ⟨y6, rfl⟩
      walk_at "sx"
      have hN15 := hR14.go n15 (by simp)
      have hW15 := hW14.go n15 (by simp)
      refine g_walkLs hN15 fun Sr => ?_
      intro A hA
      refine g_lcPS (K := K) (M := []) (es := fun _ => []) (Sr [] (by simp)) n15.gh hA (by simp) (by rw [List.length_map]; have := nats_len (n := n) (f := f1); exact szl (by omega)) rfl (fun i d v1 acc G16 H16 hi d1 n16 _ QE QN k1 k2 => ?_) fun G16 H16 n16 hE16 => ?_
      · rw [List.getElem?_map, List.getElem?_map] at hi
        obtain ⟨z, hz, rfl⟩ := Option.map_eq_some_iff.mp hi
        obtain ⟨v, hv, rfl⟩ := Option.map_eq_some_iff.mp hz
        cases dp_int d1
        refine ⟨by first | rfl | exact wipe1, ?_⟩
        walk_at "sx"
        refine g_inIT n16.gh (hW15.go n16 (by simp)).lsv ?_
        obtain ⟨h1, h2⟩ := List.mem_filter.mp (List.mem_of_getElem? hv)
        have hin : (v : Int) ∈ ((List.range n).filter f2).map (fun (v : Nat) => (v : Int)) := List.mem_map.mpr ⟨v, List.mem_filter.mpr ⟨h1, hsub v (List.mem_range.mp h1) h2⟩, rfl⟩
        rw [decide_eq_true hin]
        refine ⟨_, rfl, ?_⟩
        refine g_bool (fun h => nomatch h) (fun _ => ?_)
        exact k2 G16 H16 (Nx.refl n16.gh) rfl
      · walk_at "sx"
        refine g_lenLs hE16 ?_
        walk_at "sx"
        exact q _
end
end A
set_option maxHeartbeats 0
namespace A
open PySem PySem.Spec PyProof.Rows L2 Y
abbrev R : PySem.W.OpenRow := PySem.W.OpenLaw.row PySem.Challenge.rw_laidviews_k25_great_nets
abbrev hk : PySem.W.Hook := He.hookX 4 fa fn [] [] bx
def ob (s : PySem.W.SharedT) : He.AlX := He.obsX 4 fa fn [] [] bx (HandSHeadRun.getT s)
theorem ob_eq (s : PySem.W.SharedT) : ob s = hk.obs s.abs := He.obsX_eq (HandSHeadRun.getT_eq s)
def loose : List Str := (["Refused", "Misused", "is_whole", "is_within", "SOURCE", "SINK", "FEWEST_NODES", "_is_edge", "check_net", "_steps_at", "_left", "_distances", "_send", "_send_all", "greatest_flow"] : List Str) ++ (["narrow_side", "wide_side", "_law_draw", "_law_net", "_law_cost", "_law_sides", "_law_is_flow", "_law_worth", "_law_grid", "_law_left"] : List Str)
theorem run (w : World) : HandSHeadRun.RunEq R (PySem.W.view R.prog [29]) hk ob 6000 loose w := by
  intro os
  kernel_rfl
theorem tx {K : PySem.W.Frag} {w : World} {h : Heap} {mg : Str → Option Value} (X : K.In h) (G : h.Ns mainGlobals mg) (c : He.SaysX fa fn [] [] bx w h K) : Tx fa fn bx K mg := ⟨congrArg Prod.fst c.t, c.more, h, X, G⟩
theorem bindsLaw {K : PySem.W.Frag} {mg : Str → Option Value} (T : Tx fa fn bx K mg) (s : Shared) (v : Value) : BindsTo s (fdOf K (He.ga K "law")) ⟨[v], []⟩ [("script", v)] :=
  FunD.bindsA (ps := ["script"]) (F_law T) (fun _ _ _ _ _ _ us hl => match us, hl with | [_], _ => rfl) s [v] rfl
end A
open PySem PySem.W PySem.Calls PyProof.Rows
theorem PySem.Challenge.cw_laidviews_k25_great_nets_holds : PySem.Challenge.rw_laidviews_k25_great_nets.Holds := by
  w_on; o_law
  refine HandSHeadRun.head_any (r := A.R) (q := view A.R.prog [29]) (H := A.hk) (ob := A.ob) (M := 6000) (loose := A.loose) (d := HandSHeadRun.topDef A.R.prog 29) (kwd := []) A.ob_eq
    (by kernel_rfl) (fun s => by kernel_rfl) A.run (by kernel_rfl) (by kernel_rfl) (by kernel_rfl) (by rfl) (by first | assumption | decide +kernel) (by decide +kernel) ⟨rfl, rfl, rfl, rfl, rfl, by decide +kernel⟩ ?hw ?hc
  case hw => w_witness2
  case hc =>
    refine L2.walk_ofE (l := PySem.Challenge.rw_laidviews_k25_great_nets) (n := 63) (k := 6) (x := "script") (CX := L2.CX0) rfl (by decide) (by kernel_rfl) ⟨rfl, by decide, by decide⟩ ?F (fun _ _ _ _ z => z)
    intro w mg f h Z G hmg0
    obtain ⟨K, KX, c⟩ := Z
    have T := A.tx KX G c
    have hmg : mg ("law" : PySem.Str) = some (.ref f) := by
      have e : (HandSHeadRun.topDef A.R.prog 29).name = ("law" : PySem.Str) := by kernel_rfl
      rw [← e]
      exact hmg0
    have e := hmg.symm.trans (A.cal_law T).g
    cases e
    exact ⟨K, _, A.sp_law K, KX, A.bindsLaw T, fun H a ns hl _ hS => ⟨H, a, ns, rfl, Y.Ex.refl H, hS,  fun _ => rfl⟩, fun base _ _ => A.ok_law T⟩

